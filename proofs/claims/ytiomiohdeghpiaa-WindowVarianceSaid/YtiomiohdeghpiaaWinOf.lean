/- The contracts of limits.Samples and of window's beginnings and Of over samples. -/
import Derived.Test.YtiomiohdeghpiaaSrcList
namespace Go.Proofs.Ytiomiohdeghpiaa.Wi
open Go.ChangeShapes Go.WideShapes Go.RowKit Wo Sr
set_option linter.unusedVariables false
/-- a slice that reads as these numbers -/
def Zi (w : World) (A : Option Addr) (n : Nat) (L : List Int) : Prop := L.length = n ∧ (0 < n → ∃ ad : Addr, A = some ad ∧ ad.block < w.heap.size ∧ ∀ j, j < n → w.cell? (ad.add j) = some (.int .i64 (L.getD j 0)))
theorem Zi.bel {w w' : World} {A : Option Addr} {n : Nat} {L : List Int} (h : Zi w A n L) (hb : Bel w w') : Zi w' A n L :=
  ⟨h.1, fun hn => by
    obtain ⟨ad, e, hx, hc⟩ := h.2 hn
    exact ⟨ad, e, by have := hb.size; omega, fun j hj => hb.kp (hc j hj)⟩⟩
theorem row_zi {w : World} {base k : Nat} {v : Value} {L : List Int} (h : w.ownsRow base 3 1 v k (zs L)) (hk : L.length = k) : ∃ A c, v = .slice A k c ∧ Zi w A k L ∧ (A = none → c = 0) := by
  rcases Nat.eq_zero_or_pos k with h0 | h0
  · subst h0
    have hL : L = [] := List.eq_nil_of_length_eq_zero hk
    subst hL
    rcases h.2 with ⟨rfl, _⟩ | ⟨g, cap, cur, rfl, _⟩
    · exact ⟨none, 0, rfl, ⟨rfl, fun h => by omega⟩, fun _ => rfl⟩
    · exact ⟨some ⟨g, 0, none⟩, cap, rfl, ⟨rfl, fun h => by omega⟩, fun h => by cases h⟩
  · obtain ⟨g, cap, rfl, hb, hlt⟩ := h.form h0
    refine ⟨some ⟨g, 0, none⟩, cap, rfl, ⟨hk, fun _ => ⟨_, rfl, hlt, fun j hj => ?_⟩⟩, fun h => by cases h⟩
    exact h.cells (g := g) rfl j _ (zs_at (by omega))
theorem own_zi {w : World} {base k h c : Nat} {L : List Int} (hr : w.ownsRow base 3 1 (.slice (some ⟨h, 0, none⟩) k c) k (zs L)) (hk : L.length = k) : Zi w (some ⟨h, 0, none⟩) k L := by
  obtain ⟨A, c', e, hz, _⟩ := row_zi hr hk
  injection e with e1 e2 e3
  subst e1
  exact hz
theorem sample_ok (n : Int) (h0 : -1000 ≤ n) (h1 : n ≤ 1000) (w : World) : Calls Try.prog 41 #[.int .i64 n] w fun e w' => e = .returned (.bool true) ∧ w = w' := by
  go_enter Try.func41, Try.ntmps41
  go_wp2
  go_ret
  exact ⟨rfl, rfl⟩
set_option maxHeartbeats 4000000 in
theorem samples_ok (A : Option Addr) (c n : Nat) (L : List Int) (hn : n ≤ 1000000) (hs : Sam L) (w : World) (h : Zi w A n L) :
    Calls Try.prog 31 #[.slice A n c] w fun e w' => e = .returned (.bool true) ∧ Bel w w' := by
  have H1 := Lib.hid h
  have HS := Lib.hid hs
  have ni : (n : Int) ≤ 1000000 := by omega
  clear h hs
  go_enter Try.func31, Try.ntmps31
  go_wp2
  go_loopw [7] (fun s7 wr => ∃ (k : Nat) (V : World), V = wr ∧ k ≤ n ∧ s7 = .int .i64 (k : Int) ∧ Bel w wr) (fun s7 _ => n - (intOf s7).toNat)
  case atStart => exact ⟨0, _, rfl, by omega, rfl, Bel.rf⟩
  case round =>
    obtain ⟨k, wr, hwr, hk, rfl, hb⟩ := hrel
    subst hwr
    have HB := Lib.hid hb
    rcases Nat.lt_or_ge k n with hlt | hge
    · obtain ⟨ad, rfl, hab, hac⟩ := (H1.out.bel hb).2 (by omega)
      have c1 := hac k hlt
      have hx := HS.out.at k
      obtain ⟨x, hxe⟩ : ∃ x, L.getD k 0 = x := ⟨_, rfl⟩
      rw [hxe] at c1 hx
      obtain ⟨x0, x1⟩ := hx
      have ki : (k : Int) < (n : Int) := by omega
      clear hb hac hab hxe
      go_wp2_with (go_at_call 41; refine (sample_ok x x0 x1 _).mono ?_; rintro e w' ⟨rfl, rfl⟩)
      go_roundw
      case rel => exact ⟨k + 1, _, rfl, by omega, by go_num, by first | exact HB.out | exact HB.out.drwN _ | exact HB.out.drw⟩
      case measure => simp [intOf]; omega
    · obtain rfl : k = n := by omega
      clear hb
      go_wp2
      go_ret
      exact ⟨rfl, HB.out⟩
theorem made_i64 (n : Nat) : madeCells (Value.int .i64 0).cells (n * 1) = (zs (List.replicate n 0)).toArray := by
  apply Array.ext
  · simp [madeCells, zs]
  · intro i h1 h2
    simp [madeCells, zs, Nat.mod_one, Value.cells]
/-- 'make([]T, l, c)', the length and the capacity variables -/
theorem wpList_make_any {P : Program} (w : World) {ops : Array Oper} {rest : List Oper} {o : Oper} {a : Act} {Q : Exit → Act → World → Prop}
    (hg : o.guard = none) (l c : Operand) (t : TypeId) (hop : o.op = Op.makeSlice t l c)
    (e : TypeId) (i : TypeInfo) (z : Value) (size : Nat) (h1 : P.underlying t = some (.slice e)) (h2 : P.info? e = some i) (h3 : i.zero = some z) (h4 : i.size = size)
    (kl kc : IntKind) (L C : Int) (m n : Nat) (hl : a.eval l = .int kl L) (hc : a.eval c = .int kc C) (hL : L = (m : Int)) (hC : C = (n : Int)) (hmn : m ≤ n) (b2 : i.bytes * n ≤ 281474976710656) (b3 : n ≤ 4611686018427387904)
    (hK : wpList P ops Q rest (a.put o.dst (.slice (some ⟨w.heap.size, 0, none⟩) m n)) (w.alloc (.cells (madeCells z.cells (n * size)) e))) :
    wpList P ops Q (o :: rest) a w := by
  refine wpList_plain hg fun K hK' => ?_
  have hb' : (i.bytes : Int) * (n : Int) ≤ 281474976710656 := by
    have h : ((i.bytes * n : Nat) : Int) ≤ 281474976710656 := by omega
    rwa [Int.natCast_mul] at h
  have hr := run_make (P := P) w t e i z h1 h2 h3 kl kc m n (by omega) (by omega) hb' (by omega)
  simp only [Int.toNat_natCast] at hr
  subst hL
  subst hC
  subst h4
  unfold Oper.wp
  simp [execOp, hop, hl, hc, hr, Result.andThen]
  exact hK' _ _ hK
/-- the sums of the first k + 1 beginnings -/
def bg (f : Int → Int) (L : List Int) (k : Nat) : List Int := (List.range (k + 1)).map fun i => su f (L.take i)
theorem bg_len (f : Int → Int) (L : List Int) (k : Nat) : (bg f L k).length = k + 1 := by simp [bg]
theorem bg_at (f : Int → Int) (L : List Int) (k : Nat) : (bg f L k).getD k 0 = su f (L.take k) := by
  rw [List.getD_eq_getElem?_getD, bg, List.getElem?_map, List.getElem?_range (by omega)]; rfl
theorem bg_next (f : Int → Int) (L : List Int) (k : Nat) : bg f L k ++ [su f (L.take (k + 1))] = bg f L (k + 1) := by
  unfold bg
  rw [List.range_succ (n := k + 1), List.map_append]
  rfl
/-- k numbers have been added -/
def BI (f : Int → Int) (L : List Int) (base : Nat) (w : World) (s5 s14 : Value) (wr : World) : Prop := ∃ (k : Nat) (V : World) (u : Value), V = wr ∧ u = s5 ∧ k ≤ L.length ∧ s14 = .int .i64 (k : Int) ∧
  wr.ownsRow base 3 1 s5 (k + 1) (zs (bg f L k)) ∧ Bel w wr ∧ base ≤ wr.heap.size
theorem bi_step {f : Int → Int} {L : List Int} {k h cap : Nat} {w wr w2 : World} {s5 : Value} {y : Int} (hk : k < L.length) (hy : y = su f (L.take (k + 1)))
    (hown : wr.ownsRow w.heap.size 3 1 s5 (k + 1) (zs (bg f L k))) (hb : Bel w wr) (hbase : w.heap.size ≤ wr.heap.size)
    (hown2 : w2.ownsRow w.heap.size 3 1 (.slice (some ⟨h, 0, none⟩) (k + 1 + 1) cap) (k + 1 + 1) (zs (bg f L k) ++ [.int .i64 y])) (hgr : (wr.alloc (.cells #[.int .i64 y] 3)).grownBy w2 s5.ownBlock) :
    BI f L w.heap.size w (.slice (some ⟨h, 0, none⟩) (k + 1 + 1) cap) (.int .i64 ((k : Int) + 1)) w2 := by
  have hrow : ∀ b, s5.ownBlock = some b → w.heap.size ≤ b := fun b e => (hown.lt b e).1
  refine ⟨k + 1, _, _, rfl, rfl, by omega, by congr 1, ?_, ?_, ?_⟩
  · rw [← bg_next, zs_app, ← hy]; exact hown2
  · have h2 : Bel w (wr.alloc (.cells #[.int .i64 y] 3)) := hb.al _
    exact Below.grown h2 hgr h2.size (fun b e => by have := hrow b e; omega)
  · have := hgr.size
    simp at *
    omega
theorem add_ix (s x : Int) (h0 : -4000000000 ≤ s) (h1 : s ≤ 4000000000) (x0 : -1000 ≤ x) (x1 : x ≤ 1000) (w : World) :
    Calls Try.prog 33 #[.int .i64 s, .int .i64 x] w fun e w' => e = .returned (.int .i64 (s + ix x)) ∧ w = w' := by
  go_enter Try.func33, Try.ntmps33
  go_wp2
  go_ret
  exact ⟨ret_int (by rfl), rfl⟩
set_option maxHeartbeats 8000000 in
set_option maxRecDepth 100000 in
theorem beg_ix (A : Option Addr) (c n : Nat) (L : List Int) (hn : n ≤ 2000) (hs : Sam L) (w : World) (h : Zi w A n L) :
    Calls Try.prog 32 #[.slice A n c, .func (.func 33) #[] #[]] w fun e w' =>
      ∃ g cap, e = .returned (.slice (some ⟨g, 0, none⟩) (n + 1) cap) ∧ w'.ownsRow w.heap.size 3 1 (.slice (some ⟨g, 0, none⟩) (n + 1) cap) (n + 1) (zs (begs ix L)) ∧ Bel w w' := by
  obtain ⟨i0, hi0, hz0, hz1, hz2⟩ := info_parts info_int
  have HI := Lib.hid (And.intro hi0 (And.intro hz0 (And.intro hz1 hz2)))
  clear hi0 hz0 hz1 hz2
  have H1 := Lib.hid h
  have HS := Lib.hid hs
  have hl := h.1
  have ni : (n : Int) ≤ 2000 := by omega
  have HR0 : Hid (BI ix L w.heap.size w (.slice (some ⟨w.heap.size, 0, none⟩) 1 (n + 1)) (.int .i64 0) (w.alloc (.cells (zs (List.replicate (n + 1) 0)).toArray 3))) := by
    refine ⟨0, _, _, rfl, rfl, by omega, rfl, ⟨by simp [zs_len, bg_len], .inr ⟨w.heap.size, n + 1, _, rfl, Nat.le_refl _, heap_alloc_new w _, by omega, by unfold maxLen; omega, by simp [zs_len], ?_⟩⟩, Bel.rf.al _, by simp⟩
    simp [zs, bg, su, List.replicate_succ]
  clear h hs
  go_enter Try.func32, Try.ntmps32
  go_wp2_with (refine wpList_make_any _ rfl (.const (.int .i64 1)) (.tmp 10) 22 rfl 3 i0 (.int .i64 0) 1 Try.underlying22 HI.out.1 HI.out.2.1 HI.out.2.2.1 .i64 .i64 _ _ 1 (n + 1) rfl rfl rfl (by omega) (by omega) (by rw [HI.out.2.2.2]; omega) (by omega) ?_; rw [made_i64])
  go_loopw [5, 14] (fun s5 s14 wr => BI ix L w.heap.size w s5 s14 wr) (fun _ s14 _ => n - (intOf s14).toNat)
  case atStart => exact HR0.out
  case round =>
    clear HR0
    obtain ⟨k, wr, u5, hwr, hu5, hk, rfl, hown, hb, hbase⟩ := hrel
    subst hwr hu5
    have HO := Lib.hid hown
    have HB := Lib.hid hb
    obtain ⟨g, cap, rfl, hgb, hgl⟩ := hown.form (by omega)
    rcases Nat.lt_or_ge k n with hlt | hge
    · obtain ⟨ad, rfl, hab, hac⟩ := (H1.out.bel hb).2 (by omega)
      have c1 := hac k hlt
      have c2 : wr.cell? ⟨g, k, none⟩ = some (.int .i64 (su ix (L.take k))) := by
        have := hown.cells (g := g) rfl k _ (zs_at (by rw [bg_len]; omega))
        rw [bg_at] at this
        have e : (⟨g, 0, none⟩ : Addr).add k = ⟨g, k, none⟩ := by unfold Addr.add; split <;> simp_all
        first | rwa [e] at this | simpa using this
      have hx := HS.out.at k
      have hnx := su_next ix L k (by omega)
      have hsb := su_in (HS.out.take k)
      have htl : ((L.take k).length : Int) ≤ 2000 := by have := List.length_take_le k L; omega
      obtain ⟨x, hxe⟩ : ∃ x, L.getD k 0 = x := ⟨_, rfl⟩
      rw [hxe] at c1 hx hnx
      obtain ⟨s, hse⟩ : ∃ s, su ix (L.take k) = s := ⟨_, rfl⟩
      rw [hse] at c2 hsb hnx
      obtain ⟨x0, x1⟩ := hx
      have HNX := Lib.hid hnx
      have hs0 : -4000000000 ≤ s := by omega
      have hs1 : s ≤ 4000000000 := by omega
      have ki : (k : Int) < (n : Int) := by omega
      have ki2 : (k : Int) < ((k + 1 : Nat) : Int) := by omega
      clear hb hac hab hxe hown hnx hsb htl hse
      go_wp2_with (first
        | (go_at_call 33; refine (add_ix s x hs0 hs1 x0 x1 _).mono ?_; rintro e w' ⟨rfl, rfl⟩)
        | (at_builtin; refine wpList_append_lies _ (by rfl) _ _ 22 (by rfl) w.heap.size 3 i0 _ 1 8 Try.underlying22 HI.out.1 HI.out.2.1 HI.out.2.2.1 HI.out.2.2.2 (by rfl) (by omega) (.slice (some ⟨g, 0, none⟩) (k + 1) cap) (k + 1) (zs (bg ix L k)) (by rfl) (HO.out.alloc _) ⟨wr.heap.size, 0, none⟩ 1 1 [.int .i64 (s + ix x)] (by rfl) (by rfl) (World.news_of_block (cs := #[.int .i64 (s + ix x)]) (t := 3) (fr := (0, 0)) (heap_alloc_new wr _)) (by simp [Value.oneCell']) (by omega) (by unfold maxLen; omega) (by omega) (by simp; omega) (wr.heap.size + 1) (by simp) ?_; intro h cap' w5 hown4 hgrow hat hlt4))
      have hstep := bi_step (by omega) HNX.out.symm HO.out HB.out hbase hown4 hgrow
      have HST := Lib.hid hstep
      clear hstep hown4 hgrow hat
      go_wp2
      go_roundw
      case rel => exact HST.out
      case measure => simp [intOf]; omega
    · obtain rfl : k = n := by omega
      clear hb hown
      go_wp2
      go_ret
      have hl2 : L.length = k := H1.out.1
      refine ⟨g, cap, rfl, ?_, HB.out⟩
      have e : begs ix L = bg ix L k := by unfold begs bg; rw [hl2]
      rw [e]
      exact HO.out
theorem add_sq (s x : Int) (h0 : -4000000000 ≤ s) (h1 : s ≤ 4000000000) (x0 : -1000 ≤ x) (x1 : x ≤ 1000) (w : World) :
    Calls Try.prog 34 #[.int .i64 s, .int .i64 x] w fun e w' => e = .returned (.int .i64 (s + sq x)) ∧ w = w' := by
  have hq := sq_in x0 x1
  have hm : wrap64 (x * x) = x * x := IntWalk.wrap64_in _ (by omega)
  have hm2 : IntKind.i64.wrap (x * x) = x * x := IntWalk.i64_in _ (by omega)
  go_enter Try.func34, Try.ntmps34
  go_wp2
  go_ret
  exact ⟨ret_int (by rfl), rfl⟩
set_option maxHeartbeats 8000000 in
set_option maxRecDepth 100000 in
theorem beg_sq (A : Option Addr) (c n : Nat) (L : List Int) (hn : n ≤ 2000) (hs : Sam L) (w : World) (h : Zi w A n L) :
    Calls Try.prog 32 #[.slice A n c, .func (.func 34) #[] #[]] w fun e w' =>
      ∃ g cap, e = .returned (.slice (some ⟨g, 0, none⟩) (n + 1) cap) ∧ w'.ownsRow w.heap.size 3 1 (.slice (some ⟨g, 0, none⟩) (n + 1) cap) (n + 1) (zs (begs sq L)) ∧ Bel w w' := by
  obtain ⟨i0, hi0, hz0, hz1, hz2⟩ := info_parts info_int
  have HI := Lib.hid (And.intro hi0 (And.intro hz0 (And.intro hz1 hz2)))
  clear hi0 hz0 hz1 hz2
  have H1 := Lib.hid h
  have HS := Lib.hid hs
  have hl := h.1
  have ni : (n : Int) ≤ 2000 := by omega
  have HR0 : Hid (BI sq L w.heap.size w (.slice (some ⟨w.heap.size, 0, none⟩) 1 (n + 1)) (.int .i64 0) (w.alloc (.cells (zs (List.replicate (n + 1) 0)).toArray 3))) := by
    refine ⟨0, _, _, rfl, rfl, by omega, rfl, ⟨by simp [zs_len, bg_len], .inr ⟨w.heap.size, n + 1, _, rfl, Nat.le_refl _, heap_alloc_new w _, by omega, by unfold maxLen; omega, by simp [zs_len], ?_⟩⟩, Bel.rf.al _, by simp⟩
    simp [zs, bg, su, List.replicate_succ]
  clear h hs
  go_enter Try.func32, Try.ntmps32
  go_wp2_with (refine wpList_make_any _ rfl (.const (.int .i64 1)) (.tmp 10) 22 rfl 3 i0 (.int .i64 0) 1 Try.underlying22 HI.out.1 HI.out.2.1 HI.out.2.2.1 .i64 .i64 _ _ 1 (n + 1) rfl rfl rfl (by omega) (by omega) (by rw [HI.out.2.2.2]; omega) (by omega) ?_; rw [made_i64])
  go_loopw [5, 14] (fun s5 s14 wr => BI sq L w.heap.size w s5 s14 wr) (fun _ s14 _ => n - (intOf s14).toNat)
  case atStart => exact HR0.out
  case round =>
    clear HR0
    obtain ⟨k, wr, u5, hwr, hu5, hk, rfl, hown, hb, hbase⟩ := hrel
    subst hwr hu5
    have HO := Lib.hid hown
    have HB := Lib.hid hb
    obtain ⟨g, cap, rfl, hgb, hgl⟩ := hown.form (by omega)
    rcases Nat.lt_or_ge k n with hlt | hge
    · obtain ⟨ad, rfl, hab, hac⟩ := (H1.out.bel hb).2 (by omega)
      have c1 := hac k hlt
      have c2 : wr.cell? ⟨g, k, none⟩ = some (.int .i64 (su sq (L.take k))) := by
        have := hown.cells (g := g) rfl k _ (zs_at (by rw [bg_len]; omega))
        rw [bg_at] at this
        have e : (⟨g, 0, none⟩ : Addr).add k = ⟨g, k, none⟩ := by unfold Addr.add; split <;> simp_all
        first | rwa [e] at this | simpa using this
      have hx := HS.out.at k
      have hnx := su_next sq L k (by omega)
      have hsb := sq_su_in (HS.out.take k)
      have htl : ((L.take k).length : Int) ≤ 2000 := by have := List.length_take_le k L; omega
      obtain ⟨x, hxe⟩ : ∃ x, L.getD k 0 = x := ⟨_, rfl⟩
      rw [hxe] at c1 hx hnx
      obtain ⟨s, hse⟩ : ∃ s, su sq (L.take k) = s := ⟨_, rfl⟩
      rw [hse] at c2 hsb hnx
      obtain ⟨x0, x1⟩ := hx
      have HNX := Lib.hid hnx
      have hs0 : -4000000000 ≤ s := by omega
      have hs1 : s ≤ 4000000000 := by omega
      have ki : (k : Int) < (n : Int) := by omega
      have ki2 : (k : Int) < ((k + 1 : Nat) : Int) := by omega
      clear hb hac hab hxe hown hnx hsb htl hse
      go_wp2_with (first
        | (go_at_call 34; refine (add_sq s x hs0 hs1 x0 x1 _).mono ?_; rintro e w' ⟨rfl, rfl⟩)
        | (at_builtin; refine wpList_append_lies _ (by rfl) _ _ 22 (by rfl) w.heap.size 3 i0 _ 1 8 Try.underlying22 HI.out.1 HI.out.2.1 HI.out.2.2.1 HI.out.2.2.2 (by rfl) (by omega) (.slice (some ⟨g, 0, none⟩) (k + 1) cap) (k + 1) (zs (bg sq L k)) (by rfl) (HO.out.alloc _) ⟨wr.heap.size, 0, none⟩ 1 1 [.int .i64 (s + sq x)] (by rfl) (by rfl) (World.news_of_block (cs := #[.int .i64 (s + sq x)]) (t := 3) (fr := (0, 0)) (heap_alloc_new wr _)) (by simp [Value.oneCell']) (by omega) (by unfold maxLen; omega) (by omega) (by simp; omega) (wr.heap.size + 1) (by simp) ?_; intro h cap' w5 hown4 hgrow hat hlt4))
      have hstep := bi_step (by omega) HNX.out.symm HO.out HB.out hbase hown4 hgrow
      have HST := Lib.hid hstep
      clear hstep hown4 hgrow hat
      go_wp2
      go_roundw
      case rel => exact HST.out
      case measure => simp [intOf]; omega
    · obtain rfl : k = n := by omega
      clear hb hown
      go_wp2
      go_ret
      have hl2 : L.length = k := H1.out.1
      refine ⟨g, cap, rfl, ?_, HB.out⟩
      have e : begs sq L = bg sq L k := by unfold begs bg; rw [hl2]
      rw [e]
      exact HO.out
end Go.Proofs.Ytiomiohdeghpiaa.Wi
