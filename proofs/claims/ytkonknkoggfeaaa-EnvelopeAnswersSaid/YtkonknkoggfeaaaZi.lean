/- Slices of numbers: how they read, rows of the call's own, limits' checks, keep's Ints: for every seat that bears these functions. -/
import Derived.Test.YtkonknkoggfeaaaSrcList
import Derived.Deep.RegionHeld3
import Derived.Deep.Onto
namespace Go.Proofs.Ytkonknkoggfeaaa.Wi
open Go.ChangeShapes Go.WideShapes Go.RowKit Wo Sr
set_option linter.unusedVariables false
/-- a slice that reads as these numbers -/
def Zi (w : World) (A : Option Addr) (n : Nat) (L : List Int) : Prop := L.length = n ∧ (0 < n → ∃ ad : Addr, A = some ad ∧ ad.block < w.heap.size ∧ ∀ j, j < n → w.cell? (ad.add j) = some (.int .i64 (L.getD j 0)))
theorem Zi.bel {w w' : World} {A : Option Addr} {n : Nat} {L : List Int} (h : Zi w A n L) (hb : Bel w w') : Zi w' A n L :=
  ⟨h.1, fun hn => by
    obtain ⟨ad, e, hx, hc⟩ := h.2 hn
    exact ⟨ad, e, by have := hb.size; omega, fun j hj => hb.kp (hc j hj)⟩⟩
theorem row_zi {w : World} {base k : Nat} {v : Value} {L : List Int} (h : w.ownsRow base 3 1 v k (zs L)) (hk : L.length = k) : ∃ A c, v = .slice A k c ∧ Zi w A k L ∧ (A = none → c = 0) := by
  rcases Nat.eq_zero_or_pos k with h0 | h0
  · subst h0
    have hL : L = [] := List.eq_nil_of_length_eq_zero hk
    subst hL
    rcases h.2 with ⟨rfl, _⟩ | ⟨g, cap, cur, rfl, _⟩
    · exact ⟨none, 0, rfl, ⟨rfl, fun h => by omega⟩, fun _ => rfl⟩
    · exact ⟨some ⟨g, 0, none⟩, cap, rfl, ⟨rfl, fun h => by omega⟩, fun h => by cases h⟩
  · obtain ⟨g, cap, rfl, hb, hlt⟩ := h.form h0
    refine ⟨some ⟨g, 0, none⟩, cap, rfl, ⟨hk, fun _ => ⟨_, rfl, hlt, fun j hj => ?_⟩⟩, fun h => by cases h⟩
    exact h.cells (g := g) rfl j _ (zs_at (by omega))
theorem own_zi {w : World} {base k h c : Nat} {L : List Int} (hr : w.ownsRow base 3 1 (.slice (some ⟨h, 0, none⟩) k c) k (zs L)) (hk : L.length = k) : Zi w (some ⟨h, 0, none⟩) k L := by
  obtain ⟨A, c', e, hz, _⟩ := row_zi hr hk
  injection e with e1 e2 e3
  subst e1
  exact hz
theorem sample_ok (n : Int) (h0 : -1000 ≤ n) (h1 : n ≤ 1000) (w : World) : Calls Try.prog 58 #[.int .i64 n] w fun e w' => e = .returned (.bool true) ∧ w = w' := by
  go_enter Try.func58, Try.ntmps58
  go_wp2
  go_ret
  exact ⟨rfl, rfl⟩
set_option maxHeartbeats 4000000 in
theorem samples_ok (A : Option Addr) (c n : Nat) (L : List Int) (hn : n ≤ 1000000) (hs : Sam L) (w : World) (h : Zi w A n L) :
    Calls Try.prog 43 #[.slice A n c] w fun e w' => e = .returned (.bool true) ∧ Bel w w' := by
  have H1 := Lib.hid h
  have HS := Lib.hid hs
  have ni : (n : Int) ≤ 1000000 := by omega
  clear h hs
  go_enter Try.func43, Try.ntmps43
  go_wp2
  go_loopw [7] (fun s7 wr => ∃ (k : Nat) (V : World), V = wr ∧ k ≤ n ∧ s7 = .int .i64 (k : Int) ∧ Bel w wr) (fun s7 _ => n - (intOf s7).toNat)
  case atStart => exact ⟨0, _, rfl, by omega, rfl, Bel.rf⟩
  case round =>
    obtain ⟨k, wr, hwr, hk, rfl, hb⟩ := hrel
    subst hwr
    have HB := Lib.hid hb
    rcases Nat.lt_or_ge k n with hlt | hge
    · obtain ⟨ad, rfl, hab, hac⟩ := (H1.out.bel hb).2 (by omega)
      have c1 := hac k hlt
      have hx := HS.out.at k
      obtain ⟨x, hxe⟩ : ∃ x, L.getD k 0 = x := ⟨_, rfl⟩
      rw [hxe] at c1 hx
      obtain ⟨x0, x1⟩ := hx
      have ki : (k : Int) < (n : Int) := by omega
      clear hb hac hab hxe
      go_wp2_with (go_at_call 58; refine (sample_ok x x0 x1 _).mono ?_; rintro e w' ⟨rfl, rfl⟩)
      go_roundw
      case rel => exact ⟨k + 1, _, rfl, by omega, by go_num, by first | exact HB.out | exact HB.out.drwN _ | exact HB.out.drw⟩
      case measure => simp [intOf]; omega
    · obtain rfl : k = n := by omega
      clear hb
      go_wp2
      go_ret
      exact ⟨rfl, HB.out⟩
theorem made_i64 (n : Nat) : madeCells (Value.int .i64 0).cells (n * 1) = (zs (List.replicate n 0)).toArray := by
  apply Array.ext
  · simp [madeCells, zs]
  · intro i h1 h2
    simp [madeCells, zs, Nat.mod_one, Value.cells]
/-- 'make([]T, l, c)', the length and the capacity variables -/
theorem wpList_make_any {P : Program} (w : World) {ops : Array Oper} {rest : List Oper} {o : Oper} {a : Act} {Q : Exit → Act → World → Prop}
    (hg : o.guard = none) (l c : Operand) (t : TypeId) (hop : o.op = Op.makeSlice t l c)
    (e : TypeId) (i : TypeInfo) (z : Value) (size : Nat) (h1 : P.underlying t = some (.slice e)) (h2 : P.info? e = some i) (h3 : i.zero = some z) (h4 : i.size = size)
    (kl kc : IntKind) (L C : Int) (m n : Nat) (hl : a.eval l = .int kl L) (hc : a.eval c = .int kc C) (hL : L = (m : Int)) (hC : C = (n : Int)) (hmn : m ≤ n) (b2 : i.bytes * n ≤ 281474976710656) (b3 : n ≤ 4611686018427387904)
    (hK : wpList P ops Q rest (a.put o.dst (.slice (some ⟨w.heap.size, 0, none⟩) m n)) (w.alloc (.cells (madeCells z.cells (n * size)) e))) :
    wpList P ops Q (o :: rest) a w := by
  refine wpList_plain hg fun K hK' => ?_
  have hb' : (i.bytes : Int) * (n : Int) ≤ 281474976710656 := by
    have h : ((i.bytes * n : Nat) : Int) ≤ 281474976710656 := by omega
    rwa [Int.natCast_mul] at h
  have hr := run_make (P := P) w t e i z h1 h2 h3 kl kc m n (by omega) (by omega) hb' (by omega)
  simp only [Int.toNat_natCast] at hr
  subst hL
  subst hC
  subst h4
  unfold Oper.wp
  simp [execOp, hop, hl, hc, hr, Result.andThen]
  exact hK' _ _ hK
theorem add_row (h j : Nat) : (⟨h, 0, none⟩ : Addr).add j = ⟨h, j, none⟩ := by unfold Addr.add; split <;> simp_all
/-- the numbers at their cells -/
theorem Zi.at {w : World} {g n : Nat} {L : List Int} (h : Zi w (some ⟨g, 0, none⟩) n L) (j : Nat) (hj : j < n) : w.cell? ⟨g, j, none⟩ = some (.int .i64 (L.getD j 0)) := by
  obtain ⟨ad, e, _, hc⟩ := h.2 (by omega)
  cases e
  have := hc j hj
  rwa [add_row] at this
theorem zi_bk {w : World} {h : Nat} {t : TypeId} {L : List Int} (hb : Bk w h t (zs L).toArray) (n : Nat) (hn : L.length = n) : Zi w (some ⟨h, 0, none⟩) n L := by
  subst hn
  refine ⟨rfl, fun _ => ⟨_, rfl, hb.lt, fun j hj => ?_⟩⟩
  rw [add_row, hb.cell j]
  simpa using zs_at hj
/-- a store into a block that holds slices leaves the numbers as they are -/
theorem zi_st {w : World} {A : Option Addr} {n : Nat} {L : List Int} (h : Zi w A n L) {p : Addr} {a : Option Addr} {x y : Nat} (hp : w.cell? p = some (.slice a x y)) (u : Value) : Zi (w.setCell p u) A n L :=
  ⟨h.1, fun hn => by
    obtain ⟨ad, e, hx, hcc⟩ := h.2 hn
    refine ⟨ad, e, by simpa [World.setCell] using hx, fun j hj => ?_⟩
    have h1 := hcc j hj
    refine (World.cell?_setCell_other _ _ _ _ (fun e => ?_)).trans h1
    rw [e] at hp
    rw [hp] at h1
    cases h1⟩
theorem row_form {w : World} {base n : Nat} {v : Value} {L : List Int} (h : w.ownsRow base 3 1 v n (zs L)) (hn : 0 < n) : ∃ g c, v = .slice (some ⟨g, 0, none⟩) n c ∧ n ≤ c ∧ base ≤ g := by
  rcases h.2 with ⟨_, h0⟩ | ⟨g, cap, cur, hv, hb, hg, h1, _⟩
  · omega
  · exact ⟨g, cap, hv, h1, hb⟩
theorem ne_self (x : Int) : (x != x) = false := by simp
set_option maxHeartbeats 4000000 in
theorem ints_same (A A' : Option Addr) (c c' n : Nat) (L : List Int) (hn : n ≤ 1000000) (w : World) (h1 : Zi w A n L) (h2 : Zi w A' n L) :
    Calls Try.prog 11 #[.slice A n c, .slice A' n c'] w fun e w' => e = .returned (.bool true) ∧ Bel w w' := by
  have H1 := Lib.hid h1
  have H2 := Lib.hid h2
  have ni : (n : Int) ≤ 1000000 := by omega
  clear h1 h2
  go_enter Try.func11, Try.ntmps11
  go_wp2
  go_loopw [13] (fun s13 wr => ∃ (k : Nat) (V : World), V = wr ∧ k ≤ n ∧ s13 = .int .i64 (k : Int) ∧ Bel w wr) (fun s13 _ => n - (intOf s13).toNat)
  case atStart => exact ⟨0, _, rfl, by omega, rfl, Bel.rf⟩
  case round =>
    obtain ⟨k, wr, hwr, hk, rfl, hb⟩ := hrel
    subst hwr
    have HB := Lib.hid hb
    rcases Nat.lt_or_ge k n with hlt | hge
    · obtain ⟨ad, rfl, hab, hac⟩ := (H1.out.bel hb).2 (by omega)
      obtain ⟨ad', rfl, hab', hac'⟩ := (H2.out.bel hb).2 (by omega)
      have c1 := hac k hlt
      have c2 := hac' k hlt
      obtain ⟨x, hx⟩ : ∃ x, L.getD k 0 = x := ⟨_, rfl⟩
      rw [hx] at c1 c2
      have ki : (k : Int) < (n : Int) := by omega
      have kn := ne_self x
      clear hb hac hac' hab hab' hx
      go_wp2
      go_quiet (fail)
      go_wp2
      go_roundw
      case rel => exact ⟨k + 1, _, rfl, by omega, by go_num, HB.out.drwN _⟩
      case measure => simp [intOf]; omega
    · obtain rfl : k = n := by omega
      clear hb
      go_wp2
      go_ret
      exact ⟨rfl, HB.out⟩
theorem length_ok (m : Int) (h0 : 2 ≤ m) (h1 : m ≤ 32) (w : World) : Calls Try.prog 23 #[.int .i64 m] w fun e w' => e = .returned (.bool true) ∧ w = w' := by
  go_enter Try.func23, Try.ntmps23
  go_wp2
  go_ret
  exact ⟨rfl, rfl⟩
theorem own_bel {w w' : World} {base : Nat} {e : TypeId} {size : Nat} {v : Value} {n : Nat} {xs : List Value} (h : w.ownsRow base e size v n xs) (hb : Bel w w') : w'.ownsRow base e size v n xs := by
  refine ⟨h.1, ?_⟩
  rcases h.2 with hn | ⟨g, cap, cur, rfl, hbb, hg, rest⟩
  · exact .inl hn
  · exact .inr ⟨g, cap, cur, rfl, hbb, (Below.block hb g (Array.getElem?_eq_some_iff.1 hg).1).trans hg, rest⟩
theorem own_set {w : World} {base h n c t : Nat} {L : List Int} {e : TypeId} (hown : w.ownsRow base e 1 (.slice (some ⟨h, 0, none⟩) n c) n (zs L)) (y : Int) : (w.setCell ⟨h, t, none⟩ (.int .i64 y)).ownsRow base e 1 (.slice (some ⟨h, 0, none⟩) n c) n (zs (L.set t y)) := by
  refine ⟨by have := hown.1; simp only [zs_len, List.length_set] at *; exact this, ?_⟩
  rcases hown.2 with ⟨h0, _⟩ | ⟨g, cap, cur, e1, hb, hg, h1, h2, h3, h4⟩
  · cases h0
  · injection e1 with e1 e2 e3
    injection e1 with e1
    cases e1
    subst e3
    refine .inr ⟨h, c, cur.setIfInBounds t (.int .i64 y), rfl, hb, Bk.st (t := e) hg t _, h1, h2, by simpa using h3, ?_⟩
    rw [Array.toList_setIfInBounds, List.take_set, h4]
    simp [zs, List.map_set]
theorem own_fr {w : World} {base h n c : Nat} {xs : List Value} {e : TypeId} (hown : w.ownsRow base e 1 (.slice (some ⟨h, 0, none⟩) n c) n xs) (t : Nat) : w.frozen? ⟨h, t, none⟩ = false := by
  rcases hown.2 with ⟨h0, _⟩ | ⟨g, cap, cur, e1, hb, hg, _⟩
  · cases h0
  · injection e1 with e1 e2 e3
    injection e1 with e1
    cases e1
    exact Bk.fr (t := e) hg t
theorem own_any {w : World} {base k size : Nat} {e : TypeId} {v : Value} {xs : List Value} (h : w.ownsRow base e size v k xs) : ∃ A c, v = .slice A k c ∧ (0 < k → ∃ g, A = some ⟨g, 0, none⟩) := by
  rcases h.2 with ⟨rfl, rfl⟩ | ⟨g, cap, cur, rfl, _⟩
  · exact ⟨none, 0, rfl, fun h => by omega⟩
  · exact ⟨some ⟨g, 0, none⟩, cap, rfl, fun _ => ⟨g, rfl⟩⟩
theorem Zi.ch {w w' : World} {A : Option Addr} {n g : Nat} {L : List Int} (h : Zi w A n L) (hc : Ch g w w') (hn : ∀ ad, A = some ad → ad.block ≠ g) : Zi w' A n L :=
  ⟨h.1, fun h0 => by
    obtain ⟨ad, e, hx, hcc⟩ := h.2 h0
    exact ⟨ad, e, by have := hc.sz; omega, fun j hj => hc.kp (hcc j hj) (by rw [add_block]; exact hn ad e)⟩⟩
theorem own_ch {w w' : World} {base g : Nat} {e : TypeId} {size : Nat} {v : Value} {n : Nat} {xs : List Value} (h : w.ownsRow base e size v n xs) (hc : Ch g w w') (hg : g < base) : w'.ownsRow base e size v n xs :=
  h.kept hc (by
    rcases hob : v.ownBlock with _ | q
    · exact .inl rfl
    · exact .inr (fun e => by injection e with e; have := (h.lt q hob).1; omega))
end Go.Proofs.Ytkonknkoggfeaaa.Wi
