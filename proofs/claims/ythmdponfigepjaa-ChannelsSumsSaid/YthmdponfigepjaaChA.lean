/- Rows of slices (bundles): appends, slices.Grow, slices.Concat of two bundles. -/
import Derived.Test.YthmdponfigepjaaApp
import Derived.Test.YthmdponfigepjaaChM
import Derived.Deep.RegionLaw
import Derived.Maps.AppendAt
import Derived.Lib.AppendZeros
import Derived.Laws.CopyOwn
import Derived.Laws.Bits64b
namespace Go.Proofs.Ythmdponfigepjaa.Ch
open Go.ChangeShapes Go.WideShapes Go.RowKit Wo Sr Wi
set_option linter.unusedVariables false
theorem info_row : (Try.prog.info? 22).map (fun i => (i.zero, i.size, i.bytes)) = some (some (.slice none 0 0), 1, 24) := by kernel_rfl
/-- a slice of slices: its elements, as they lie -/
def Vc (w : World) (A : Option Addr) (n : Nat) (V : List Value) : Prop := V.length = n ∧ (∀ u ∈ V, u.oneCell' = true) ∧ (0 < n → ∃ ad : Addr, A = some ad ∧ ad.block < w.heap.size ∧ ∀ j, j < n → w.cell? (ad.add j) = some (V.getD j undef))
theorem Vc.bel {w w' : World} {A : Option Addr} {n : Nat} {V : List Value} (h : Vc w A n V) (hb : Bel w w') : Vc w' A n V :=
  ⟨h.1, h.2.1, fun hn => by
    obtain ⟨ad, e, hx, hc⟩ := h.2.2 hn
    exact ⟨ad, e, by have := hb.size; omega, fun j hj => hb.kp (hc j hj)⟩⟩
theorem vc_news {w : World} {ad : Addr} {m : Nat} {M : List Value} (hz : Vc w (some ad) m M) : ∀ j u, M[j]? = some u → w.cell? (ad.add j) = some u := by
  intro j u hu
  obtain ⟨hj, rfl⟩ := List.getElem?_eq_some_iff.1 hu
  obtain ⟨ad', e, _, hcc⟩ := hz.2.2 (by have := hz.1; omega)
  cases e
  have := hcc j (by have := hz.1; omega)
  rw [this, List.getD_eq_getElem?_getD, hu]
  rfl
theorem bel_grown {w a b : World} {row : Option Nat} (h : Bel w a) (hg : a.grownBy b row) (hr : ∀ q, row = some q → w.heap.size ≤ q) : Bel w b := Below.grown h hg h.size hr
theorem own_base {w : World} {base size n : Nat} {e : TypeId} {v : Value} {xs : List Value} (h : w.ownsRow base e size v n xs) : ∀ q, v.ownBlock = some q → base ≤ q := fun q e => (h.lt q e).1
theorem run_appc (w : World) (ty : TypeId) (base : Nat) (v : Value) (n : Nat) (L : List Value) (hown : w.ownsRow base 22 1 v n L) (ad : Addr) (m c : Nat) (M : List Value) (hz : Vc w (some ad) m M) (hn : n + m ≤ 1000000) (hbase : base ≤ w.heap.size) :
    ∃ v' w', (Builtin.append_ #[39, 39] ty #[v, .slice (some ad) m c]).run Try.prog w = .ok v' w' ∧ w'.ownsRow base 22 1 v' (n + m) (L ++ M) ∧ w.grownBy w' v.ownBlock ∧ (v'.ownBlock = v.ownBlock ∨ v'.ownBlock = some w.heap.size) := by
  obtain ⟨i0, hi0, hz0, hz1, hz2⟩ := info_parts info_row
  obtain ⟨v', w', hr, h2, h3, _, h5⟩ := run_append_own_at (P := Try.prog) w base 39 ty 22 i0 (.slice none 0 0) 1 24 Try.underlying39 hi0 hz0 hz1 hz2 (by rfl) (by omega) v n L hown ad m c M (by rw [hz.1]; omega) (vc_news hz) hz.2.1 (by unfold maxLen; omega) (by omega) hbase
  exact ⟨v', w', hr, h2, h3, h5⟩
def SomeRc (w : World) (e : Ending) (w' : World) : Prop := ∃ v, e = .returned v ∧ w'.ownsRow w.heap.size 22 1 v 0 [] ∧ Bel w w'
theorem under_int : Try.prog.underlying 3 = some (.int .i64) := by kernel_rfl
set_option maxHeartbeats 1000000 in
set_option maxRecDepth 100000 in
theorem growc (n : Nat) (n1 : 1 ≤ n) (n2 : n ≤ 3000) (w : World) : Calls Try.prog 77 #[.slice none 0 0, .int .i64 (n : Int)] w (SomeRc w) := by
  obtain ⟨i0, hi0, hz0, hz1, hz2⟩ := info_parts info_row
  have hr := Lib.run_append_nil_zeros (P := Try.prog) w 39 3 39 22 i0 (.slice none 0 0) .i64 .i64 Try.underlying39 under_int hi0 hz0 n (by omega) (by omega) (by omega) (by rw [hz2]; omega)
  have HR := Lib.hid hr
  have i1 : (n : Int) > 0 := by omega
  have i2 : (n : Int) ≤ 3000 := by omega
  have i3 : ¬ (n : Int) < 0 := by omega
  clear hr hi0 hz0 hz1 hz2
  go_enter Try.func77, Try.ntmps77
  go_wp2_with (at_builtin; refine Lib.wpList_append_run _ rfl _ _ 39 3 rfl _ _ rfl rfl _ _ HR.out ?_)
  go_ret
  have hle : n ≤ maxLen := by unfold maxLen; omega
  refine ⟨_, rfl, ?_, (Bel.rf.al _).drw⟩
  have h := World.ownsRow_made (base := w.heap.size) (e := 22) (size := 1) w (Builtin.zeroCells #[Value.slice none 0 0] n ++ Builtin.zeroCells #[Value.slice none 0 0] (grownCap w n 0 22 - n)) (grownCap w n 0 22) (Nat.le_refl _) (grownCap_le_maxLen _ _ _ _ hle) (by rw [Array.size_append, size_zeroCells, size_zeroCells]; have := grownCap_ge w n 0 22; simp; omega)
  exact own_bel h Bel.rf.drw
theorem list_appc (w : World) {ops : Array Oper} {rest : List Oper} {o : Oper} {a : Act} {Q : Exit → Act → World → Prop} (hgd : o.guard = none) (s x : Operand)
    (ho : o.op = .call { callee := .builtin .append, args := #[s, x], argTypes := #[39, 39] })
    (base : Nat) (v : Value) (n : Nat) (L : List Value) (hs : a.eval s = v) (hown : w.ownsRow base 22 1 v n L) (ad : Addr) (m c : Nat) (M : List Value) (hx : a.eval x = .slice (some ad) m c) (hz : Vc w (some ad) m M) (hn : n + m ≤ 1000000) (hbase : base ≤ w.heap.size)
    (h : ∀ v' w', w'.ownsRow base 22 1 v' (n + m) (L ++ M) → w.grownBy w' v.ownBlock → wpList Try.prog ops Q rest (a.put o.dst v') w') : wpList Try.prog ops Q (o :: rest) a w := by
  obtain ⟨v', w', hr, h2, h3, _⟩ := run_appc w o.type base v n L hown ad m c M hz hn hbase
  exact Lib.wpList_append_run w hgd s x _ _ ho _ _ hs hx v' w' hr (h v' w' h2 h3)
/-- a row of the call's own, as a slice of slices -/
theorem own_vc {w : World} {base n : Nat} {v : Value} {L : List Value} (h : w.ownsRow base 22 1 v n L) (hl : L.length = n) (h1 : ∀ u ∈ L, u.oneCell' = true) (hn : 0 < n) : ∃ g c, v = .slice (some ⟨g, 0, none⟩) n c ∧ Vc w (some ⟨g, 0, none⟩) n L ∧ base ≤ g := by
  obtain ⟨g, cap, rfl, hb, hlt⟩ := h.form hn
  refine ⟨g, cap, rfl, ⟨hl, h1, fun _ => ⟨_, rfl, hlt, fun j hj => ?_⟩⟩, hb⟩
  exact h.cells (g := g) rfl j _ (by rw [List.getElem?_eq_getElem (by omega : j < L.length), List.getD_eq_getElem?_getD, List.getElem?_eq_getElem (by omega : j < L.length)]; rfl)
def SomeVc (k : Nat) (V : List Value) (w : World) (e : Ending) (w' : World) : Prop := ∃ g c, e = .returned (.slice (some ⟨g, 0, none⟩) k c) ∧ Vc w' (some ⟨g, 0, none⟩) k V ∧ w.heap.size ≤ g ∧ Bel w w'
def tot (ns : Nat → Nat) : Nat → Nat
  | 0 => 0
  | t + 1 => tot ns t + ns t
def cat (Ls : Nat → List Value) : Nat → List Value
  | 0 => []
  | t + 1 => cat Ls t ++ Ls t
theorem tot_le (ns : Nat → Nat) : ∀ (q t : Nat), t ≤ q → tot ns t ≤ tot ns q
  | 0, t, h => by have : t = 0 := by omega
                  subst this; exact Nat.le_refl _
  | q + 1, t, h => by
    rcases Nat.lt_or_ge t (q + 1) with h1 | h1
    · have := tot_le ns q t (by omega)
      show _ ≤ tot ns q + ns q
      omega
    · have : t = q + 1 := by omega
      subst this; exact Nat.le_refl _
theorem cat_len {ns : Nat → Nat} {Ls : Nat → List Value} : ∀ q, (∀ j, j < q → (Ls j).length = ns j) → (cat Ls q).length = tot ns q
  | 0, _ => rfl
  | q + 1, h => by
    show (cat Ls q ++ Ls q).length = tot ns q + ns q
    rw [List.length_append, cat_len q (fun j hj => h j (by omega)), h q (by omega)]
theorem cat_one {Ls : Nat → List Value} : ∀ q, (∀ j, j < q → ∀ u ∈ Ls j, u.oneCell' = true) → ∀ u ∈ cat Ls q, u.oneCell' = true
  | 0, _, u, h => by cases h
  | q + 1, h, u, hu => by
    rcases List.mem_append.1 hu with h1 | h1
    · exact cat_one q (fun j hj => h j (by omega)) u h1
    · exact h q (by omega) u h1
set_option maxHeartbeats 4000000 in
theorem concat_any (g q : Nat) (As : Nat → Addr) (ns cs : Nat → Nat) (Ls : Nat → List Value) (hq : q ≤ 10) (hN1 : 1 ≤ tot ns q) (hN : tot ns q ≤ 3000) (w : World) (hgl : g < w.heap.size)
    (hc : ∀ j, j < q → w.cell? ⟨g, j, none⟩ = some (.slice (some (As j)) (ns j) (cs j))) (hz : ∀ j, j < q → Vc w (some (As j)) (ns j) (Ls j)) :
    Calls Try.prog 67 #[.slice (some ⟨g, 0, none⟩) q q] w (SomeVc (tot ns q) (cat Ls q) w) := by
  have HC := Lib.hid hc
  have HZ := Lib.hid hz
  have HT := Lib.hid (tot_le ns q)
  have hqi : (q : Int) ≤ 10 := by omega
  clear hc hz
  go_enter Try.func67, Try.ntmps67
  go_wp2
  go_loopw [3, 11] (fun s3 s11 wr => ∃ (t : Nat) (V : World), V = wr ∧ t ≤ q ∧ s3 = .int .i64 (tot ns t : Int) ∧ s11 = .int .i64 (t : Int) ∧ Bel w wr) (fun _ s11 _ => q - (intOf s11).toNat)
  case atStart => exact ⟨0, _, rfl, by omega, rfl, rfl, Bel.rf⟩
  case round =>
    obtain ⟨t, wr, hwr, ht, rfl, rfl, hb⟩ := hrel
    subst hwr
    have HB := Lib.hid hb
    rcases Nat.lt_or_ge t q with hlt | hge
    · have c1 := hb.kp (HC.out t hlt)
      have hn1 := HT.out t ht
      have hn2 := HT.out (t + 1) hlt
      have HTN : Hid (tot ns (t + 1) = tot ns t + ns t) := rfl
      have hn3 : tot ns t + ns t ≤ 3000 := by have : tot ns (t + 1) = tot ns t + ns t := rfl
                                              omega
      obtain ⟨a, ha⟩ : ∃ a, tot ns t = a := ⟨_, rfl⟩
      obtain ⟨b, hbb⟩ : ∃ a, ns t = a := ⟨_, rfl⟩
      rw [ha, hbb] at HTN hn3
      rw [hbb] at c1
      rw [ha]
      have ti : (t : Int) < (q : Int) := by omega
      have ab : (a : Int) + (b : Int) ≤ 3000 := by omega
      have ab0 : ¬ (a : Int) + (b : Int) < 0 := by omega
      clear hb hn1 hn2 hn3 ha hbb
      go_wp2
      go_roundw
      case rel => exact ⟨t + 1, _, rfl, by omega, by rw [HTN.out]; go_num, by go_num, by first | exact HB.out | exact HB.out.drw | exact HB.out.drwN _⟩
      case measure => simp [intOf]; omega
    · obtain rfl : t = q := by omega
      clear hb
      obtain ⟨N, hNN⟩ : ∃ N, tot ns t = N := ⟨_, rfl⟩
      rw [hNN] at hN hN1 ⊢
      have HNN := Lib.hid hNN
      have GR : Hid (∀ W, _) := fun W => growc N (by omega) (by omega) W
      clear hNN
      go_wp2_with (go_at_call 77; refine (GR.out _).mono ?_; rintro e w2 ⟨v, rfl, hown, hb2⟩)
      have hb12 := HB.out.tr hb2
      have HR0 : Hid (∃ (u : Nat) (V : World) (v' : Value), V = w2 ∧ v' = v ∧ u ≤ t ∧ (Value.int .i64 0) = .int .i64 (u : Int) ∧ V.ownsRow w.heap.size 22 1 v' (tot ns u) (cat Ls u) ∧ Bel w V) := by
        refine ⟨0, _, _, rfl, rfl, Nat.zero_le _, rfl, ?_, hb12⟩
        refine ⟨hown.1, ?_⟩
        rcases hown.2 with hn | ⟨q', cap, cur, rfl, hbb, rest⟩
        · exact .inl hn
        · exact .inr ⟨q', cap, cur, rfl, by have := HB.out.size; omega, rest⟩
      clear hown hb2 hb12
      go_loopw [6, 27] (fun s6 s27 wr => ∃ (u : Nat) (V : World) (v' : Value), V = wr ∧ v' = s6 ∧ u ≤ t ∧ s27 = .int .i64 (u : Int) ∧ V.ownsRow w.heap.size 22 1 v' (tot ns u) (cat Ls u) ∧ Bel w V) (fun _ s27 _ => t - (intOf s27).toNat)
      case atStart => exact HR0.out
      case round =>
        clear HR0
        obtain ⟨u, wr2, v', hwr, hv', hu, rfl, hown, hb⟩ := hrel
        subst hwr hv'
        rcases Nat.lt_or_ge u t with hlt | hge
        · have c1 := hb.kp (HC.out u hlt)
          have hn2 := HT.out (u + 1) hlt
          have HTN : Hid (tot ns (u + 1) = tot ns u + ns u ∧ cat Ls (u + 1) = cat Ls u ++ Ls u) := ⟨rfl, rfl⟩
          have hn3 : tot ns u + ns u ≤ 3000 := by have : tot ns (u + 1) = tot ns u + ns u := rfl
                                                  have := HNN.out
                                                  omega
          have HZU := Lib.hid ((HZ.out u hlt).bel hb)
          have HV := Lib.hid (And.intro hown hb)
          have hsz := hb.size
          have ui : (u : Int) < (t : Int) := by omega
          clear hown hb hn2
          go_wp2_with (at_builtin; refine list_appc _ rfl _ _ rfl w.heap.size v' (tot ns u) (cat Ls u) rfl HV.out.1 (As u) (ns u) (cs u) (Ls u) rfl HZU.out (by omega) hsz ?_; intro v2 w3 h2 h3)
          go_roundw
          case rel => exact ⟨u + 1, _, _, rfl, rfl, by omega, by go_num, by rw [HTN.out.1, HTN.out.2]; exact h2, bel_grown HV.out.2 h3 (own_base HV.out.1)⟩
          case measure => simp [intOf]; omega
        · obtain rfl : u = t := by omega
          rw [HNN.out] at hown
          obtain ⟨gg, c, rfl, hvs, hf⟩ := own_vc hown (by rw [cat_len u (fun j hj => (HZ.out j hj).1)]; exact HNN.out) (cat_one u (fun j hj => (HZ.out j hj).2.1)) (by omega)
          have HV := Lib.hid (And.intro hvs (And.intro hf hb))
          clear hown hvs hf hb
          go_wp2
          go_ret
          have hN' := HNN.out
          subst hN'
          exact ⟨gg, c, rfl, HV.out.1, HV.out.2.1, HV.out.2.2⟩
end Go.Proofs.Ythmdponfigepjaa.Ch
