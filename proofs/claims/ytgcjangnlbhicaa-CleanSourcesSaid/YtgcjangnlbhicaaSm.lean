/- ref05.Same; strings of bytes. -/

import Derived.Test.YtgcjangnlbhicaaPkR
import Derived.Laws.BytesArg
namespace Go.Proofs.Ytgcjangnlbhicaa.Pk
open Go.ChangeShapes Go.WideShapes Go.RowKit Wo Sr Wi Rm Rg
set_option linter.unusedVariables false
theorem rp_ext {l m : List Rp} (hl : l.length = m.length) (h : ∀ i, i < l.length → tm l i = tm m i ∧ vl l i = vl m i) : l = m := by
  apply List.ext_getElem hl
  intro i h1 h2
  have := h i h1
  simp [tm, vl, List.getD_eq_getElem?_getD, h1, h2] at this
  exact Prod.ext this.1 this.2
set_option maxHeartbeats 4000000 in
theorem same_ok (A A' : Option Addr) (c c' n n' : Nat) (l m : List Rp) (hn : n ≤ 2000) (hn' : n' ≤ 2000) (w : World) (h1 : Zr w A n l) (h2 : Zr w A' n' m) :
    Calls Try.prog 11 #[.slice A n c, .slice A' n' c'] w fun e w' => e = .returned (.bool (decide (l = m))) ∧ Bel w w' := by
  have H1 := Lib.hid h1
  have H2 := Lib.hid h2
  have ni : (n : Int) ≤ 2000 := by omega
  have ni' : (n' : Int) ≤ 2000 := by omega
  have l1 := h1.1
  have l2 := h2.1
  have HL := Lib.hid (And.intro l1 l2)
  clear h1 h2
  obtain ⟨b, hbd⟩ : ∃ b, decide (l = m) = b := ⟨_, rfl⟩
  rw [hbd]
  have HBD := Lib.hid hbd
  clear hbd
  rcases Classical.em (n = n') with hnn | hnn
  · subst hnn
    clear l1 l2
    have kn := ne_self (n : Int)
    go_enter Try.func11, Try.ntmps11
    go_wp2
    go_loopw [13] (fun s13 wr => ∃ (k : Nat) (V : World), V = wr ∧ k ≤ n ∧ s13 = .int .i64 (k : Int) ∧ (∀ j, j < k → tm l j = tm m j ∧ vl l j = vl m j) ∧ Bel w wr) (fun s13 _ => n - (intOf s13).toNat)
    case atStart => exact ⟨0, _, rfl, by omega, rfl, fun j hj => by omega, by first | exact Bel.rf | exact Bel.rf.drwN _⟩
    case round =>
      obtain ⟨k, wr, hwr, hk, rfl, hall, hb⟩ := hrel
      subst hwr
      have HB := Lib.hid hb
      have HAL := Lib.hid hall
      rcases Nat.lt_or_ge k n with hlt | hge
      · obtain ⟨g, rfl, hab, hac⟩ := (H1.out.bel hb).2 (by omega)
        obtain ⟨g', rfl, hab', hac'⟩ := (H2.out.bel hb).2 (by omega)
        obtain ⟨c1, c2⟩ := hac k hlt
        obtain ⟨c3, c4⟩ := hac' k hlt
        obtain ⟨x, hx⟩ : ∃ x, tm l k = x := ⟨_, rfl⟩
        obtain ⟨y, hy⟩ : ∃ x, vl l k = x := ⟨_, rfl⟩
        obtain ⟨x', hx'⟩ : ∃ x, tm m k = x := ⟨_, rfl⟩
        obtain ⟨y', hy'⟩ : ∃ x, vl m k = x := ⟨_, rfl⟩
        rw [hx] at c1
        rw [hy] at c2
        rw [hx'] at c3
        rw [hy'] at c4
        have ki : (k : Int) < (n : Int) := by omega
        have HXY := Lib.hid (And.intro (And.intro hx hy) (And.intro hx' hy'))
        clear hb hac hac' hab hab' hx hy hx' hy' hall
        rcases Classical.em (x = x') with rfl | hxy
        · rcases Classical.em (y = y') with rfl | hyy
          · have kn1 := ne_self x
            have kn2 := ne_self y
            go_wp2
            go_quiet (fail)
            go_wp2
            go_roundw
            case rel => exact ⟨k + 1, _, rfl, by omega, by go_num, fun j hj => by
              rcases Nat.lt_or_ge j k with h | h
              · exact HAL.out j h
              · obtain rfl : j = k := by omega
                rw [HXY.out.1.1, HXY.out.1.2, HXY.out.2.1, HXY.out.2.2]; exact ⟨rfl, rfl⟩, HB.out.drwN _⟩
            case measure => simp [intOf]; omega
          · have kn1 : (y != y') = true := by simpa using hyy
            have kn2 : (y == y') = false := by simpa using hyy
            have kn3 := ne_self x
            have e : decide (l = m) = false := decide_eq_false (fun e => by subst e; have := HXY.out; exact hyy (this.1.2.symm.trans this.2.2))
            have HE := Lib.hid (e.symm.trans HBD.out)
            clear e
            go_wp2
            go_quiet (fail)
            go_wp2
            go_ret
            exact ⟨ret_bool HE.out, HB.out.drwN _⟩
        · have kn1 : (x != x') = true := by simpa using hxy
          have kn2 : (x == x') = false := by simpa using hxy
          have e : decide (l = m) = false := decide_eq_false (fun e => by subst e; have := HXY.out; exact hxy (this.1.1.symm.trans this.2.1))
          have HE := Lib.hid (e.symm.trans HBD.out)
          clear e
          go_wp2
          go_quiet (fail)
          go_wp2
          go_ret
          exact ⟨ret_bool HE.out, HB.out.drwN _⟩
      · have e : decide (l = m) = true := decide_eq_true (rp_ext (by rw [HL.out.1, HL.out.2]) (fun i hi => hall i (by rw [HL.out.1] at hi; omega)))
        have HE := Lib.hid (e.symm.trans HBD.out)
        have kn2 : (n : Int) ≤ (k : Int) := by omega
        clear e hall hb
        go_wp2
        go_ret
        exact ⟨ret_bool HE.out, HB.out⟩
  · have e : decide (l = m) = false := decide_eq_false (fun e => hnn (by rw [← l1, ← l2, e]))
    have HE := Lib.hid (e.symm.trans HBD.out)
    have kn : ((n : Int) != (n' : Int)) = true := by simp; omega
    clear e l1 l2
    go_enter Try.func11, Try.ntmps11
    go_wp2
    go_ret
    exact ⟨ret_bool HE.out, Bel.rf⟩
end Go.Proofs.Ytgcjangnlbhicaa.Pk
