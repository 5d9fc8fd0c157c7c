/- The contract of shapesearchkeep's Ratio: a valid ratio, whatever the reader holds. -/
import Derived.Test.YtabmpnmhjdbdmaaGreatDoorSrcP0
import Derived.Test.YtabmpnmhjdbdmaaGreatDoorRatioPV
import Derived.Deep.DeepCutAuto
namespace Go.Proofs.YtabmpnmhjdbdmaaGreatDoor.Sr
open Go.ChangeShapes Go.WideShapes Go.RowKit Wo Ra
set_option linter.unusedVariables false
def SomeRatio (g : Nat) (w : World) (e : Ending) (w' : World) : Prop := ∃ n d : Int, e = .returned (.agg #[.int .i64 n, .int .i64 d]) ∧ rv n d = true ∧ Ok w' g ∧ Ch g w w'
def l1 : List Int := [0, 1, 3, 7, 50, 1000, 1099511627776, 2305843009213693952, 2305843009213693951]
def l2 : List Int := [1, 1, 2, 3, 8, 60, 1099511627776, 1152921504606846976, 1152921504606846975]
theorem in_l1 {x : Int} (h : x ∈ l1) : 0 ≤ x ∧ x ≤ 2305843009213693952 := by
  simp only [l1, List.mem_cons, List.not_mem_nil, or_false] at h
  omega
theorem in_l2 {x : Int} (h : x ∈ l2) : 1 ≤ x ∧ x ≤ 1152921504606846976 := by
  simp only [l2, List.mem_cons, List.not_mem_nil, or_false] at h
  omega
/-- the part of Ratio behind the choice of its numbers -/
def Cut (g r : Nat) (w : World) (s3 s4 s5 s6 : Value) (wx : World) : Prop := ∃ (n z : Int) (W : World), W = wx ∧ s3 = .int .i64 n ∧ s4 = .int .i64 z ∧ s5 = .int .i64 n ∧ s6 = .int .i64 z ∧ 0 ≤ n ∧ n ≤ 2305843009213693952 ∧ 1 ≤ z ∧ z ≤ 1152921504606846976 ∧ Ok wx g ∧ Ch g w wx ∧ Bk wx r 31 #[.int .i64 0, .int .i64 0]
set_option maxHeartbeats 4000000 in
set_option maxRecDepth 100000 in
theorem ratio_any (g : Nat) (w : World) (h : Ok w g) :
    Calls Tryz.prog 7 #[.pointer (some ⟨g, 0, none⟩)] w (SomeRatio g w) := by
  have hlt := h.lt
  have HO := Lib.hid h
  clear h
  have HP1 : Hid (Calls Tryz.prog 13 #[.pointer (some ⟨g, 0, none⟩), .slice (some ⟨w.heap.size + 1, 0, none⟩) 9 9] ((w.alloc (.cells #[.int .i64 0, .int .i64 0] 31)).alloc (.cells (l1.map (Value.int .i64)).toArray 3)) (SomePick g l1 ((w.alloc (.cells #[.int .i64 0, .int .i64 0] 31)).alloc (.cells (l1.map (Value.int .i64)).toArray 3)))) :=
    pick_any g (w.heap.size + 1) l1 9 rfl (by decide) (by decide) (by omega) _ (HO.out.bel ((Bel.rf.al _).al _)) (lst_new _ l1 _ _ rfl _ (by simp))
  go_enter Tryz.func7, Tryz.ntmps7
  go_wp2_with fail
  go_at_call 13
  refine (HP1.out).mono ?_
  rintro e w1 ⟨x, rfl, hx, ho1, hc1⟩
  have hxb := in_l1 hx
  have hx0 := hxb.1
  have hx1 := hxb.2
  have B1 : Bk w1 w.heap.size 31 #[.int .i64 0, .int .i64 0] := hc1.bk ((Bk.nw _ _ _).al _) (by omega)
  have HO1 := Lib.hid ho1
  have HC1 := Lib.hid hc1
  have HB1 := Lib.hid B1
  clear hx hxb ho1 hc1 B1 HP1
  go_wp2_with fail
  go_at_call 15
  refine (n_any g 5 (by decide) (by decide) _ HO1.out).mono ?_
  rintro e w2 ⟨y, rfl, hy0, hy1, ho2, hc2⟩
  have HO2 := Lib.hid ho2
  have HC2 := Lib.hid ((HC1.out).tr hc2)
  have HB2 := Lib.hid (hc2.bk HB1.out (by omega))
  clear ho2 hc2 HO1 HC1 HB1
  have HP2 : Hid (Calls Tryz.prog 13 #[.pointer (some ⟨g, 0, none⟩), .slice (some ⟨w2.heap.size, 0, none⟩) 9 9] (w2.alloc (.cells (l2.map (Value.int .i64)).toArray 3)) (SomePick g l2 (w2.alloc (.cells (l2.map (Value.int .i64)).toArray 3)))) :=
    pick_any g w2.heap.size l2 9 rfl (by decide) (by decide) (by have := HO2.out.lt; omega) _ (HO2.out.bel (Bel.rf.al _)) (lst_new _ l2 _ _ rfl _ rfl)
  go_wp2_with fail
  go_at_call 13
  refine (HP2.out).mono ?_
  rintro e w3 ⟨z, rfl, hz, ho3, hc3⟩
  have hzb := in_l2 hz
  have hz0 := hzb.1
  have hz1 := hzb.2
  have HO3 := Lib.hid ho3
  have HC3 : Hid (Ch g w w3) := ((((Ch.rf.al _).al _).tr HC2.out).al _).tr hc3
  have HB3 := Lib.hid (hc3.bk (HB2.out.al _) (by omega))
  clear hz hzb ho3 hc3 HO2 HC2 HB2 HP2
  go_upto_region 3 with fail
  go_cut [3, 4, 5, 6] (Cut g w.heap.size w)
  case first =>
    go_wp2_with fail
    all_goals (go_meet; exact ⟨_, z, _, rfl, rfl, rfl, rfl, rfl, by omega, by omega, hz0, hz1, HO3.out, HC3.out, HB3.out⟩)
  case rest =>
    clear HO3 HC3 HB3 HO hx0 hx1 hy0 hy1 hz0 hz1
    obtain ⟨n, d, wx, hwx, rfl, rfl, rfl, rfl, n0, n1, d0, d1, ho, hc, hb⟩ := hcut
    subst hwx
    have f := make_facts (n := n) (d := d) n0 d0 n1 d1
    have k0 : wx.cell? ⟨w.heap.size, 0, none⟩ = some (.int .i64 0) := hb.cell 0
    have k1 : wx.cell? ⟨w.heap.size, 1, none⟩ = some (.int .i64 0) := hb.cell 1
    have HF := Lib.hid f
    have HOX := Lib.hid ho
    have HCX := Lib.hid hc
    have HBX := Lib.hid hb
    clear f ho hc hb
    go_wp2
    go_loopw [5, 6] (fun x y wr => ∃ p q : Int, x = .int .i64 p ∧ y = .int .i64 q ∧ 0 ≤ p ∧ 0 ≤ q ∧ gd p q = gd n d ∧ Bel wx wr) (fun _ y _ => (intOf y).toNat)
    case atStart => exact ⟨n, d, rfl, rfl, n0, by omega, rfl, Bel.rf⟩
    case round =>
      obtain ⟨p, q, rfl, rfl, hp, hq, hg, hbel⟩ := hrel
      rename_i wr
      rcases Classical.em (q = 0) with hz | hz
      · subst hz
        have hpg : p = gd n d := by rw [← hg, gd_zero hp]
        subst hpg
        have HG := Lib.hid hg
        clear hg
        have g0 : 1 ≤ gd n d := gd_pos (by omega)
        have g1 : gd n d ≠ 0 := by omega
        obtain ⟨f1, f2, f3, f4, f5, f6, f7, f8⟩ := HF.out
        have HV := Lib.hid f7
        have j0 := hbel.kp k0
        have j1 := hbel.kp k1
        have HBL := Lib.hid hbel
        have HB3 := HBX.out.bel hbel
        have r0 : wr.frozen? ⟨w.heap.size, 0, none⟩ = false := HB3.fr 0
        have r1 : wr.frozen? ⟨w.heap.size, 1, none⟩ = false := HB3.fr 1
        clear f5 f6 f7 f8 hbel HB3
        go_wp2
        go_region
        go_wp2
        exact bodyPost_ret (v := .agg #[.int .i64 (n / gd n d), .int .i64 (d / gd n d)]) (by simp [results, Tryz.results7, go_sem, j0, j1]) rfl ⟨_, _, rfl, rv_yes HV.out, (by repeat (first | exact (HOX.out.bel HBL.out) | (with_reducible refine Ok.drwN ?_ _) | (refine Ok.bel ?_ (Bel.drw Bel.rf)) | (with_reducible refine Ok.st ?_ (by simpa using hlt) _))), (by repeat (first | exact (HCX.out.tr (Ch.of_bel HBL.out)) | (with_reducible refine Ch.drwN ?_ _) | (with_reducible refine Ch.drw ?_) | (with_reducible refine Ch.st2 ?_ (Nat.le_refl _) _)))⟩
      · have hq1 : 0 < q := by omega
        have HG : Hid (gd q (p % q) = gd n d) := (gd_step hp hq1).trans hg
        have hm0 : 0 ≤ p % q := Int.emod_nonneg _ (by omega)
        have hm1 : p % q < q := Int.emod_lt_of_pos _ hq1
        have HBL := Lib.hid hbel
        clear hg hbel
        go_wp2
        go_quiet (fail)
        go_wp2
        go_roundw
        case rel => exact ⟨q, p % q, rfl, rfl, by omega, hm0, HG.out, HBL.out.drwN _⟩
        case measure => simp [intOf]; omega
end Go.Proofs.YtabmpnmhjdbdmaaGreatDoor.Sr
