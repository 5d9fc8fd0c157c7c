/- The contracts of ratio.Format of valid ratios and of ratio.Parse of any text. -/
import Derived.Test.YtbldfchapnbdfaaDoorRr2
import Derived.Lib.AppendIntMem
namespace Go.Proofs.YtbldfchapnbdfaaDoor.Rr
open Go.ChangeShapes Go.WideShapes Go.RowKit Wo Ra
set_option linter.unusedVariables false
theorem itoa_any (n : Int) (h0 : 0 ≤ n) (h1 : n ≤ 2305843009213693952) (W : World) (hW : Itab W) : Calls Tryd.prog 17 #[.int .i64 n] W fun e w' => e = .returned (.string ⟨(Lib.itoa n).toArray⟩) ∧ Bel W w' :=
  (Tryd.strconv_Itoa n (by omega) (by omega) W hW).mono fun e w' ⟨he, k, os, hh⟩ => ⟨he, by rw [hh]; exact Lib.below_grow _ W (Nat.le_refl _) k os⟩
theorem itoa_len (n : Int) (h0 : 0 ≤ n) (h1 : n ≤ 2305843009213693952) : (⟨(Lib.itoa n).toArray⟩ : ByteArray).size ≤ 60 := by
  show (Lib.itoa n).toArray.size ≤ 60
  have h := dd_len n.toNat (by omega)
  rw [List.size_toArray, itoa_pos h0]
  omega
set_option maxHeartbeats 4000000 in
theorem format_any (n d : Int) (hv : rv n d = true) (w : World) (hw : Itab w) : Calls Tryd.prog 8 #[.agg #[.int .i64 n, .int .i64 d]] w fun e w' => e = .returned (.string ⟨(fmt n d).toArray⟩) ∧ Bel w w' := by
  have r := (of_rv hv).1
  have h0 := r.1
  have h1 := r.2.1
  have h2 := r.2.2.1
  have h3 := r.2.2.2
  obtain ⟨x, hx⟩ : ∃ x : ByteArray, (⟨(Lib.itoa n).toArray⟩ : ByteArray) = x := ⟨_, rfl⟩
  obtain ⟨y, hy⟩ : ∃ y : ByteArray, (⟨(Lib.itoa d).toArray⟩ : ByteArray) = y := ⟨_, rfl⟩
  have IN : Hid (∀ W, Itab W → Calls Tryd.prog 17 #[.int .i64 n] W fun e w' => e = .returned (.string x) ∧ Bel W w') := by
    rw [← hx]; exact Lib.hid (itoa_any n h0 h1)
  have ID : Hid (∀ W, Itab W → Calls Tryd.prog 17 #[.int .i64 d] W fun e w' => e = .returned (.string y) ∧ Bel W w') := by
    rw [← hy]; exact Lib.hid (itoa_any d (by omega) (by omega))
  have HV := Lib.hid (fun W => valid_any n d W)
  rw [hv] at HV
  have HW := Lib.hid hw
  obtain ⟨kx, hkx⟩ : ∃ k, x.size = k := ⟨_, rfl⟩
  obtain ⟨ky, hky⟩ : ∃ k, y.size = k := ⟨_, rfl⟩
  have kx1 : kx ≤ 60 := by rw [← hkx, ← hx]; exact itoa_len n h0 h1
  have ky1 : ky ≤ 60 := by rw [← hky, ← hy]; exact itoa_len d (by omega) (by omega)
  have g1 : (9223372036854775807 < kx + 1) = False := eq_false (by omega)
  have g2 : (9223372036854775807 < kx + 1 + ky) = False := eq_false (by omega)
  have HXY := Lib.hid (And.intro hx hy)
  clear r hx hy hw hv
  go_enter Tryd.func8, Tryd.ntmps8
  go_wp2_with fail
  go_at_call 9
  refine (HV.out _).mono ?_
  rintro e w1 ⟨rfl, hb⟩
  have HB0 := (Bk.nw w 25 #[.int .i64 n, .int .i64 d]).bel hb
  have k0 : w1.cell? ⟨w.heap.size, 0, none⟩ = some (.int .i64 n) := HB0.cell 0
  have k1 : w1.cell? ⟨w.heap.size, 1, none⟩ = some (.int .i64 d) := HB0.cell 1
  have HB : Hid (Bel w w1) := (Bel.rf.al _).tr hb
  have HT : Hid (Itab w1) := HW.out.bel HB.out
  clear hb HB0
  rcases Classical.em (d = 1) with hd | hd
  · subst hd
    go_wp2_with fail
    go_at_call 17
    refine (IN.out _ HT.out).mono ?_
    rintro e w2 ⟨rfl, hb⟩
    go_wp2
    go_ret
    exact ⟨by rw [← HXY.out.1]; unfold fmt; rw [if_pos rfl]; rfl, HB.out.tr hb⟩
  · have e1 : (d == 1) = false := by simpa using hd
    have KS : Hid (∀ W', Bel w1 W' → ((fun w' => w'.cell? ⟨w.heap.size, 0, none⟩ = some (.int .i64 n) ∧ w'.cell? ⟨w.heap.size, 1, none⟩ = some (.int .i64 d)) W')) := fun W' h => ⟨h.kp k0, h.kp k1⟩
    have IN2 : Hid (∀ W, Bel w1 W → Calls Tryd.prog 17 #[.int .i64 n] W fun e w' => e = .returned (.string x) ∧ Bel W w') := fun W h => IN.out W (HT.out.bel h)
    have ID2 : Hid (∀ W, Bel w1 W → Calls Tryd.prog 17 #[.int .i64 d] W fun e w' => e = .returned (.string y) ∧ Bel W w') := fun W h => ID.out W (HT.out.bel h)
    go_wp2_with fail
    have HD := Lib.hid hd
    clear IN ID hd HT k0 k1
    go_region_held3 (fun w' => w'.cell? ⟨w.heap.size, 0, none⟩ = some (.int .i64 n) ∧ w'.cell? ⟨w.heap.size, 1, none⟩ = some (.int .i64 d))
      (exact KS.out _ (by repeat (first | exact Bel.rf | (with_reducible refine Bel.drwN ?_ _) | (with_reducible refine Bel.drw ?_) | (refine Bel.tr ?_ (by assumption)))))
      ((go_at_call 17; first
        | ((with_reducible refine (IN2.out _ (by repeat (first | exact Bel.rf | (with_reducible refine Bel.drwN ?_ _) | (with_reducible refine Bel.drw ?_) | refine Bel.tr ?_ (by assumption)))).mono ?_); rintro r s1 ⟨rfl, h1⟩)
        | ((with_reducible refine (ID2.out _ (by repeat (first | exact Bel.rf | (with_reducible refine Bel.drwN ?_ _) | (with_reducible refine Bel.drw ?_) | refine Bel.tr ?_ (by assumption)))).mono ?_); rintro r s2 ⟨rfl, h2⟩)))
    all_goals
      go_wp2
      go_ret
      refine ⟨?_, (HB.out.tr (by repeat (first | exact Bel.rf | (with_reducible refine Bel.drwN ?_ _) | (with_reducible refine Bel.drw ?_) | refine Bel.tr ?_ (by assumption))))⟩
      have key : x ++ ⟨#[47]⟩ ++ y = ⟨(fmt n d).toArray⟩ := by
        rw [← HXY.out.1, ← HXY.out.2]
        refine ba_of _ _ ?_
        unfold fmt
        rw [if_neg HD.out, ByteArray.data_append, Array.toList_append, ByteArray.data_append, Array.toList_append]
        simp
      exact congrArg (fun b => Ending.returned (.string b)) key
end Go.Proofs.YtbldfchapnbdfaaDoor.Rr
