/- The contract of ratio.Add for any two valid ratios, with the numbers of the way under letters. -/
import Derived.Test.YtmpkjlifcdobiaaDoorDiv64
namespace Go.Proofs.YtmpkjlifcdobiaaDoor.Ra
open Go.ChangeShapes Go.WideShapes Go.RowKit Wo
set_option linter.unusedVariables false
def lim (top dh dl : Int) : Bool := decide (top ≤ 2305843009213693952 ∧ dh ≤ 0 ∧ dl ≤ 1152921504606846976)
/-- what Add returns behind its two tests -/
def addOut (hi c top dh dl : Int) : Value := if hi < c ∧ top ≤ 2305843009213693952 ∧ dh ≤ 0 ∧ dl ≤ 1152921504606846976 then .tuple #[.agg #[.int .i64 top, .int .i64 dl], .int .i64 0] else .tuple #[.agg #[.int .i64 0, .int .i64 0], .int .i64 4]
set_option maxHeartbeats 32000000 in
set_option maxRecDepth 100000 in
theorem add_core (n d m e g : Int) (w : World) (hv : rv n d = true) (hv2 : rv m e = true) (g0 : 1 ≤ g) (g1 : g ≤ e) (d0 : 1 ≤ d) (d1 : d ≤ 1152921504606846976) (e0 : 1 ≤ e) (e1 : e ≤ 1152921504606846976)
    (ph pl qh ql hi lo r c top rest dh dl : Int)
    (HP : ∀ W, Calls Tryd.prog 44 #[.int .i64 n, .int .i64 (e / g)] W fun r w' => r = .returned (.agg #[.int .u64 ph, .int .u64 pl]) ∧ W.alloc (.cells #[.int .u64 ph, .int .u64 pl] 60) = w')
    (HQ : ∀ W, Calls Tryd.prog 44 #[.int .i64 m, .int .i64 (d / g)] W fun r w' => r = .returned (.agg #[.int .u64 qh, .int .u64 ql]) ∧ W.alloc (.cells #[.int .u64 qh, .int .u64 ql] 60) = w')
    (HS : ∀ W, Calls Tryd.prog 43 #[.agg #[.int .u64 ph, .int .u64 pl], .agg #[.int .u64 qh, .int .u64 ql]] W fun r w' => r = .returned (.agg #[.int .u64 hi, .int .u64 lo]) ∧ ((W.alloc (.cells #[.int .u64 ph, .int .u64 pl] 60)).alloc (.cells #[.int .u64 qh, .int .u64 ql] 60)).alloc (.cells #[.int .u64 hi, .int .u64 lo] 60) = w')
    (HD : ∀ W, Calls Tryd.prog 39 #[.int .i64 d, .int .i64 e] W fun r w' => r = .returned (.int .i64 g) ∧ Bel W w')
    (HM : ∀ W, Calls Tryd.prog 45 #[.int .u64 hi, .int .u64 lo, .int .u64 g] W fun x w' => x = .returned (.int .u64 r) ∧ Bel W w')
    (HE : ∀ W, Calls Tryd.prog 39 #[.int .i64 r, .int .i64 g] W fun x w' => x = .returned (.int .i64 c) ∧ Bel W w')
    (r0 : 0 ≤ r) (r1 : r < g) (c0 : 1 ≤ c) (c1 : c ≤ g) (h0 : 0 ≤ hi) (h1 : hi ≤ 18446744073709551615)
    (HV : hi < c → ∀ W, Calls Tryd.prog 46 #[.int .u64 hi, .int .u64 lo, .int .u64 c] W fun x w' => x = .returned (.tuple #[.int .u64 top, .int .u64 rest]) ∧ Bel W w')
    (HR : ∀ W, Calls Tryd.prog 44 #[.int .i64 (d / g), .int .i64 (e / c)] W fun r w' => r = .returned (.agg #[.int .u64 dh, .int .u64 dl]) ∧ W.alloc (.cells #[.int .u64 dh, .int .u64 dl] 60) = w')
    (t0 : 0 ≤ top) (t1 : top ≤ 18446744073709551615) (k0 : 0 ≤ dh) (k1 : 0 ≤ dl) (k2 : dl ≤ 18446744073709551615) :
    Calls Tryd.prog 23 #[.agg #[.int .i64 n, .int .i64 d], .agg #[.int .i64 m, .int .i64 e]] w fun r w' => r = .returned (addOut hi c top dh dl) ∧ Bel w w' := by
  have gne : g ≠ 0 := by omega
  have cne : c ≠ 0 := by omega
  have td : ∀ a b : Int, 0 ≤ a → a ≤ 1152921504606846976 → 1 ≤ b → IntKind.i64.wrap (a.tdiv b) = a / b := fun a b ha hl hb => by
    rw [Int.tdiv_eq_ediv_of_nonneg ha]
    have h1 : 0 ≤ a / b := Int.ediv_nonneg ha (by omega)
    have h2 : a / b ≤ a := Int.ediv_le_self _ ha
    exact IntWalk.i64_in _ (by omega)
  have TE := Lib.hid (td e g (by omega) e1 g0)
  have TD := Lib.hid (td d g (by omega) d1 g0)
  have TC := Lib.hid (td e c (by omega) e1 c0)
  clear td
  have JP := Lib.hid HP
  have JQ := Lib.hid HQ
  have JR := Lib.hid HR
  have JS := Lib.hid HS
  have JD := Lib.hid HD
  have JE := Lib.hid HE
  have JM := Lib.hid HM
  have JV := Lib.hid HV
  clear HP HQ HR HS HD HE HM HV
  go_enter Tryd.func23, Tryd.ntmps23
  go_wp2_with fail
  go_at_call 15; refine (valid_any _ _ _).mono ?_; rintro e w1 ⟨rfl, hb1⟩
  have B1 : Bk w1 (w.heap.size + 1) 23 #[.int .i64 m, .int .i64 e] := ((Bk.nq (w.alloc _) _ _ (by simp)).al _).bel hb1
  have k0 : w1.cell? ⟨w.heap.size + 1, 0, none⟩ = some (.int .i64 m) := B1.cell 0
  have k1 : w1.cell? ⟨w.heap.size + 1, 1, none⟩ = some (.int .i64 e) := B1.cell 1
  go_wp2_with fail
  go_at_call 15; refine (valid_any _ _ _).mono ?_; rintro e w2 ⟨rfl, hb2⟩
  have B0 : Bk w2 w.heap.size 23 #[.int .i64 n, .int .i64 d] := ((((Bk.nw _ _ _).al _).al _).bel hb1).bel hb2
  have B2 : Bk w2 (w.heap.size + 2) 23 #[.int .i64 0, .int .i64 0] := ((Bk.nq ((w.alloc _).alloc _) _ _ (by simp)).bel hb1).bel hb2
  have C1 := B1.bel hb2
  have q0 : w2.cell? ⟨w.heap.size + 1, 0, none⟩ = some (.int .i64 m) := C1.cell 0
  have q1 : w2.cell? ⟨w.heap.size + 1, 1, none⟩ = some (.int .i64 e) := C1.cell 1
  have q2 : w2.cell? ⟨w.heap.size, 0, none⟩ = some (.int .i64 n) := B0.cell 0
  have q3 : w2.cell? ⟨w.heap.size, 1, none⟩ = some (.int .i64 d) := B0.cell 1
  have HB : Hid (Bel w w2) := (by repeat (first | exact Bel.rf | (with_reducible refine Bel.drwN ?_ _) | (with_reducible refine Bel.drw ?_) | (with_reducible refine Bel.al ?_ _) | ((with_reducible refine Bel.st2 ?_ ?_ _); (show _ ≤ _); (simp only []; omega)) | refine Bel.tr ?_ (by assumption)))
  have HB2 := Lib.hid B2
  clear hb1 hb2 B0 B1 B2 C1 k0 k1
  go_wp2_with fail
  go_at_call 39
  refine (JD.out _).mono ?_
  rintro r w3 ⟨rfl, h3⟩
  have q0 := h3.kp q0
  have q1 := h3.kp q1
  have q2 := h3.kp q2
  have q3 := h3.kp q3
  have HB := Lib.hid (HB.out.tr h3)
  have HB2 := Lib.hid (HB2.out.bel h3)
  clear h3
  go_upto_region 4 with fail
  go_cut [7] (fun s7 wx => ∃ (h : Nat) (W : World), W = wx ∧ s7 = .pointer (some ⟨h, 0, none⟩) ∧ Bk wx h 60 #[.int .u64 hi, .int .u64 lo] ∧ Bel w3 wx)
  case first =>
    have te := TE.out
    have td := TD.out
    go_region_held3? (fun w' => w'.cell? ⟨w.heap.size + 1, 0, none⟩ = some (.int .i64 m) ∧ w'.cell? ⟨w.heap.size + 1, 1, none⟩ = some (.int .i64 e) ∧ w'.cell? ⟨w.heap.size, 0, none⟩ = some (.int .i64 n) ∧ w'.cell? ⟨w.heap.size, 1, none⟩ = some (.int .i64 d))
      ((refine ⟨?_, ?_, ?_, ?_⟩) <;> (repeat (first | exact q0 | exact q1 | exact q2 | exact q3 | (with_reducible refine kp_al ?_ _) | (with_reducible refine kp_drwN ?_ _) | (with_reducible refine kp_drw ?_))))
      (first
        | (go_at_call_of 44 (Value.int IntKind.i64 n); refine (JP.out _).mono ?_; rintro r p1 ⟨rfl, rfl⟩)
        | (go_at_call_of 44 (Value.int IntKind.i64 m); refine (JQ.out _).mono ?_; rintro r p2 ⟨rfl, rfl⟩)
        | (go_at_call 43; refine (JS.out _).mono ?_; rintro r p3 ⟨rfl, rfl⟩))
    all_goals (go_wp2_with fail; go_meet; exact ⟨_, _, rfl, rfl, (by repeat (first | (refine Bk.nq _ _ _ ?_; (simp; done)) | (with_reducible refine Bk.al ?_ _) | (with_reducible refine Bk.drwN ?_ _) | (with_reducible refine Bk.drw ?_))), (by repeat (first | exact Bel.rf | (with_reducible refine Bel.drwN ?_ _) | (with_reducible refine Bel.drw ?_) | (with_reducible refine Bel.al ?_ _) | ((with_reducible refine Bel.st2 ?_ ?_ _); (show _ ≤ _); (simp only []; omega)) | refine Bel.tr ?_ (by assumption)))⟩)
  case rest =>
    obtain ⟨h, wx, hwx, rfl, b7, hbx⟩ := hcut
    subst hwx
    have vv0 : wx.cell? ⟨h, 0, none⟩ = some (.int .u64 hi) := b7.cell 0
    have vv1 : wx.cell? ⟨h, 1, none⟩ = some (.int .u64 lo) := b7.cell 1
    have q0 := hbx.kp q0
    have q1 := hbx.kp q1
    have q2 := hbx.kp q2
    have q3 := hbx.kp q3
    have HW : Hid (Bel w wx) := HB.out.tr hbx
    have HZ := Lib.hid (HB2.out.bel hbx)
    clear hbx b7 HB HB2
    go_wp2_with fail
    go_at_call 45
    refine (JM.out _).mono ?_
    rintro r w4 ⟨rfl, h4⟩
    have vv0 := h4.kp vv0
    have vv1 := h4.kp vv1
    have q0 := h4.kp q0
    have q1 := h4.kp q1
    have q2 := h4.kp q2
    have q3 := h4.kp q3
    have HW := Lib.hid (HW.out.tr h4)
    have HZ := Lib.hid (HZ.out.bel h4)
    clear h4
    go_wp2_with fail
    go_at_call 39
    refine (JE.out _).mono ?_
    rintro r w5 ⟨rfl, h5⟩
    have vv0 := h5.kp vv0
    have vv1 := h5.kp vv1
    have q0 := h5.kp q0
    have q1 := h5.kp q1
    have q2 := h5.kp q2
    have q3 := h5.kp q3
    have HW := Lib.hid (HW.out.tr h5)
    have HZ := Lib.hid (HZ.out.bel h5)
    clear h5
    rcases Int.lt_or_le hi c with hc | hc
    · have bc : decide (c ≤ hi) = false := decide_eq_false (by omega)
      have KV := Lib.hid (JV.out hc)
      go_wp2_with fail
      go_at_call 46
      refine (KV.out _).mono ?_
      rintro r w6 ⟨rfl, h6⟩
      have vv0 := h6.kp vv0
      have vv1 := h6.kp vv1
      have q0 := h6.kp q0
      have q1 := h6.kp q1
      have q2 := h6.kp q2
      have q3 := h6.kp q3
      have HW := Lib.hid (HW.out.tr h6)
      have HZ := Lib.hid (HZ.out.bel h6)
      clear h6
      go_upto_region 9 with fail
      go_cut [11] (fun s11 wy => ∃ (h2 : Nat) (V : World), V = wy ∧ s11 = .pointer (some ⟨h2, 0, none⟩) ∧ Bk wy h2 60 #[.int .u64 dh, .int .u64 dl] ∧ Bel w6 wy)
      case first =>
        have td := TD.out
        have tc := TC.out
        clear vv0 vv1 q0 q2
        have sz := HZ.out.lt
        have sz1 : w.heap.size < w6.heap.size := by omega
        have sz2 : w.heap.size + 1 < w6.heap.size := by omega
        clear HZ HW hv hv2 JP JQ JS JD JE TE TD TC
        go_region_held3? (fun w' => w'.cell? ⟨w.heap.size, 1, none⟩ = some (.int .i64 d) ∧ w'.cell? ⟨w.heap.size + 1, 1, none⟩ = some (.int .i64 e))
          ((refine ⟨?_, ?_⟩) <;> (repeat (first | exact q3 | exact q1 | (with_reducible refine kp_al ?_ _) | (with_reducible refine kp_drwN ?_ _) | (with_reducible refine kp_drw ?_))))
          (first | (go_at_call 44; refine (JR.out _).mono ?_; rintro r p1 ⟨rfl, rfl⟩))
        all_goals (go_wp2_with fail; go_meet; exact ⟨_, _, rfl, rfl, (by repeat (first | (refine Bk.nq _ _ _ ?_; (simp; done)) | (with_reducible refine Bk.al ?_ _) | (with_reducible refine Bk.drwN ?_ _) | (with_reducible refine Bk.drw ?_))), (by repeat (first | exact Bel.rf | (with_reducible refine Bel.drwN ?_ _) | (with_reducible refine Bel.drw ?_) | (with_reducible refine Bel.al ?_ _) | ((with_reducible refine Bel.st2 ?_ ?_ _); (show _ ≤ _); (simp only []; omega)) | refine Bel.tr ?_ (by assumption)))⟩)
      case rest =>
        obtain ⟨h2, wy, hwy, rfl, b11, hby⟩ := hcut
        subst hwy
        have zz0 : wy.cell? ⟨h2, 0, none⟩ = some (.int .u64 dh) := b11.cell 0
        have zz1 : wy.cell? ⟨h2, 1, none⟩ = some (.int .u64 dl) := b11.cell 1
        have B2 := HZ.out.bel hby
        have l0 : wy.cell? ⟨w.heap.size + 1 + 1, 0, none⟩ = some (.int .i64 0) := B2.cell 0
        have l1 : wy.cell? ⟨w.heap.size + 1 + 1, 1, none⟩ = some (.int .i64 0) := B2.cell 1
        have f0 : wy.frozen? ⟨w.heap.size + 1 + 1, 0, none⟩ = false := B2.fr 0
        have f1 : wy.frozen? ⟨w.heap.size + 1 + 1, 1, none⟩ = false := B2.fr 1
        have hww := HW.out
        clear b11 B2
        rcases Classical.em (top ≤ 2305843009213693952 ∧ dh ≤ 0 ∧ dl ≤ 1152921504606846976) with hl | hl
        · have HO : Hid (addOut hi c top dh dl = .tuple #[.agg #[.int .i64 top, .int .i64 dl], .int .i64 0]) := by
            show addOut hi c top dh dl = _
            unfold addOut
            rw [if_pos ⟨hc, hl⟩]
          obtain ⟨l2, l3, l4⟩ := hl
          have dz : dh = 0 := by omega
          clear JV KV
          go_wp2
          exact bodyPost_ret (v := .tuple #[.agg #[.int .i64 top, .int .i64 dl], .int .i64 0]) (by simp [results, Tryd.results23, go_sem, l0, l1]) rfl ⟨by rw [HO.out], (by repeat (first | exact Bel.rf | (with_reducible refine Bel.drwN ?_ _) | (with_reducible refine Bel.drw ?_) | (with_reducible refine Bel.al ?_ _) | ((with_reducible refine Bel.st2 ?_ ?_ _); (show _ ≤ _); (simp only []; omega)) | refine Bel.tr ?_ (by assumption)))⟩
        · have HO : Hid (addOut hi c top dh dl = .tuple #[.agg #[.int .i64 0, .int .i64 0], .int .i64 4]) := by
            show addOut hi c top dh dl = _
            unfold addOut
            rw [if_neg (fun x => hl x.2)]
          rcases Int.lt_or_le 2305843009213693952 top with h3 | h3
          · have HL := Lib.hid hl
            clear hl JV KV
            go_wp2
            exact bodyPost_ret (v := .tuple #[.agg #[.int .i64 0, .int .i64 0], .int .i64 4]) (by simp [results, Tryd.results23, go_sem, l0, l1]) rfl ⟨by rw [HO.out], (by repeat (first | exact Bel.rf | (with_reducible refine Bel.drwN ?_ _) | (with_reducible refine Bel.drw ?_) | (with_reducible refine Bel.al ?_ _) | ((with_reducible refine Bel.st2 ?_ ?_ _); (show _ ≤ _); (simp only []; omega)) | refine Bel.tr ?_ (by assumption)))⟩
          · rcases Int.lt_or_le 0 dh with h4 | h4
            · have HL := Lib.hid hl
              clear hl JV KV
              go_wp2
              exact bodyPost_ret (v := .tuple #[.agg #[.int .i64 0, .int .i64 0], .int .i64 4]) (by simp [results, Tryd.results23, go_sem, l0, l1]) rfl ⟨by rw [HO.out], (by repeat (first | exact Bel.rf | (with_reducible refine Bel.drwN ?_ _) | (with_reducible refine Bel.drw ?_) | (with_reducible refine Bel.al ?_ _) | ((with_reducible refine Bel.st2 ?_ ?_ _); (show _ ≤ _); (simp only []; omega)) | refine Bel.tr ?_ (by assumption)))⟩
            · have h5 : 1152921504606846976 < dl := by omega
              have HL := Lib.hid hl
              clear hl JV KV
              go_wp2
              exact bodyPost_ret (v := .tuple #[.agg #[.int .i64 0, .int .i64 0], .int .i64 4]) (by simp [results, Tryd.results23, go_sem, l0, l1]) rfl ⟨by rw [HO.out], (by repeat (first | exact Bel.rf | (with_reducible refine Bel.drwN ?_ _) | (with_reducible refine Bel.drw ?_) | (with_reducible refine Bel.al ?_ _) | ((with_reducible refine Bel.st2 ?_ ?_ _); (show _ ≤ _); (simp only []; omega)) | refine Bel.tr ?_ (by assumption)))⟩
    · have bc : decide (c ≤ hi) = true := decide_eq_true (by omega)
      have HO : Hid (addOut hi c top dh dl = .tuple #[.agg #[.int .i64 0, .int .i64 0], .int .i64 4]) := by
        show addOut hi c top dh dl = _
        unfold addOut
        rw [if_neg (fun x => by omega)]
      have B2 := HZ.out
      have l0 : w5.cell? ⟨w.heap.size + 1 + 1, 0, none⟩ = some (.int .i64 0) := B2.cell 0
      have l1 : w5.cell? ⟨w.heap.size + 1 + 1, 1, none⟩ = some (.int .i64 0) := B2.cell 1
      have f0 : w5.frozen? ⟨w.heap.size + 1 + 1, 0, none⟩ = false := B2.fr 0
      have f1 : w5.frozen? ⟨w.heap.size + 1 + 1, 1, none⟩ = false := B2.fr 1
      have hww := HW.out
      clear B2 JV
      go_wp2
      exact bodyPost_ret (v := .tuple #[.agg #[.int .i64 0, .int .i64 0], .int .i64 4]) (by simp [results, Tryd.results23, go_sem, l0, l1]) rfl ⟨by rw [HO.out], (by repeat (first | exact Bel.rf | (with_reducible refine Bel.drwN ?_ _) | (with_reducible refine Bel.drw ?_) | (with_reducible refine Bel.al ?_ _) | ((with_reducible refine Bel.st2 ?_ ?_ _); (show _ ≤ _); (simp only []; omega)) | refine Bel.tr ?_ (by assumption)))⟩
end Go.Proofs.YtmpkjlifcdobiaaDoor.Ra
