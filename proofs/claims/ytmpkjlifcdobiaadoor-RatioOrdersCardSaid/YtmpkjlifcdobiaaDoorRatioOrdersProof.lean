/- That the law RatioOrders returns true for every input that can be read, and leaves its arguments as they were; the package variables that it lists start as the program lays them, which the card ties to the text; no further condition. -/
import Derived.Test.YtmpkjlifcdobiaaDoorRows
import Derived.WalkKit
import Derived.ProofKit
import Derived.OpenShut
import Derived.LaidMore
import Derived.Stop.Joined
import Derived.SevenTiedAt
import Derived.Test.YtmpkjlifcdobiaaDoorCards
import Derived.Test.YtmpkjlifcdobiaaDoorTie
import Derived.Test.YtmpkjlifcdobiaaDoorWords
import Derived.Test.YtmpkjlifcdobiaaDoorRatioMath
import Derived.Test.YtmpkjlifcdobiaaDoorRatioAwake
import Derived.Test.YtmpkjlifcdobiaaDoorRatioLess
import Derived.Test.YtmpkjlifcdobiaaDoorSrcRatio
import Derived.Test.YtmpkjlifcdobiaaDoorSrcNew
import Derived.ShutString
import Derived.ChangeOld
import Derived.Below
namespace Go.Proofs.YtmpkjlifcdobiaaDoor.ratioOrders
open Go.ChangeShapes Go.WideShapes Go.ChangeAt Go.RowKit Wo
open Go.ChangeMaps (open_string shut_string)
set_option linter.unusedVariables false

theorem own : ownKnob Tryd.prog.godebug = none := by kernel_rfl
theorem laidOut : laidOutB Tryd.prog = true := by kernel_rfl

/-- WHAT THE WALK IS TOLD OF A SLICE OF INTEGERS THAT CAME IN: it is nil; or it leads to a row of 'cap' cells, the numbers 'zs' (the first 'len' are its elements, the rest its spare room), each fitting its kind. -/
def IsRow (k : IntKind) (w : World) (a : Option Addr) (len cap : Nat) (zs : List Int) : Prop :=
  (a = none ∧ len = 0 ∧ cap = 0 ∧ zs = []) ∨
  ∃ x, a = some x ∧ len ≤ cap ∧ cap ≤ maxLen ∧ zs.length = cap ∧ (∀ i, i < zs.length → w.cell? (x.add i) = some (.int k (zs.getD i 0))) ∧ ∀ n ∈ zs, (Lit.int k n).wf = true

open Go.Proofs.YtmpkjlifcdobiaaDoor.Ra Go.Proofs.YtmpkjlifcdobiaaDoor.Wo Go.Proofs.YtmpkjlifcdobiaaDoor.Sr in
set_option maxHeartbeats 16000000 in
set_option maxRecDepth 100000 in
theorem walk (a0 : Option Addr) (len0 cap0 : Nat) (z0 : List Int) (w : World) (w0 : IsRow .i64 w a0 len0 cap0 z0) :
    Calls Tryd.prog 4 #[.slice a0 len0 cap0] w fun e w' => e = .returned (.bool true) ∧ Below w.heap.size w w' := by
  go_enter Tryd.func4, Tryd.ntmps4
  go_wp2_with fail
  go_at_call 12
  refine (new_any a0 len0 cap0 z0 w w0).mono ?_
  rintro e w1 ⟨g, rfl, hg, ho1, hb1⟩
  have HO1 := Lib.hid ho1
  have HB1 := Lib.hid hb1
  clear ho1 hb1 w0
  go_wp2_with fail
  go_at_call 13
  refine (ratio_any g _ HO1.out).mono ?_
  rintro e w2 ⟨n1, d1, rfl, hv1, ho, hc⟩
  have HO2 := Lib.hid ho
  have HB2 : Hid (Bel w w2) := Bel.ch HB1.out hc hg
  have HV1 := Lib.hid (of_rv hv1)
  clear ho hc hv1
  go_wp2_with fail
  go_at_call 13
  refine (ratio_any g _ HO2.out).mono ?_
  rintro e w3 ⟨n2, d2, rfl, hv2, ho, hc⟩
  have HO3 := Lib.hid ho
  have HB3 : Hid (Bel w w3) := Bel.ch HB2.out hc hg
  have HV2 := Lib.hid (of_rv hv2)
  clear ho hc hv2
  go_wp2_with fail
  go_at_call 13
  refine (ratio_any g _ HO3.out).mono ?_
  rintro e w4 ⟨n3, d3, rfl, hv3, ho, hc⟩
  have HO4 := Lib.hid ho
  have HB4 : Hid (Bel w w4) := Bel.ch HB3.out hc hg
  have HV3 := Lib.hid (of_rv hv3)
  clear ho hc hv3
  have BA1 : Bk (((w4.alloc (.cells #[.int .i64 n1, .int .i64 d1] 23)).alloc (.cells #[.int .i64 n2, .int .i64 d2] 23)).alloc (.cells #[.int .i64 n3, .int .i64 d3] 23)) w4.heap.size 23 #[.int .i64 n1, .int .i64 d1] := ((Bk.nw _ _ _).al _).al _
  have BA2 : Bk (((w4.alloc (.cells #[.int .i64 n1, .int .i64 d1] 23)).alloc (.cells #[.int .i64 n2, .int .i64 d2] 23)).alloc (.cells #[.int .i64 n3, .int .i64 d3] 23)) (w4.heap.size + 1) 23 #[.int .i64 n2, .int .i64 d2] := (Bk.nq (w4.alloc _) _ _ (by simp)).al _
  have BA3 : Bk (((w4.alloc (.cells #[.int .i64 n1, .int .i64 d1] 23)).alloc (.cells #[.int .i64 n2, .int .i64 d2] 23)).alloc (.cells #[.int .i64 n3, .int .i64 d3] 23)) (w4.heap.size + 1 + 1) 23 #[.int .i64 n3, .int .i64 d3] := Bk.nq ((w4.alloc _).alloc _) _ _ (by simp)
  have HA1 := Lib.hid BA1
  have HA2 := Lib.hid BA2
  have HA3 := Lib.hid BA3
  have a1 : ((((w4.alloc (.cells #[.int .i64 n1, .int .i64 d1] 23)).alloc (.cells #[.int .i64 n2, .int .i64 d2] 23)).alloc (.cells #[.int .i64 n3, .int .i64 d3] 23))).cell? ⟨w4.heap.size, 0, none⟩ = some (.int .i64 n1) := BA1.cell 0
  have a2 : ((((w4.alloc (.cells #[.int .i64 n1, .int .i64 d1] 23)).alloc (.cells #[.int .i64 n2, .int .i64 d2] 23)).alloc (.cells #[.int .i64 n3, .int .i64 d3] 23))).cell? ⟨w4.heap.size, 1, none⟩ = some (.int .i64 d1) := BA1.cell 1
  have a3 : ((((w4.alloc (.cells #[.int .i64 n1, .int .i64 d1] 23)).alloc (.cells #[.int .i64 n2, .int .i64 d2] 23)).alloc (.cells #[.int .i64 n3, .int .i64 d3] 23))).cell? ⟨w4.heap.size + 1, 0, none⟩ = some (.int .i64 n2) := BA2.cell 0
  have a4 : ((((w4.alloc (.cells #[.int .i64 n1, .int .i64 d1] 23)).alloc (.cells #[.int .i64 n2, .int .i64 d2] 23)).alloc (.cells #[.int .i64 n3, .int .i64 d3] 23))).cell? ⟨w4.heap.size + 1, 1, none⟩ = some (.int .i64 d2) := BA2.cell 1
  have a5 : ((((w4.alloc (.cells #[.int .i64 n1, .int .i64 d1] 23)).alloc (.cells #[.int .i64 n2, .int .i64 d2] 23)).alloc (.cells #[.int .i64 n3, .int .i64 d3] 23))).cell? ⟨w4.heap.size + 1 + 1, 0, none⟩ = some (.int .i64 n3) := BA3.cell 0
  have a6 : ((((w4.alloc (.cells #[.int .i64 n1, .int .i64 d1] 23)).alloc (.cells #[.int .i64 n2, .int .i64 d2] 23)).alloc (.cells #[.int .i64 n3, .int .i64 d3] 23))).cell? ⟨w4.heap.size + 1 + 1, 1, none⟩ = some (.int .i64 d3) := BA3.cell 1
  clear BA1 BA2 BA3 HO1 HO2 HO3 HO4 HB1 HB2 HB3 hg
  go_upto_region 3 with fail
  go_cut [7, 8, 9] (fun s7 s8 s9 wx => ∃ (W : World), W = wx ∧ s7 = .int .i64 (rcmp n1 d1 n2 d2) ∧ s8 = .int .i64 (rcmp n2 d2 n3 d3) ∧ s9 = .int .i64 (rcmp n1 d1 n3 d3) ∧ Bel (((w4.alloc (.cells #[.int .i64 n1, .int .i64 d1] 23)).alloc (.cells #[.int .i64 n2, .int .i64 d2] 23)).alloc (.cells #[.int .i64 n3, .int .i64 d3] 23)) wx)
  case first =>
    go_region_held3 (fun w' => w'.cell? ⟨w4.heap.size, 0, none⟩ = some (.int .i64 n1) ∧ w'.cell? ⟨w4.heap.size, 1, none⟩ = some (.int .i64 d1) ∧ w'.cell? ⟨w4.heap.size + 1, 0, none⟩ = some (.int .i64 n2) ∧ w'.cell? ⟨w4.heap.size + 1, 1, none⟩ = some (.int .i64 d2) ∧ w'.cell? ⟨w4.heap.size + 1 + 1, 0, none⟩ = some (.int .i64 n3) ∧ w'.cell? ⟨w4.heap.size + 1 + 1, 1, none⟩ = some (.int .i64 d3))
      ((refine ⟨?_, ?_, ?_, ?_, ?_, ?_⟩) <;> (repeat (first | exact a1 | exact a2 | exact a3 | exact a4 | exact a5 | exact a6 | (with_reducible refine kp_al ?_ _) | (with_reducible refine kp_drwN ?_ _) | (with_reducible refine kp_drw ?_) | (refine Bel.kp (by assumption) ?_))))
      (first
        | (go_at_call 25; refine (cmp_any _ _ _ _ _).mono ?_; rintro r p ⟨rfl, hp⟩))
    all_goals (go_wp2_with fail; go_meet; exact ⟨_, rfl, rfl, rfl, rfl, (by repeat (first | exact Bel.rf | (with_reducible refine Bel.drwN ?_ _) | (with_reducible refine Bel.drw ?_) | (with_reducible refine Bel.al ?_ _) | ((with_reducible refine Bel.st2 ?_ ?_ _); (show _ ≤ _); (simp only []; omega)) | refine Bel.tr ?_ (by assumption)))⟩)
  case rest =>
    obtain ⟨wx, hwx, rfl, rfl, rfl, hbx⟩ := hcut
    subst hwx
    have BX1 := HA1.out.bel hbx
    have BX2 := HA2.out.bel hbx
    have HBX := Lib.hid ((((HB4.out).al _).al _).al _ |>.tr hbx)
    clear hbx a1 a2 a3 a4 a5 a6 HA1 HA2 HA3
    have x0 : wx.cell? ⟨w4.heap.size, 0, none⟩ = some (.int .i64 n1) := BX1.cell 0
    have x1 : wx.cell? ⟨w4.heap.size, 1, none⟩ = some (.int .i64 d1) := BX1.cell 1
    have x2 : wx.cell? ⟨w4.heap.size + 1, 0, none⟩ = some (.int .i64 n2) := BX2.cell 0
    have x3 : wx.cell? ⟨w4.heap.size + 1, 1, none⟩ = some (.int .i64 d2) := BX2.cell 1
    have t1 := rcmp_three HV1.out HV2.out
    have t2 := rcmp_three HV2.out HV3.out
    have tt := rcmp_trans HV1.out HV2.out HV3.out
    have hs := rcmp_same HV1.out HV2.out
    have KB : Hid (∀ W, Calls Tryd.prog 25 #[.agg #[.int .i64 n2, .int .i64 d2], .agg #[.int .i64 n1, .int .i64 d1]] W fun r w' => r = .returned (.int .i64 (-rcmp n1 d1 n2 d2)) ∧ Bel W w') := fun W => by
      have := cmp_any n2 d2 n1 d1 W
      rw [rcmp_turn HV1.out HV2.out] at this
      exact this
    have KL : Hid (∀ W, Calls Tryd.prog 27 #[.agg #[.int .i64 n1, .int .i64 d1], .agg #[.int .i64 n2, .int .i64 d2]] W fun r w' => r = .returned (.bool (decide (rcmp n1 d1 n2 d2 < 0))) ∧ Bel W w') :=
      fun W => less_as n1 d1 n2 d2 _ _ rfl rfl W
    have KS : Hid (∀ W, Calls Tryd.prog 25 #[.agg #[.int .i64 n1, .int .i64 d1], .agg #[.int .i64 n1, .int .i64 d1]] W fun r w' => r = .returned (.int .i64 0) ∧ Bel W w') := fun W => by
      have := cmp_any n1 d1 n1 d1 W
      rw [rcmp_self HV1.out] at this
      exact this
    have u1 : rcmp n1 d1 n2 d2 = -1 ∨ rcmp n1 d1 n2 d2 = 0 ∨ rcmp n1 d1 n2 d2 = 1 := by omega
    have u2 : rcmp n2 d2 n3 d3 = -1 ∨ rcmp n2 d2 n3 d3 = 0 ∨ rcmp n2 d2 n3 d3 = 1 := by omega
    clear t1 t2
    generalize rcmp n1 d1 n2 d2 = X at *
    generalize rcmp n2 d2 n3 d3 = Y at *
    generalize rcmp n1 d1 n3 d3 = Z at *
    have HT := Lib.hid tt
    have HS := Lib.hid hs
    clear tt hs HV1 HV2 HV3
    rcases u1 with rfl | rfl | rfl <;> rcases u2 with rfl | rfl | rfl
    · have z1 : Z ≤ 0 := HT.out.1 (by decide) (by decide)
      have hne : ¬ (n1 = n2 ∧ d1 = d2) := fun h => by have := HS.out.2 h; omega
      rcases Classical.em (n1 = n2) with hq | hq
      · have e1 : (n1 == n2) = true := by simpa using hq
        have e2 : (d1 == d2) = false := by
          rw [beq_eq_false_iff_ne]
          exact fun h => hne ⟨hq, h⟩
        clear hq hne
        go_wp2_with fail
        go_at_call 25
        refine (KB.out _).mono ?_
        rintro r p1 ⟨rfl, hp1⟩
        have C1 := BX1.bel hp1
        have C2 := BX2.bel hp1
        have y0 : p1.cell? ⟨w4.heap.size, 0, none⟩ = some (.int .i64 n1) := C1.cell 0
        have y1 : p1.cell? ⟨w4.heap.size, 1, none⟩ = some (.int .i64 d1) := C1.cell 1
        have y2 : p1.cell? ⟨w4.heap.size + 1, 0, none⟩ = some (.int .i64 n2) := C2.cell 0
        have y3 : p1.cell? ⟨w4.heap.size + 1, 1, none⟩ = some (.int .i64 d2) := C2.cell 1
        go_wp2_with fail
        go_at_call 27
        refine (KL.out _).mono ?_
        rintro r p2 ⟨rfl, hp2⟩
        have E1 := C1.bel hp2
        have y4 : p2.cell? ⟨w4.heap.size, 0, none⟩ = some (.int .i64 n1) := E1.cell 0
        have y5 : p2.cell? ⟨w4.heap.size, 1, none⟩ = some (.int .i64 d1) := E1.cell 1
        go_wp2_with fail
        go_at_call 25
        refine (KS.out _).mono ?_
        rintro r p3 ⟨rfl, hp3⟩
        go_wp2_with (first | (go_at_call 11; refine (awake_any _).mono ?_; rintro e w9 ⟨rfl, hb9⟩))
        have hww := HBX.out
        go_ret
        exact ⟨rfl, ((by repeat (first | exact Bel.rf | (with_reducible refine Bel.drwN ?_ _) | (with_reducible refine Bel.drw ?_) | (with_reducible refine Bel.al ?_ _) | ((with_reducible refine Bel.st2 ?_ ?_ _); (show _ ≤ _); (simp only []; omega)) | refine Bel.tr ?_ (by assumption))) : Bel w _)⟩
      · have e1 : (n1 == n2) = false := by simpa using hq
        clear hq hne
        go_wp2_with fail
        go_at_call 25
        refine (KB.out _).mono ?_
        rintro r p1 ⟨rfl, hp1⟩
        have C1 := BX1.bel hp1
        have C2 := BX2.bel hp1
        have y0 : p1.cell? ⟨w4.heap.size, 0, none⟩ = some (.int .i64 n1) := C1.cell 0
        have y1 : p1.cell? ⟨w4.heap.size, 1, none⟩ = some (.int .i64 d1) := C1.cell 1
        have y2 : p1.cell? ⟨w4.heap.size + 1, 0, none⟩ = some (.int .i64 n2) := C2.cell 0
        have y3 : p1.cell? ⟨w4.heap.size + 1, 1, none⟩ = some (.int .i64 d2) := C2.cell 1
        go_wp2_with fail
        go_at_call 27
        refine (KL.out _).mono ?_
        rintro r p2 ⟨rfl, hp2⟩
        have E1 := C1.bel hp2
        have y4 : p2.cell? ⟨w4.heap.size, 0, none⟩ = some (.int .i64 n1) := E1.cell 0
        have y5 : p2.cell? ⟨w4.heap.size, 1, none⟩ = some (.int .i64 d1) := E1.cell 1
        go_wp2_with fail
        go_at_call 25
        refine (KS.out _).mono ?_
        rintro r p3 ⟨rfl, hp3⟩
        go_wp2_with (first | (go_at_call 11; refine (awake_any _).mono ?_; rintro e w9 ⟨rfl, hb9⟩))
        have hww := HBX.out
        go_ret
        exact ⟨rfl, ((by repeat (first | exact Bel.rf | (with_reducible refine Bel.drwN ?_ _) | (with_reducible refine Bel.drw ?_) | (with_reducible refine Bel.al ?_ _) | ((with_reducible refine Bel.st2 ?_ ?_ _); (show _ ≤ _); (simp only []; omega)) | refine Bel.tr ?_ (by assumption))) : Bel w _)⟩
    · have z1 : Z ≤ 0 := HT.out.1 (by decide) (by decide)
      have hne : ¬ (n1 = n2 ∧ d1 = d2) := fun h => by have := HS.out.2 h; omega
      rcases Classical.em (n1 = n2) with hq | hq
      · have e1 : (n1 == n2) = true := by simpa using hq
        have e2 : (d1 == d2) = false := by
          rw [beq_eq_false_iff_ne]
          exact fun h => hne ⟨hq, h⟩
        clear hq hne
        go_wp2_with fail
        go_at_call 25
        refine (KB.out _).mono ?_
        rintro r p1 ⟨rfl, hp1⟩
        have C1 := BX1.bel hp1
        have C2 := BX2.bel hp1
        have y0 : p1.cell? ⟨w4.heap.size, 0, none⟩ = some (.int .i64 n1) := C1.cell 0
        have y1 : p1.cell? ⟨w4.heap.size, 1, none⟩ = some (.int .i64 d1) := C1.cell 1
        have y2 : p1.cell? ⟨w4.heap.size + 1, 0, none⟩ = some (.int .i64 n2) := C2.cell 0
        have y3 : p1.cell? ⟨w4.heap.size + 1, 1, none⟩ = some (.int .i64 d2) := C2.cell 1
        go_wp2_with fail
        go_at_call 27
        refine (KL.out _).mono ?_
        rintro r p2 ⟨rfl, hp2⟩
        have E1 := C1.bel hp2
        have y4 : p2.cell? ⟨w4.heap.size, 0, none⟩ = some (.int .i64 n1) := E1.cell 0
        have y5 : p2.cell? ⟨w4.heap.size, 1, none⟩ = some (.int .i64 d1) := E1.cell 1
        go_wp2_with fail
        go_at_call 25
        refine (KS.out _).mono ?_
        rintro r p3 ⟨rfl, hp3⟩
        go_wp2_with (first | (go_at_call 11; refine (awake_any _).mono ?_; rintro e w9 ⟨rfl, hb9⟩))
        have hww := HBX.out
        go_ret
        exact ⟨rfl, ((by repeat (first | exact Bel.rf | (with_reducible refine Bel.drwN ?_ _) | (with_reducible refine Bel.drw ?_) | (with_reducible refine Bel.al ?_ _) | ((with_reducible refine Bel.st2 ?_ ?_ _); (show _ ≤ _); (simp only []; omega)) | refine Bel.tr ?_ (by assumption))) : Bel w _)⟩
      · have e1 : (n1 == n2) = false := by simpa using hq
        clear hq hne
        go_wp2_with fail
        go_at_call 25
        refine (KB.out _).mono ?_
        rintro r p1 ⟨rfl, hp1⟩
        have C1 := BX1.bel hp1
        have C2 := BX2.bel hp1
        have y0 : p1.cell? ⟨w4.heap.size, 0, none⟩ = some (.int .i64 n1) := C1.cell 0
        have y1 : p1.cell? ⟨w4.heap.size, 1, none⟩ = some (.int .i64 d1) := C1.cell 1
        have y2 : p1.cell? ⟨w4.heap.size + 1, 0, none⟩ = some (.int .i64 n2) := C2.cell 0
        have y3 : p1.cell? ⟨w4.heap.size + 1, 1, none⟩ = some (.int .i64 d2) := C2.cell 1
        go_wp2_with fail
        go_at_call 27
        refine (KL.out _).mono ?_
        rintro r p2 ⟨rfl, hp2⟩
        have E1 := C1.bel hp2
        have y4 : p2.cell? ⟨w4.heap.size, 0, none⟩ = some (.int .i64 n1) := E1.cell 0
        have y5 : p2.cell? ⟨w4.heap.size, 1, none⟩ = some (.int .i64 d1) := E1.cell 1
        go_wp2_with fail
        go_at_call 25
        refine (KS.out _).mono ?_
        rintro r p3 ⟨rfl, hp3⟩
        go_wp2_with (first | (go_at_call 11; refine (awake_any _).mono ?_; rintro e w9 ⟨rfl, hb9⟩))
        have hww := HBX.out
        go_ret
        exact ⟨rfl, ((by repeat (first | exact Bel.rf | (with_reducible refine Bel.drwN ?_ _) | (with_reducible refine Bel.drw ?_) | (with_reducible refine Bel.al ?_ _) | ((with_reducible refine Bel.st2 ?_ ?_ _); (show _ ≤ _); (simp only []; omega)) | refine Bel.tr ?_ (by assumption))) : Bel w _)⟩
    · have hne : ¬ (n1 = n2 ∧ d1 = d2) := fun h => by have := HS.out.2 h; omega
      rcases Classical.em (n1 = n2) with hq | hq
      · have e1 : (n1 == n2) = true := by simpa using hq
        have e2 : (d1 == d2) = false := by
          rw [beq_eq_false_iff_ne]
          exact fun h => hne ⟨hq, h⟩
        clear hq hne
        go_wp2_with fail
        go_at_call 25
        refine (KB.out _).mono ?_
        rintro r p1 ⟨rfl, hp1⟩
        have C1 := BX1.bel hp1
        have C2 := BX2.bel hp1
        have y0 : p1.cell? ⟨w4.heap.size, 0, none⟩ = some (.int .i64 n1) := C1.cell 0
        have y1 : p1.cell? ⟨w4.heap.size, 1, none⟩ = some (.int .i64 d1) := C1.cell 1
        have y2 : p1.cell? ⟨w4.heap.size + 1, 0, none⟩ = some (.int .i64 n2) := C2.cell 0
        have y3 : p1.cell? ⟨w4.heap.size + 1, 1, none⟩ = some (.int .i64 d2) := C2.cell 1
        go_wp2_with fail
        go_at_call 27
        refine (KL.out _).mono ?_
        rintro r p2 ⟨rfl, hp2⟩
        have E1 := C1.bel hp2
        have y4 : p2.cell? ⟨w4.heap.size, 0, none⟩ = some (.int .i64 n1) := E1.cell 0
        have y5 : p2.cell? ⟨w4.heap.size, 1, none⟩ = some (.int .i64 d1) := E1.cell 1
        go_wp2_with fail
        go_at_call 25
        refine (KS.out _).mono ?_
        rintro r p3 ⟨rfl, hp3⟩
        go_wp2_with (first | (go_at_call 11; refine (awake_any _).mono ?_; rintro e w9 ⟨rfl, hb9⟩))
        have hww := HBX.out
        go_ret
        exact ⟨rfl, ((by repeat (first | exact Bel.rf | (with_reducible refine Bel.drwN ?_ _) | (with_reducible refine Bel.drw ?_) | (with_reducible refine Bel.al ?_ _) | ((with_reducible refine Bel.st2 ?_ ?_ _); (show _ ≤ _); (simp only []; omega)) | refine Bel.tr ?_ (by assumption))) : Bel w _)⟩
      · have e1 : (n1 == n2) = false := by simpa using hq
        clear hq hne
        go_wp2_with fail
        go_at_call 25
        refine (KB.out _).mono ?_
        rintro r p1 ⟨rfl, hp1⟩
        have C1 := BX1.bel hp1
        have C2 := BX2.bel hp1
        have y0 : p1.cell? ⟨w4.heap.size, 0, none⟩ = some (.int .i64 n1) := C1.cell 0
        have y1 : p1.cell? ⟨w4.heap.size, 1, none⟩ = some (.int .i64 d1) := C1.cell 1
        have y2 : p1.cell? ⟨w4.heap.size + 1, 0, none⟩ = some (.int .i64 n2) := C2.cell 0
        have y3 : p1.cell? ⟨w4.heap.size + 1, 1, none⟩ = some (.int .i64 d2) := C2.cell 1
        go_wp2_with fail
        go_at_call 27
        refine (KL.out _).mono ?_
        rintro r p2 ⟨rfl, hp2⟩
        have E1 := C1.bel hp2
        have y4 : p2.cell? ⟨w4.heap.size, 0, none⟩ = some (.int .i64 n1) := E1.cell 0
        have y5 : p2.cell? ⟨w4.heap.size, 1, none⟩ = some (.int .i64 d1) := E1.cell 1
        go_wp2_with fail
        go_at_call 25
        refine (KS.out _).mono ?_
        rintro r p3 ⟨rfl, hp3⟩
        go_wp2_with (first | (go_at_call 11; refine (awake_any _).mono ?_; rintro e w9 ⟨rfl, hb9⟩))
        have hww := HBX.out
        go_ret
        exact ⟨rfl, ((by repeat (first | exact Bel.rf | (with_reducible refine Bel.drwN ?_ _) | (with_reducible refine Bel.drw ?_) | (with_reducible refine Bel.al ?_ _) | ((with_reducible refine Bel.st2 ?_ ?_ _); (show _ ≤ _); (simp only []; omega)) | refine Bel.tr ?_ (by assumption))) : Bel w _)⟩
    · have z1 : Z ≤ 0 := HT.out.1 (by decide) (by decide)
      have hq := HS.out.1 rfl
      have e1 : (n1 == n2) = true := by simpa using hq.1
      have e2 : (d1 == d2) = true := by simpa using hq.2
      clear hq
      go_wp2_with fail
      go_at_call 25
      refine (KB.out _).mono ?_
      rintro r p1 ⟨rfl, hp1⟩
      have C1 := BX1.bel hp1
      have C2 := BX2.bel hp1
      have y0 : p1.cell? ⟨w4.heap.size, 0, none⟩ = some (.int .i64 n1) := C1.cell 0
      have y1 : p1.cell? ⟨w4.heap.size, 1, none⟩ = some (.int .i64 d1) := C1.cell 1
      have y2 : p1.cell? ⟨w4.heap.size + 1, 0, none⟩ = some (.int .i64 n2) := C2.cell 0
      have y3 : p1.cell? ⟨w4.heap.size + 1, 1, none⟩ = some (.int .i64 d2) := C2.cell 1
      go_wp2_with fail
      go_at_call 27
      refine (KL.out _).mono ?_
      rintro r p2 ⟨rfl, hp2⟩
      have E1 := C1.bel hp2
      have y4 : p2.cell? ⟨w4.heap.size, 0, none⟩ = some (.int .i64 n1) := E1.cell 0
      have y5 : p2.cell? ⟨w4.heap.size, 1, none⟩ = some (.int .i64 d1) := E1.cell 1
      go_wp2_with fail
      go_at_call 25
      refine (KS.out _).mono ?_
      rintro r p3 ⟨rfl, hp3⟩
      go_wp2_with (first | (go_at_call 11; refine (awake_any _).mono ?_; rintro e w9 ⟨rfl, hb9⟩))
      have hww := HBX.out
      go_ret
      exact ⟨rfl, ((by repeat (first | exact Bel.rf | (with_reducible refine Bel.drwN ?_ _) | (with_reducible refine Bel.drw ?_) | (with_reducible refine Bel.al ?_ _) | ((with_reducible refine Bel.st2 ?_ ?_ _); (show _ ≤ _); (simp only []; omega)) | refine Bel.tr ?_ (by assumption))) : Bel w _)⟩
    · have z1 : Z ≤ 0 := HT.out.1 (by decide) (by decide)
      have z2 : 0 ≤ Z := HT.out.2 (by decide) (by decide)
      have hq := HS.out.1 rfl
      have e1 : (n1 == n2) = true := by simpa using hq.1
      have e2 : (d1 == d2) = true := by simpa using hq.2
      clear hq
      go_wp2_with fail
      go_at_call 25
      refine (KB.out _).mono ?_
      rintro r p1 ⟨rfl, hp1⟩
      have C1 := BX1.bel hp1
      have C2 := BX2.bel hp1
      have y0 : p1.cell? ⟨w4.heap.size, 0, none⟩ = some (.int .i64 n1) := C1.cell 0
      have y1 : p1.cell? ⟨w4.heap.size, 1, none⟩ = some (.int .i64 d1) := C1.cell 1
      have y2 : p1.cell? ⟨w4.heap.size + 1, 0, none⟩ = some (.int .i64 n2) := C2.cell 0
      have y3 : p1.cell? ⟨w4.heap.size + 1, 1, none⟩ = some (.int .i64 d2) := C2.cell 1
      go_wp2_with fail
      go_at_call 27
      refine (KL.out _).mono ?_
      rintro r p2 ⟨rfl, hp2⟩
      have E1 := C1.bel hp2
      have y4 : p2.cell? ⟨w4.heap.size, 0, none⟩ = some (.int .i64 n1) := E1.cell 0
      have y5 : p2.cell? ⟨w4.heap.size, 1, none⟩ = some (.int .i64 d1) := E1.cell 1
      go_wp2_with fail
      go_at_call 25
      refine (KS.out _).mono ?_
      rintro r p3 ⟨rfl, hp3⟩
      go_wp2_with (first | (go_at_call 11; refine (awake_any _).mono ?_; rintro e w9 ⟨rfl, hb9⟩))
      have hww := HBX.out
      go_ret
      exact ⟨rfl, ((by repeat (first | exact Bel.rf | (with_reducible refine Bel.drwN ?_ _) | (with_reducible refine Bel.drw ?_) | (with_reducible refine Bel.al ?_ _) | ((with_reducible refine Bel.st2 ?_ ?_ _); (show _ ≤ _); (simp only []; omega)) | refine Bel.tr ?_ (by assumption))) : Bel w _)⟩
    · have z2 : 0 ≤ Z := HT.out.2 (by decide) (by decide)
      have hq := HS.out.1 rfl
      have e1 : (n1 == n2) = true := by simpa using hq.1
      have e2 : (d1 == d2) = true := by simpa using hq.2
      clear hq
      go_wp2_with fail
      go_at_call 25
      refine (KB.out _).mono ?_
      rintro r p1 ⟨rfl, hp1⟩
      have C1 := BX1.bel hp1
      have C2 := BX2.bel hp1
      have y0 : p1.cell? ⟨w4.heap.size, 0, none⟩ = some (.int .i64 n1) := C1.cell 0
      have y1 : p1.cell? ⟨w4.heap.size, 1, none⟩ = some (.int .i64 d1) := C1.cell 1
      have y2 : p1.cell? ⟨w4.heap.size + 1, 0, none⟩ = some (.int .i64 n2) := C2.cell 0
      have y3 : p1.cell? ⟨w4.heap.size + 1, 1, none⟩ = some (.int .i64 d2) := C2.cell 1
      go_wp2_with fail
      go_at_call 27
      refine (KL.out _).mono ?_
      rintro r p2 ⟨rfl, hp2⟩
      have E1 := C1.bel hp2
      have y4 : p2.cell? ⟨w4.heap.size, 0, none⟩ = some (.int .i64 n1) := E1.cell 0
      have y5 : p2.cell? ⟨w4.heap.size, 1, none⟩ = some (.int .i64 d1) := E1.cell 1
      go_wp2_with fail
      go_at_call 25
      refine (KS.out _).mono ?_
      rintro r p3 ⟨rfl, hp3⟩
      go_wp2_with (first | (go_at_call 11; refine (awake_any _).mono ?_; rintro e w9 ⟨rfl, hb9⟩))
      have hww := HBX.out
      go_ret
      exact ⟨rfl, ((by repeat (first | exact Bel.rf | (with_reducible refine Bel.drwN ?_ _) | (with_reducible refine Bel.drw ?_) | (with_reducible refine Bel.al ?_ _) | ((with_reducible refine Bel.st2 ?_ ?_ _); (show _ ≤ _); (simp only []; omega)) | refine Bel.tr ?_ (by assumption))) : Bel w _)⟩
    · have hne : ¬ (n1 = n2 ∧ d1 = d2) := fun h => by have := HS.out.2 h; omega
      rcases Classical.em (n1 = n2) with hq | hq
      · have e1 : (n1 == n2) = true := by simpa using hq
        have e2 : (d1 == d2) = false := by
          rw [beq_eq_false_iff_ne]
          exact fun h => hne ⟨hq, h⟩
        clear hq hne
        go_wp2_with fail
        go_at_call 25
        refine (KB.out _).mono ?_
        rintro r p1 ⟨rfl, hp1⟩
        have C1 := BX1.bel hp1
        have C2 := BX2.bel hp1
        have y0 : p1.cell? ⟨w4.heap.size, 0, none⟩ = some (.int .i64 n1) := C1.cell 0
        have y1 : p1.cell? ⟨w4.heap.size, 1, none⟩ = some (.int .i64 d1) := C1.cell 1
        have y2 : p1.cell? ⟨w4.heap.size + 1, 0, none⟩ = some (.int .i64 n2) := C2.cell 0
        have y3 : p1.cell? ⟨w4.heap.size + 1, 1, none⟩ = some (.int .i64 d2) := C2.cell 1
        go_wp2_with fail
        go_at_call 27
        refine (KL.out _).mono ?_
        rintro r p2 ⟨rfl, hp2⟩
        have E1 := C1.bel hp2
        have y4 : p2.cell? ⟨w4.heap.size, 0, none⟩ = some (.int .i64 n1) := E1.cell 0
        have y5 : p2.cell? ⟨w4.heap.size, 1, none⟩ = some (.int .i64 d1) := E1.cell 1
        go_wp2_with fail
        go_at_call 25
        refine (KS.out _).mono ?_
        rintro r p3 ⟨rfl, hp3⟩
        go_wp2_with (first | (go_at_call 11; refine (awake_any _).mono ?_; rintro e w9 ⟨rfl, hb9⟩))
        have hww := HBX.out
        go_ret
        exact ⟨rfl, ((by repeat (first | exact Bel.rf | (with_reducible refine Bel.drwN ?_ _) | (with_reducible refine Bel.drw ?_) | (with_reducible refine Bel.al ?_ _) | ((with_reducible refine Bel.st2 ?_ ?_ _); (show _ ≤ _); (simp only []; omega)) | refine Bel.tr ?_ (by assumption))) : Bel w _)⟩
      · have e1 : (n1 == n2) = false := by simpa using hq
        clear hq hne
        go_wp2_with fail
        go_at_call 25
        refine (KB.out _).mono ?_
        rintro r p1 ⟨rfl, hp1⟩
        have C1 := BX1.bel hp1
        have C2 := BX2.bel hp1
        have y0 : p1.cell? ⟨w4.heap.size, 0, none⟩ = some (.int .i64 n1) := C1.cell 0
        have y1 : p1.cell? ⟨w4.heap.size, 1, none⟩ = some (.int .i64 d1) := C1.cell 1
        have y2 : p1.cell? ⟨w4.heap.size + 1, 0, none⟩ = some (.int .i64 n2) := C2.cell 0
        have y3 : p1.cell? ⟨w4.heap.size + 1, 1, none⟩ = some (.int .i64 d2) := C2.cell 1
        go_wp2_with fail
        go_at_call 27
        refine (KL.out _).mono ?_
        rintro r p2 ⟨rfl, hp2⟩
        have E1 := C1.bel hp2
        have y4 : p2.cell? ⟨w4.heap.size, 0, none⟩ = some (.int .i64 n1) := E1.cell 0
        have y5 : p2.cell? ⟨w4.heap.size, 1, none⟩ = some (.int .i64 d1) := E1.cell 1
        go_wp2_with fail
        go_at_call 25
        refine (KS.out _).mono ?_
        rintro r p3 ⟨rfl, hp3⟩
        go_wp2_with (first | (go_at_call 11; refine (awake_any _).mono ?_; rintro e w9 ⟨rfl, hb9⟩))
        have hww := HBX.out
        go_ret
        exact ⟨rfl, ((by repeat (first | exact Bel.rf | (with_reducible refine Bel.drwN ?_ _) | (with_reducible refine Bel.drw ?_) | (with_reducible refine Bel.al ?_ _) | ((with_reducible refine Bel.st2 ?_ ?_ _); (show _ ≤ _); (simp only []; omega)) | refine Bel.tr ?_ (by assumption))) : Bel w _)⟩
    · have z2 : 0 ≤ Z := HT.out.2 (by decide) (by decide)
      have hne : ¬ (n1 = n2 ∧ d1 = d2) := fun h => by have := HS.out.2 h; omega
      rcases Classical.em (n1 = n2) with hq | hq
      · have e1 : (n1 == n2) = true := by simpa using hq
        have e2 : (d1 == d2) = false := by
          rw [beq_eq_false_iff_ne]
          exact fun h => hne ⟨hq, h⟩
        clear hq hne
        go_wp2_with fail
        go_at_call 25
        refine (KB.out _).mono ?_
        rintro r p1 ⟨rfl, hp1⟩
        have C1 := BX1.bel hp1
        have C2 := BX2.bel hp1
        have y0 : p1.cell? ⟨w4.heap.size, 0, none⟩ = some (.int .i64 n1) := C1.cell 0
        have y1 : p1.cell? ⟨w4.heap.size, 1, none⟩ = some (.int .i64 d1) := C1.cell 1
        have y2 : p1.cell? ⟨w4.heap.size + 1, 0, none⟩ = some (.int .i64 n2) := C2.cell 0
        have y3 : p1.cell? ⟨w4.heap.size + 1, 1, none⟩ = some (.int .i64 d2) := C2.cell 1
        go_wp2_with fail
        go_at_call 27
        refine (KL.out _).mono ?_
        rintro r p2 ⟨rfl, hp2⟩
        have E1 := C1.bel hp2
        have y4 : p2.cell? ⟨w4.heap.size, 0, none⟩ = some (.int .i64 n1) := E1.cell 0
        have y5 : p2.cell? ⟨w4.heap.size, 1, none⟩ = some (.int .i64 d1) := E1.cell 1
        go_wp2_with fail
        go_at_call 25
        refine (KS.out _).mono ?_
        rintro r p3 ⟨rfl, hp3⟩
        go_wp2_with (first | (go_at_call 11; refine (awake_any _).mono ?_; rintro e w9 ⟨rfl, hb9⟩))
        have hww := HBX.out
        go_ret
        exact ⟨rfl, ((by repeat (first | exact Bel.rf | (with_reducible refine Bel.drwN ?_ _) | (with_reducible refine Bel.drw ?_) | (with_reducible refine Bel.al ?_ _) | ((with_reducible refine Bel.st2 ?_ ?_ _); (show _ ≤ _); (simp only []; omega)) | refine Bel.tr ?_ (by assumption))) : Bel w _)⟩
      · have e1 : (n1 == n2) = false := by simpa using hq
        clear hq hne
        go_wp2_with fail
        go_at_call 25
        refine (KB.out _).mono ?_
        rintro r p1 ⟨rfl, hp1⟩
        have C1 := BX1.bel hp1
        have C2 := BX2.bel hp1
        have y0 : p1.cell? ⟨w4.heap.size, 0, none⟩ = some (.int .i64 n1) := C1.cell 0
        have y1 : p1.cell? ⟨w4.heap.size, 1, none⟩ = some (.int .i64 d1) := C1.cell 1
        have y2 : p1.cell? ⟨w4.heap.size + 1, 0, none⟩ = some (.int .i64 n2) := C2.cell 0
        have y3 : p1.cell? ⟨w4.heap.size + 1, 1, none⟩ = some (.int .i64 d2) := C2.cell 1
        go_wp2_with fail
        go_at_call 27
        refine (KL.out _).mono ?_
        rintro r p2 ⟨rfl, hp2⟩
        have E1 := C1.bel hp2
        have y4 : p2.cell? ⟨w4.heap.size, 0, none⟩ = some (.int .i64 n1) := E1.cell 0
        have y5 : p2.cell? ⟨w4.heap.size, 1, none⟩ = some (.int .i64 d1) := E1.cell 1
        go_wp2_with fail
        go_at_call 25
        refine (KS.out _).mono ?_
        rintro r p3 ⟨rfl, hp3⟩
        go_wp2_with (first | (go_at_call 11; refine (awake_any _).mono ?_; rintro e w9 ⟨rfl, hb9⟩))
        have hww := HBX.out
        go_ret
        exact ⟨rfl, ((by repeat (first | exact Bel.rf | (with_reducible refine Bel.drwN ?_ _) | (with_reducible refine Bel.drw ?_) | (with_reducible refine Bel.al ?_ _) | ((with_reducible refine Bel.st2 ?_ ?_ _); (show _ ≤ _); (simp only []; omega)) | refine Bel.tr ?_ (by assumption))) : Bel w _)⟩
    · have z2 : 0 ≤ Z := HT.out.2 (by decide) (by decide)
      have hne : ¬ (n1 = n2 ∧ d1 = d2) := fun h => by have := HS.out.2 h; omega
      rcases Classical.em (n1 = n2) with hq | hq
      · have e1 : (n1 == n2) = true := by simpa using hq
        have e2 : (d1 == d2) = false := by
          rw [beq_eq_false_iff_ne]
          exact fun h => hne ⟨hq, h⟩
        clear hq hne
        go_wp2_with fail
        go_at_call 25
        refine (KB.out _).mono ?_
        rintro r p1 ⟨rfl, hp1⟩
        have C1 := BX1.bel hp1
        have C2 := BX2.bel hp1
        have y0 : p1.cell? ⟨w4.heap.size, 0, none⟩ = some (.int .i64 n1) := C1.cell 0
        have y1 : p1.cell? ⟨w4.heap.size, 1, none⟩ = some (.int .i64 d1) := C1.cell 1
        have y2 : p1.cell? ⟨w4.heap.size + 1, 0, none⟩ = some (.int .i64 n2) := C2.cell 0
        have y3 : p1.cell? ⟨w4.heap.size + 1, 1, none⟩ = some (.int .i64 d2) := C2.cell 1
        go_wp2_with fail
        go_at_call 27
        refine (KL.out _).mono ?_
        rintro r p2 ⟨rfl, hp2⟩
        have E1 := C1.bel hp2
        have y4 : p2.cell? ⟨w4.heap.size, 0, none⟩ = some (.int .i64 n1) := E1.cell 0
        have y5 : p2.cell? ⟨w4.heap.size, 1, none⟩ = some (.int .i64 d1) := E1.cell 1
        go_wp2_with fail
        go_at_call 25
        refine (KS.out _).mono ?_
        rintro r p3 ⟨rfl, hp3⟩
        go_wp2_with (first | (go_at_call 11; refine (awake_any _).mono ?_; rintro e w9 ⟨rfl, hb9⟩))
        have hww := HBX.out
        go_ret
        exact ⟨rfl, ((by repeat (first | exact Bel.rf | (with_reducible refine Bel.drwN ?_ _) | (with_reducible refine Bel.drw ?_) | (with_reducible refine Bel.al ?_ _) | ((with_reducible refine Bel.st2 ?_ ?_ _); (show _ ≤ _); (simp only []; omega)) | refine Bel.tr ?_ (by assumption))) : Bel w _)⟩
      · have e1 : (n1 == n2) = false := by simpa using hq
        clear hq hne
        go_wp2_with fail
        go_at_call 25
        refine (KB.out _).mono ?_
        rintro r p1 ⟨rfl, hp1⟩
        have C1 := BX1.bel hp1
        have C2 := BX2.bel hp1
        have y0 : p1.cell? ⟨w4.heap.size, 0, none⟩ = some (.int .i64 n1) := C1.cell 0
        have y1 : p1.cell? ⟨w4.heap.size, 1, none⟩ = some (.int .i64 d1) := C1.cell 1
        have y2 : p1.cell? ⟨w4.heap.size + 1, 0, none⟩ = some (.int .i64 n2) := C2.cell 0
        have y3 : p1.cell? ⟨w4.heap.size + 1, 1, none⟩ = some (.int .i64 d2) := C2.cell 1
        go_wp2_with fail
        go_at_call 27
        refine (KL.out _).mono ?_
        rintro r p2 ⟨rfl, hp2⟩
        have E1 := C1.bel hp2
        have y4 : p2.cell? ⟨w4.heap.size, 0, none⟩ = some (.int .i64 n1) := E1.cell 0
        have y5 : p2.cell? ⟨w4.heap.size, 1, none⟩ = some (.int .i64 d1) := E1.cell 1
        go_wp2_with fail
        go_at_call 25
        refine (KS.out _).mono ?_
        rintro r p3 ⟨rfl, hp3⟩
        go_wp2_with (first | (go_at_call 11; refine (awake_any _).mono ?_; rintro e w9 ⟨rfl, hb9⟩))
        have hww := HBX.out
        go_ret
        exact ⟨rfl, ((by repeat (first | exact Bel.rf | (with_reducible refine Bel.drwN ?_ _) | (with_reducible refine Bel.drw ?_) | (with_reducible refine Bel.al ?_ _) | ((with_reducible refine Bel.st2 ?_ ?_ _); (show _ ≤ _); (simp only []; omega)) | refine Bel.tr ?_ (by assumption))) : Bel w _)⟩

theorem door_met (os : Os) (args : Array Value) : laidMetH Tryd.prog [("math/bits.deBruijn32tab", Rows.laid_math_bits_deBruijn32tab), ("math/bits.deBruijn64tab", Rows.laid_math_bits_deBruijn64tab), ("internal/strconv.uint64pow10", Rows.laid_internal_strconv_uint64pow10)] ((World.doorLaid Tryd.prog 400 os).forCall (fun _ _ => 0) ⟨#[], args, []⟩).memory :=
  laidMetH_of_parts3 (fuel := 8) (laidMet_of_run' 8 (by kernel_rfl) (by kernel_rfl)) (by kernel_rfl) (by kernel_rfl)
set_option maxRecDepth 100000 in
theorem lifted (os : Os) (started : os.Started) (H : Type) (enc : TypeId × Value → H) :
    ReturnsInHanded {} Tryd.checked os 4 .any (fun w args => (Rows.ratioOrdersSpec.pre enc Tryd.prog Tryd.f4 [] false w args ∧ laidMetH Tryd.prog [("math/bits.deBruijn32tab", Rows.laid_math_bits_deBruijn32tab), ("math/bits.deBruijn64tab", Rows.laid_math_bits_deBruijn64tab), ("internal/strconv.uint64pow10", Rows.laid_internal_strconv_uint64pow10)] w) ∧ sizedMet enc Tryd.prog Tryd.f4 (OpenSpec.ofChange Rows.ratioOrdersSpec) false w args)
      (Rows.ratioOrdersSpec.post enc Tryd.prog Tryd.f4 false true false false) := by
  refine returnsInHanded_of_change_and (C := Tryd.checked) (X := fun w _ => laidMetH Tryd.prog [("math/bits.deBruijn32tab", Rows.laid_math_bits_deBruijn32tab), ("math/bits.deBruijn64tab", Rows.laid_math_bits_deBruijn64tab), ("internal/strconv.uint64pow10", Rows.laid_internal_strconv_uint64pow10)] w) (fun _ _ _ hh h => h.of_heap hh) own started (by kernel_rfl) Tryd.func4
    (ChangeSpec.witness_shaped (enc := enc) (C := Tryd.checked) (os := os) (X := fun w _ => laidMetH Tryd.prog [("math/bits.deBruijn32tab", Rows.laid_math_bits_deBruijn32tab), ("math/bits.deBruijn64tab", Rows.laid_math_bits_deBruijn64tab), ("internal/strconv.uint64pow10", Rows.laid_internal_strconv_uint64pow10)] w) false (World.doorLaid Tryd.prog 400 os) #[.slice none 0 0] 8 rfl (World.shaped_of_RefB (by kernel_rfl) (by kernel_rfl)) (by kernel_rfl) (by kernel_rfl) (by kernel_rfl) (door_met os _)) ?_
  intro W base args ds gs before hval0 hW _ _ hL hsz
  have hval : ∀ (j : Nat) t v, Tryd.f4.params[j]? = some t → args[j]? = some v → Value.okWide Tryd.prog W .any base t v := hval0
  have hW' := hW
  obtain ⟨p, q, hA0, hV, rfl, hfz, hnd⟩ := hW
  have hA : DataW.TrodAll enc Tryd.prog W 0 (fun _ => true) true Tryd.f4.params.toList args.toList ds p := hA0
  rw [Tryd.params4] at hA hval
  obtain ⟨v0, vs0, d0, ds0, p0, q0, hargs, rfl, rfl, h0, r0⟩ := trodAll_cons hA
  obtain ⟨rfl, rfl, rfl⟩ := trodAll_nil r0
  obtain rfl : args = #[v0] := by cases args; simp_all
  obtain ⟨rfl, rfl⟩ := trodVars_none hV
  obtain ⟨a0, len0, cap0, rfl⟩ := okWide_slice Tryd.underlying24 (hval 0 24 v0 rfl rfl)
  have k0 := h0
  have lt0 : ∀ x ∈ p0, x.block < W.heap.size := by obtain ⟨m, hm⟩ := k0; exact DataW.trod_lt m _ _ _ hm
  obtain ⟨z0, w0⟩ : ∃ zs, IsRow .i64 W a0 len0 cap0 zs := by
    obtain ⟨fuel, hf⟩ := h0
    rcases open_ints Tryd.underlying24 Tryd.underlying3 (by kernel_rfl) hf with ⟨hcs, _⟩ | ⟨x, l, c, zs, hcs, _, hl, hm, hz, _, hcell, hwz⟩
    · simp [Value.cells] at hcs
      obtain ⟨rfl, rfl, rfl⟩ := hcs
      exact ⟨[], .inl ⟨rfl, rfl, rfl, rfl⟩⟩
    · simp [Value.cells] at hcs
      obtain ⟨rfl, rfl, rfl⟩ := hcs
      exact ⟨zs, .inr ⟨_, rfl, hl, hm, by simpa using hz, hcell, hwz⟩⟩
  clear hA0 hval0
  refine (walk a0 len0 cap0 z0 W w0).mono fun e W' ⟨he, bel⟩ => ?_
  subst he
  exact ⟨_, rfl, _, _, _, [], _, [], hW', trodAll_mk1 (shut_bool Tryd.underlying4 _), (trodAll_cons_mk (Below.trod laidOut (by kernel_rfl) (of_decide_eq_true (by kernel_rfl)) k0 bel lt0) trodAll_mk0), rfl, bel.frame _, fun h => by cases h⟩

theorem over : Rows.ratioOrdersRow.holds Tryd.pinned (OpenSpec.ofChange Rows.ratioOrdersSpec) :=
  OpenClaim.holds_of_wide 4 Tryd.f4 rfl rfl rfl rfl rfl rfl rfl ⟨rfl, rfl, rfl, rfl, rfl⟩ rfl rfl rfl rfl rfl (by kernel_rfl) Tryd.func4 (by kernel_rfl)
    (of_decide_eq_true (by kernel_rfl)) (by unfold Func.isWrapper; first | (rw [if_pos (by decide +kernel)]; kernel_rfl) | (rw [if_neg (by decide +kernel)]; exact ⟨rfl, rfl⟩))
    (fun os started H enc _ => lifted os started H enc)

theorem proved : Rows.RatioOrdersCardSaid :=
  Claim7.holds_tied_plain_at .later [] [.data, .data, .data] true (true, "11adef078fe66e4a341a668750a16cfedc9afc69f03447602818c62d2f963768") true
    over (fun _ h => by cases h) (by kernel_rfl) (fun _ h => by cases h) ratioOrders_row_tie rfl ⟨rfl, rfl⟩ (by kernel_rfl) rfl
    (fun f fn hf hfn => by
      obtain rfl : f = 4 := Option.some.inj ((show Tryd.prog.funcNamed "shapesearch/shapesearchlaw01.RatioOrders" = some 4 by kernel_rfl).symm.trans hf) |>.symm
      obtain rfl : fn = Tryd.f4 := (Option.some.inj (Tryd.func4.symm.trans hfn)).symm
      exact ⟨by kernel_rfl, fun j t ht => by
        rw [Tryd.params4] at ht
        have hm : t ∈ [24] := by simpa using Array.mem_of_getElem? ht
        have hall : ([24].all fun u => !Tryd.prog.wantsStandIn u) = true := by kernel_rfl
        exact (show Tryd.prog.wantsStandIn t = false by simpa using List.all_eq_true.1 hall t hm)⟩)
    (by kernel_rfl)
end Go.Proofs.YtmpkjlifcdobiaaDoor.ratioOrders
