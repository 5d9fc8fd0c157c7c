/- That the law RatioCompares returns true for every input that can be read, and leaves its arguments as they were; the package variables that it lists start as the program lays them, which the card ties to the text; no further condition. -/
import Derived.Test.YtmpkjlifcdobiaaDoorRows
import Derived.WalkKit
import Derived.ProofKit
import Derived.OpenShut
import Derived.LaidMore
import Derived.Stop.Joined
import Derived.SevenTiedAt
import Derived.Test.YtmpkjlifcdobiaaDoorCards
import Derived.Test.YtmpkjlifcdobiaaDoorTie
import Derived.Test.YtmpkjlifcdobiaaDoorWords
import Derived.Test.YtmpkjlifcdobiaaDoorRatioMath
import Derived.Test.YtmpkjlifcdobiaaDoorRatioAwake
import Derived.Test.YtmpkjlifcdobiaaDoorRatioLess
namespace Go.Proofs.YtmpkjlifcdobiaaDoor.ratioCompares
open Go.ChangeShapes Go.WideShapes Go.ChangeAt Go.RowKit Wo
set_option linter.unusedVariables false      -- a walk need not use every 'w<i>' (that an integer argument fits its kind)

theorem own : ownKnob Tryd.prog.godebug = none := by kernel_rfl

open Go.Proofs.YtmpkjlifcdobiaaDoor.Ra Go.Proofs.YtmpkjlifcdobiaaDoor.Wo in
set_option maxHeartbeats 8000000 in
theorem walk (a0 : Int) (a1 : Int) (a2 : Int) (a3 : Int) (w0 : (Lit.int .u32 a0).wf = true) (w1 : (Lit.int .u32 a1).wf = true) (w2 : (Lit.int .u32 a2).wf = true) (w3 : (Lit.int .u32 a3).wf = true) (w : World) :
    Calls Tryd.prog 5 #[.int .u32 a0, .int .u32 a1, .int .u32 a2, .int .u32 a3] w fun e w' => e = .returned (.bool true) ∧ Below w.heap.size w w' := by
  have hb0 := bounds_u32 w0
  have hb1 := bounds_u32 w1
  have hb2 := bounds_u32 w2
  have hb3 := bounds_u32 w3
  have hc0 := hb0.1
  have hc1 := hb0.2
  have hc2 := hb1.1
  have hc3 := hb1.2
  have hc4 := hb2.1
  have hc5 := hb2.2
  have hc6 := hb3.1
  have hc7 := hb3.2
  clear hb0 hb1 hb2 hb3
  have m0 : 0 ≤ a1 % 1073741824 := by omega
  have m1 : a1 % 1073741824 < 1073741824 := by omega
  have m2 : 0 ≤ a3 % 1073741824 := by omega
  have m3 : a3 % 1073741824 < 1073741824 := by omega
  generalize hB : a1 % 1073741824 = B at *
  generalize hD : a3 % 1073741824 = D at *
  have f := make_facts (n := a0) (d := 1 + B) hc0 (by omega) (by omega) (by omega)
  have g := make_facts (n := a2) (d := 1 + D) hc4 (by omega) (by omega) (by omega)
  have p1 := gd_pos (a := a0) (b := 1 + B) (by omega)
  have p2 := gd_pos (a := a2) (b := 1 + D) (by omega)
  have J1 : ∀ W, Calls Tryd.prog 29 #[.int .i64 a0, .int .i64 (1 + B)] W fun e w' => e = .returned (.tuple #[.agg #[.int .i64 (a0 / gd a0 (1 + B)), .int .i64 ((1 + B) / gd a0 (1 + B))], .int .i64 0]) ∧ Bel W w' :=
    fun W => make_in a0 (1 + B) W hc0 (by omega) (rin_yes f.2.2.2.2.2.2.1.1) (by omega) (by omega)
  have J2 : ∀ W, Calls Tryd.prog 29 #[.int .i64 a2, .int .i64 (1 + D)] W fun e w' => e = .returned (.tuple #[.agg #[.int .i64 (a2 / gd a2 (1 + D)), .int .i64 ((1 + D) / gd a2 (1 + D))], .int .i64 0]) ∧ Bel W w' :=
    fun W => make_in a2 (1 + D) W hc4 (by omega) (rin_yes g.2.2.2.2.2.2.1.1) (by omega) (by omega)
  obtain ⟨f1, f2, f3, f4, f5, f6, f7, f8⟩ := f
  obtain ⟨g1, g2, g3, g4, g5, g6, g7, g8⟩ := g
  have cr := cross_eq f5 f6 g5 g6
  have kp : 0 < gd a0 (1 + B) * gd a2 (1 + D) := Int.mul_pos (by omega) (by omega)
  have cl := cross_lt kp cr.1 cr.2
  clear f5 f6 g5 g6 f8 g8 cr kp p1 p2
  generalize a0 / gd a0 (1 + B) = x0 at *
  generalize (1 + B) / gd a0 (1 + B) = x1 at *
  generalize a2 / gd a2 (1 + D) = y0 at *
  generalize (1 + D) / gd a2 (1 + D) = y1 at *
  have q0 : 0 ≤ a0 * (1 + D) := Int.mul_nonneg hc0 (by omega)
  have q1 : a0 * (1 + D) ≤ 4294967295 * 1073741824 := Int.mul_le_mul hc1 (by omega) (by omega) (by omega)
  have q2 : 0 ≤ a2 * (1 + B) := Int.mul_nonneg hc4 (by omega)
  have q3 : a2 * (1 + B) ≤ 4294967295 * 1073741824 := Int.mul_le_mul hc5 (by omega) (by omega) (by omega)
  have HF := Lib.hid f7
  have HG := Lib.hid g7
  have HL := Lib.hid cl
  have K1 := Lib.hid J1
  have K2 := Lib.hid J2
  clear J1 J2 f7 g7 cl
  have s0 : 0 ≤ a0 % 2147483648 * (1 + D) := Int.mul_nonneg (by omega) (by omega)
  have s1 : a0 % 2147483648 * (1 + D) ≤ 2147483648 * 1073741824 := Int.mul_le_mul (by omega) (by omega) (by omega) (by omega)
  have s2 : 0 ≤ a2 % 2147483648 * (1 + B) := Int.mul_nonneg (by omega) (by omega)
  have s3 : a2 % 2147483648 * (1 + B) ≤ 2147483648 * 1073741824 := Int.mul_le_mul (by omega) (by omega) (by omega) (by omega)
  rcases Int.lt_or_le a0 2147483648 with ha | ha
  · have ba : decide (a0 < 2147483648) = true := by simpa using ha
    rcases Int.lt_or_le a2 2147483648 with hc | hc
    · have bc : decide (a2 < 2147483648) = true := by simpa using hc
      have ea : a0 % 2147483648 = a0 := by omega
      have ec : a2 % 2147483648 = a2 := by omega
      clear s0 s1 s2 s3
      rcases Int.lt_trichotomy (x0 * y1) (y0 * x1) with ht | ht | ht
      · have KL : Hid (∀ W, Calls Tryd.prog 27 #[.agg #[.int .i64 x0, .int .i64 x1], .agg #[.int .i64 y0, .int .i64 y1]] W fun r w' => r = .returned (.bool true) ∧ Bel W w') :=
          fun W => less_as x0 x1 y0 y1 (-1) true ((rcmp_in (rv_yes HF.out) (rv_yes HG.out)).trans (cmpI_lt ht)) (by decide) W
        have pq : a0 * (1 + D) < a2 * (1 + B) := HL.out.1.2 ht
        have bp : (a0 * (1 + D) == a2 * (1 + B)) = false := by simp; omega
        rcases Classical.em (x0 = y0) with hx | hx
        · have bx : (x0 == y0) = true := by simpa using hx
          have by1 : (x1 == y1) = false := by
            rw [beq_eq_false_iff_ne]
            intro hy
            rw [hx, hy] at ht
            omega
          clear hx ht
          go_enter Tryd.func5, Tryd.ntmps5
          go_wp2_with fail
          go_at_call 29
          refine (K1.out _).mono ?_
          rintro e v1 ⟨rfl, hb1⟩
          go_wp2_with fail
          go_at_call 29
          refine (K2.out _).mono ?_
          rintro e v2 ⟨rfl, hb2⟩
          have B1 : Bk v2 v1.heap.size 23 #[.int .i64 x0, .int .i64 x1] := (Bk.nw _ _ _).bel hb2
          have k0 : v2.cell? ⟨v1.heap.size, 0, none⟩ = some (.int .i64 x0) := B1.cell 0
          have k1 : v2.cell? ⟨v1.heap.size, 1, none⟩ = some (.int .i64 x1) := B1.cell 1
          have hl := B1.lt
          go_wp2_with fail
          go_at_call 27
          refine (KL.out _).mono ?_
          rintro e v3 ⟨rfl, hb3⟩
          have C1 := (B1.al _).bel hb3
          have C2 : Bk v3 v2.heap.size 23 #[.int .i64 y0, .int .i64 y1] := (Bk.nw _ _ _).bel hb3
          have j0 : v3.cell? ⟨v1.heap.size, 0, none⟩ = some (.int .i64 x0) := C1.cell 0
          have j1 : v3.cell? ⟨v1.heap.size, 1, none⟩ = some (.int .i64 x1) := C1.cell 1
          have j2 : v3.cell? ⟨v2.heap.size, 0, none⟩ = some (.int .i64 y0) := C2.cell 0
          have j3 : v3.cell? ⟨v2.heap.size, 1, none⟩ = some (.int .i64 y1) := C2.cell 1
          go_wp2_with (first | (go_at_call 11; refine (awake_any _).mono ?_; rintro e w9 ⟨rfl, hb9⟩))
          go_ret
          exact ⟨rfl, ((by repeat (first | exact Bel.rf | (with_reducible refine Bel.drwN ?_ _) | (with_reducible refine Bel.drw ?_) | (with_reducible refine Bel.al ?_ _) | ((with_reducible refine Bel.st2 ?_ ?_ _); (show _ ≤ _); (simp only []; omega)) | refine Bel.tr ?_ (by assumption))) : Bel w _)⟩
        · have bx : (x0 == y0) = false := by simpa using hx
          clear ht
          go_enter Tryd.func5, Tryd.ntmps5
          go_wp2_with fail
          go_at_call 29
          refine (K1.out _).mono ?_
          rintro e v1 ⟨rfl, hb1⟩
          go_wp2_with fail
          go_at_call 29
          refine (K2.out _).mono ?_
          rintro e v2 ⟨rfl, hb2⟩
          have B1 : Bk v2 v1.heap.size 23 #[.int .i64 x0, .int .i64 x1] := (Bk.nw _ _ _).bel hb2
          have k0 : v2.cell? ⟨v1.heap.size, 0, none⟩ = some (.int .i64 x0) := B1.cell 0
          have k1 : v2.cell? ⟨v1.heap.size, 1, none⟩ = some (.int .i64 x1) := B1.cell 1
          have hl := B1.lt
          go_wp2_with fail
          go_at_call 27
          refine (KL.out _).mono ?_
          rintro e v3 ⟨rfl, hb3⟩
          have C1 := (B1.al _).bel hb3
          have C2 : Bk v3 v2.heap.size 23 #[.int .i64 y0, .int .i64 y1] := (Bk.nw _ _ _).bel hb3
          have j0 : v3.cell? ⟨v1.heap.size, 0, none⟩ = some (.int .i64 x0) := C1.cell 0
          have j1 : v3.cell? ⟨v1.heap.size, 1, none⟩ = some (.int .i64 x1) := C1.cell 1
          have j2 : v3.cell? ⟨v2.heap.size, 0, none⟩ = some (.int .i64 y0) := C2.cell 0
          have j3 : v3.cell? ⟨v2.heap.size, 1, none⟩ = some (.int .i64 y1) := C2.cell 1
          go_wp2_with (first | (go_at_call 11; refine (awake_any _).mono ?_; rintro e w9 ⟨rfl, hb9⟩))
          go_ret
          exact ⟨rfl, ((by repeat (first | exact Bel.rf | (with_reducible refine Bel.drwN ?_ _) | (with_reducible refine Bel.drw ?_) | (with_reducible refine Bel.al ?_ _) | ((with_reducible refine Bel.st2 ?_ ?_ _); (show _ ≤ _); (simp only []; omega)) | refine Bel.tr ?_ (by assumption))) : Bel w _)⟩
      · have KL : Hid (∀ W, Calls Tryd.prog 27 #[.agg #[.int .i64 x0, .int .i64 x1], .agg #[.int .i64 y0, .int .i64 y1]] W fun r w' => r = .returned (.bool false) ∧ Bel W w') :=
          fun W => less_as x0 x1 y0 y1 0 false ((rcmp_in (rv_yes HF.out) (rv_yes HG.out)).trans (cmpI_eq ht)) (by decide) W
        have he := rv_eq HF.out HG.out ht
        have bp : (a0 * (1 + D) == a2 * (1 + B)) = true := by simpa using HL.out.2.2 ht
        have bq : a2 * (1 + B) ≤ a0 * (1 + D) := by have := HL.out.2.2 ht; omega
        have bx : (x0 == y0) = true := by simpa using he.1
        have by1 : (x1 == y1) = true := by simpa using he.2
        clear he ht
        go_enter Tryd.func5, Tryd.ntmps5
        go_wp2_with fail
        go_at_call 29
        refine (K1.out _).mono ?_
        rintro e v1 ⟨rfl, hb1⟩
        go_wp2_with fail
        go_at_call 29
        refine (K2.out _).mono ?_
        rintro e v2 ⟨rfl, hb2⟩
        have B1 : Bk v2 v1.heap.size 23 #[.int .i64 x0, .int .i64 x1] := (Bk.nw _ _ _).bel hb2
        have k0 : v2.cell? ⟨v1.heap.size, 0, none⟩ = some (.int .i64 x0) := B1.cell 0
        have k1 : v2.cell? ⟨v1.heap.size, 1, none⟩ = some (.int .i64 x1) := B1.cell 1
        have hl := B1.lt
        go_wp2_with fail
        go_at_call 27
        refine (KL.out _).mono ?_
        rintro e v3 ⟨rfl, hb3⟩
        have C1 := (B1.al _).bel hb3
        have C2 : Bk v3 v2.heap.size 23 #[.int .i64 y0, .int .i64 y1] := (Bk.nw _ _ _).bel hb3
        have j0 : v3.cell? ⟨v1.heap.size, 0, none⟩ = some (.int .i64 x0) := C1.cell 0
        have j1 : v3.cell? ⟨v1.heap.size, 1, none⟩ = some (.int .i64 x1) := C1.cell 1
        have j2 : v3.cell? ⟨v2.heap.size, 0, none⟩ = some (.int .i64 y0) := C2.cell 0
        have j3 : v3.cell? ⟨v2.heap.size, 1, none⟩ = some (.int .i64 y1) := C2.cell 1
        go_wp2_with (first | (go_at_call 11; refine (awake_any _).mono ?_; rintro e w9 ⟨rfl, hb9⟩))
        go_ret
        exact ⟨rfl, ((by repeat (first | exact Bel.rf | (with_reducible refine Bel.drwN ?_ _) | (with_reducible refine Bel.drw ?_) | (with_reducible refine Bel.al ?_ _) | ((with_reducible refine Bel.st2 ?_ ?_ _); (show _ ≤ _); (simp only []; omega)) | refine Bel.tr ?_ (by assumption))) : Bel w _)⟩
      · have KL : Hid (∀ W, Calls Tryd.prog 27 #[.agg #[.int .i64 x0, .int .i64 x1], .agg #[.int .i64 y0, .int .i64 y1]] W fun r w' => r = .returned (.bool false) ∧ Bel W w') :=
          fun W => less_as x0 x1 y0 y1 1 false ((rcmp_in (rv_yes HF.out) (rv_yes HG.out)).trans (cmpI_gt ht)) (by decide) W
        have pq : a2 * (1 + B) < a0 * (1 + D) := by
          rcases Int.lt_trichotomy (a0 * (1 + D)) (a2 * (1 + B)) with h | h | h
          · have := HL.out.1.1 h; omega
          · have := HL.out.2.1 h; omega
          · exact h
        have bp : (a0 * (1 + D) == a2 * (1 + B)) = false := by simp; omega
        rcases Classical.em (x0 = y0) with hx | hx
        · have bx : (x0 == y0) = true := by simpa using hx
          have by1 : (x1 == y1) = false := by
            rw [beq_eq_false_iff_ne]
            intro hy
            rw [hx, hy] at ht
            omega
          clear hx ht
          go_enter Tryd.func5, Tryd.ntmps5
          go_wp2_with fail
          go_at_call 29
          refine (K1.out _).mono ?_
          rintro e v1 ⟨rfl, hb1⟩
          go_wp2_with fail
          go_at_call 29
          refine (K2.out _).mono ?_
          rintro e v2 ⟨rfl, hb2⟩
          have B1 : Bk v2 v1.heap.size 23 #[.int .i64 x0, .int .i64 x1] := (Bk.nw _ _ _).bel hb2
          have k0 : v2.cell? ⟨v1.heap.size, 0, none⟩ = some (.int .i64 x0) := B1.cell 0
          have k1 : v2.cell? ⟨v1.heap.size, 1, none⟩ = some (.int .i64 x1) := B1.cell 1
          have hl := B1.lt
          go_wp2_with fail
          go_at_call 27
          refine (KL.out _).mono ?_
          rintro e v3 ⟨rfl, hb3⟩
          have C1 := (B1.al _).bel hb3
          have C2 : Bk v3 v2.heap.size 23 #[.int .i64 y0, .int .i64 y1] := (Bk.nw _ _ _).bel hb3
          have j0 : v3.cell? ⟨v1.heap.size, 0, none⟩ = some (.int .i64 x0) := C1.cell 0
          have j1 : v3.cell? ⟨v1.heap.size, 1, none⟩ = some (.int .i64 x1) := C1.cell 1
          have j2 : v3.cell? ⟨v2.heap.size, 0, none⟩ = some (.int .i64 y0) := C2.cell 0
          have j3 : v3.cell? ⟨v2.heap.size, 1, none⟩ = some (.int .i64 y1) := C2.cell 1
          go_wp2_with (first | (go_at_call 11; refine (awake_any _).mono ?_; rintro e w9 ⟨rfl, hb9⟩))
          go_ret
          exact ⟨rfl, ((by repeat (first | exact Bel.rf | (with_reducible refine Bel.drwN ?_ _) | (with_reducible refine Bel.drw ?_) | (with_reducible refine Bel.al ?_ _) | ((with_reducible refine Bel.st2 ?_ ?_ _); (show _ ≤ _); (simp only []; omega)) | refine Bel.tr ?_ (by assumption))) : Bel w _)⟩
        · have bx : (x0 == y0) = false := by simpa using hx
          clear ht
          go_enter Tryd.func5, Tryd.ntmps5
          go_wp2_with fail
          go_at_call 29
          refine (K1.out _).mono ?_
          rintro e v1 ⟨rfl, hb1⟩
          go_wp2_with fail
          go_at_call 29
          refine (K2.out _).mono ?_
          rintro e v2 ⟨rfl, hb2⟩
          have B1 : Bk v2 v1.heap.size 23 #[.int .i64 x0, .int .i64 x1] := (Bk.nw _ _ _).bel hb2
          have k0 : v2.cell? ⟨v1.heap.size, 0, none⟩ = some (.int .i64 x0) := B1.cell 0
          have k1 : v2.cell? ⟨v1.heap.size, 1, none⟩ = some (.int .i64 x1) := B1.cell 1
          have hl := B1.lt
          go_wp2_with fail
          go_at_call 27
          refine (KL.out _).mono ?_
          rintro e v3 ⟨rfl, hb3⟩
          have C1 := (B1.al _).bel hb3
          have C2 : Bk v3 v2.heap.size 23 #[.int .i64 y0, .int .i64 y1] := (Bk.nw _ _ _).bel hb3
          have j0 : v3.cell? ⟨v1.heap.size, 0, none⟩ = some (.int .i64 x0) := C1.cell 0
          have j1 : v3.cell? ⟨v1.heap.size, 1, none⟩ = some (.int .i64 x1) := C1.cell 1
          have j2 : v3.cell? ⟨v2.heap.size, 0, none⟩ = some (.int .i64 y0) := C2.cell 0
          have j3 : v3.cell? ⟨v2.heap.size, 1, none⟩ = some (.int .i64 y1) := C2.cell 1
          go_wp2_with (first | (go_at_call 11; refine (awake_any _).mono ?_; rintro e w9 ⟨rfl, hb9⟩))
          go_ret
          exact ⟨rfl, ((by repeat (first | exact Bel.rf | (with_reducible refine Bel.drwN ?_ _) | (with_reducible refine Bel.drw ?_) | (with_reducible refine Bel.al ?_ _) | ((with_reducible refine Bel.st2 ?_ ?_ _); (show _ ≤ _); (simp only []; omega)) | refine Bel.tr ?_ (by assumption))) : Bel w _)⟩
    · have bc : decide (a2 < 2147483648) = false := by simp; omega
      go_enter Tryd.func5, Tryd.ntmps5
      go_wp2_with fail
      go_at_call 29
      refine (K1.out _).mono ?_
      rintro e v1 ⟨rfl, hb1⟩
      go_wp2_with fail
      go_at_call 29
      refine (K2.out _).mono ?_
      rintro e v2 ⟨rfl, hb2⟩
      have B1 : Bk v2 v1.heap.size 23 #[.int .i64 x0, .int .i64 x1] := (Bk.nw _ _ _).bel hb2
      have k0 : v2.cell? ⟨v1.heap.size, 0, none⟩ = some (.int .i64 x0) := B1.cell 0
      have k1 : v2.cell? ⟨v1.heap.size, 1, none⟩ = some (.int .i64 x1) := B1.cell 1
      have hl := B1.lt
      go_wp2_with (first | (go_at_call 11; refine (awake_any _).mono ?_; rintro e w9 ⟨rfl, hb9⟩))
      go_ret
      exact ⟨rfl, ((by repeat (first | exact Bel.rf | (with_reducible refine Bel.drwN ?_ _) | (with_reducible refine Bel.drw ?_) | (with_reducible refine Bel.al ?_ _) | ((with_reducible refine Bel.st2 ?_ ?_ _); (show _ ≤ _); (simp only []; omega)) | refine Bel.tr ?_ (by assumption))) : Bel w _)⟩
  · have ba : decide (a0 < 2147483648) = false := by simp; omega
    go_enter Tryd.func5, Tryd.ntmps5
    go_wp2_with fail
    go_at_call 29
    refine (K1.out _).mono ?_
    rintro e v1 ⟨rfl, hb1⟩
    go_wp2_with fail
    go_at_call 29
    refine (K2.out _).mono ?_
    rintro e v2 ⟨rfl, hb2⟩
    have B1 : Bk v2 v1.heap.size 23 #[.int .i64 x0, .int .i64 x1] := (Bk.nw _ _ _).bel hb2
    have k0 : v2.cell? ⟨v1.heap.size, 0, none⟩ = some (.int .i64 x0) := B1.cell 0
    have k1 : v2.cell? ⟨v1.heap.size, 1, none⟩ = some (.int .i64 x1) := B1.cell 1
    have hl := B1.lt
    go_wp2_with (first | (go_at_call 11; refine (awake_any _).mono ?_; rintro e w9 ⟨rfl, hb9⟩))
    go_ret
    exact ⟨rfl, ((by repeat (first | exact Bel.rf | (with_reducible refine Bel.drwN ?_ _) | (with_reducible refine Bel.drw ?_) | (with_reducible refine Bel.al ?_ _) | ((with_reducible refine Bel.st2 ?_ ?_ _); (show _ ≤ _); (simp only []; omega)) | refine Bel.tr ?_ (by assumption))) : Bel w _)⟩

theorem door_met (os : Os) (args : Array Value) : laidMetH Tryd.prog [("math/bits.deBruijn32tab", Rows.laid_math_bits_deBruijn32tab), ("math/bits.deBruijn64tab", Rows.laid_math_bits_deBruijn64tab), ("internal/strconv.uint64pow10", Rows.laid_internal_strconv_uint64pow10)] ((World.doorLaid Tryd.prog 400 os).forCall (fun _ _ => 0) ⟨#[], args, []⟩).memory :=
  laidMetH_of_parts3 (fuel := 8) (laidMet_of_run' 8 (by kernel_rfl) (by kernel_rfl)) (by kernel_rfl) (by kernel_rfl)
set_option maxRecDepth 100000 in
theorem lifted (os : Os) (started : os.Started) (H : Type) (enc : TypeId × Value → H) :
    ReturnsInHanded {} Tryd.checked os 5 .any (fun w args => (Rows.ratioComparesSpec.pre enc Tryd.prog Tryd.f5 [] false w args ∧ laidMetH Tryd.prog [("math/bits.deBruijn32tab", Rows.laid_math_bits_deBruijn32tab), ("math/bits.deBruijn64tab", Rows.laid_math_bits_deBruijn64tab), ("internal/strconv.uint64pow10", Rows.laid_internal_strconv_uint64pow10)] w) ∧ sizedMet enc Tryd.prog Tryd.f5 (OpenSpec.ofChange Rows.ratioComparesSpec) false w args)
      (Rows.ratioComparesSpec.post enc Tryd.prog Tryd.f5 false true false false) := by
  refine returnsInHanded_of_change_and (C := Tryd.checked) (X := fun w _ => laidMetH Tryd.prog [("math/bits.deBruijn32tab", Rows.laid_math_bits_deBruijn32tab), ("math/bits.deBruijn64tab", Rows.laid_math_bits_deBruijn64tab), ("internal/strconv.uint64pow10", Rows.laid_internal_strconv_uint64pow10)] w) (fun _ _ _ hh h => h.of_heap hh) own started (by kernel_rfl) Tryd.func5
    (ChangeSpec.witness_shaped (enc := enc) (C := Tryd.checked) (os := os) (X := fun w _ => laidMetH Tryd.prog [("math/bits.deBruijn32tab", Rows.laid_math_bits_deBruijn32tab), ("math/bits.deBruijn64tab", Rows.laid_math_bits_deBruijn64tab), ("internal/strconv.uint64pow10", Rows.laid_internal_strconv_uint64pow10)] w) false (World.doorLaid Tryd.prog 400 os) #[.int .u32 0, .int .u32 0, .int .u32 0, .int .u32 0] 8 rfl (World.shaped_of_RefB (by kernel_rfl) (by kernel_rfl)) (by kernel_rfl) (by kernel_rfl) (by kernel_rfl) (door_met os _)) ?_
  intro W base args ds gs before hval0 hW _ _ hL hsz
  have hval : ∀ (j : Nat) t v, Tryd.f5.params[j]? = some t → args[j]? = some v → Value.okWide Tryd.prog W .any base t v := hval0
  have hW' := hW
  obtain ⟨p, q, hA0, hV, rfl, hfz, hnd⟩ := hW
  have hA : DataW.TrodAll enc Tryd.prog W 0 (fun _ => true) true Tryd.f5.params.toList args.toList ds p := hA0
  rw [Tryd.params5] at hA hval
  obtain ⟨v0, vs0, d0, ds0, p0, q0, hargs, rfl, rfl, h0, r0⟩ := trodAll_cons hA
  obtain ⟨v1, vs1, d1, ds1, p1, q1, rfl, rfl, rfl, h1, r1⟩ := trodAll_cons r0
  obtain ⟨v2, vs2, d2, ds2, p2, q2, rfl, rfl, rfl, h2, r2⟩ := trodAll_cons r1
  obtain ⟨v3, vs3, d3, ds3, p3, q3, rfl, rfl, rfl, h3, r3⟩ := trodAll_cons r2
  obtain ⟨rfl, rfl, rfl⟩ := trodAll_nil r3
  obtain rfl : args = #[v0, v1, v2, v3] := by cases args; simp_all
  obtain ⟨rfl, rfl⟩ := trodVars_none hV
  obtain ⟨a0, rfl, rfl, rfl, w0⟩ := open_int Tryd.underlying47 (hval 0 47 v0 rfl rfl) h0
  obtain ⟨a1, rfl, rfl, rfl, w1⟩ := open_int Tryd.underlying47 (hval 1 47 v1 rfl rfl) h1
  obtain ⟨a2, rfl, rfl, rfl, w2⟩ := open_int Tryd.underlying47 (hval 2 47 v2 rfl rfl) h2
  obtain ⟨a3, rfl, rfl, rfl, w3⟩ := open_int Tryd.underlying47 (hval 3 47 v3 rfl rfl) h3
  clear hA0 hval0
  simp only [List.append_nil] at hW'
  refine (walk a0 a1 a2 a3 w0 w1 w2 w3 W).mono fun e W' ⟨he, hg⟩ => ?_
  subst he
  exact ⟨_, rfl, post_below hW' (fun _ _ _ => (trodAll_cons_mk (shut_bool Tryd.underlying4 _) trodAll_mk0)) (fun sp _ => (trodAll_cons_mk (shut_int Tryd.underlying47 w0) (trodAll_cons_mk (shut_int Tryd.underlying47 w1) (trodAll_cons_mk (shut_int Tryd.underlying47 w2) (trodAll_cons_mk (shut_int Tryd.underlying47 w3) trodAll_mk0))))) (fun _ _ => rfl) rfl hg (ok_one (by kernel_rfl) rfl (okWide_bool_mk Tryd.underlying4 _))⟩

theorem over : Rows.ratioComparesRow.holds Tryd.pinned (OpenSpec.ofChange Rows.ratioComparesSpec) :=
  OpenClaim.holds_of_wide 5 Tryd.f5 rfl rfl rfl rfl rfl rfl rfl ⟨rfl, rfl, rfl, rfl, rfl⟩ rfl rfl rfl rfl rfl (by kernel_rfl) Tryd.func5 (by kernel_rfl)
    (of_decide_eq_true (by kernel_rfl)) (by unfold Func.isWrapper; first | (rw [if_pos (by decide +kernel)]; kernel_rfl) | (rw [if_neg (by decide +kernel)]; exact ⟨rfl, rfl⟩))
    (fun os started H enc _ => lifted os started H enc)

theorem proved : Rows.RatioComparesCardSaid :=
  Claim7.holds_tied_plain_at .later [] [.data, .data, .data] true (true, "11adef078fe66e4a341a668750a16cfedc9afc69f03447602818c62d2f963768") true
    over (fun _ h => by cases h) (by kernel_rfl) (fun _ h => by cases h) ratioCompares_row_tie rfl ⟨rfl, rfl⟩ (by kernel_rfl) rfl
    (fun f fn hf hfn => by
      obtain rfl : f = 5 := Option.some.inj ((show Tryd.prog.funcNamed "shapesearch/shapesearchlaw01.RatioCompares" = some 5 by kernel_rfl).symm.trans hf) |>.symm
      obtain rfl : fn = Tryd.f5 := (Option.some.inj (Tryd.func5.symm.trans hfn)).symm
      exact ⟨by kernel_rfl, fun j t ht => by
        rw [Tryd.params5] at ht
        have hm : t ∈ [47] := by simpa using Array.mem_of_getElem? ht
        have hall : ([47].all fun u => !Tryd.prog.wantsStandIn u) = true := by kernel_rfl
        exact (show Tryd.prog.wantsStandIn t = false by simpa using List.all_eq_true.1 hall t hm)⟩)
    (by kernel_rfl)
end Go.Proofs.YtmpkjlifcdobiaaDoor.ratioCompares
