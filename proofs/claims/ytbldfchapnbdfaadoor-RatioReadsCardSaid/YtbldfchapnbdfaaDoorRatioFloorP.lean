/- The contract of shapesearchlaw01.awake: it returns true. -/
import Derived.Test.YtbldfchapnbdfaaDoorRatioAddP
namespace Go.Proofs.YtbldfchapnbdfaaDoor.Ra
open Go.ChangeShapes Go.WideShapes Go.RowKit Wo
set_option linter.unusedVariables false
theorem rv32 : rv 3 2 = true := rv_yes ⟨⟨by decide, by decide, by decide, by decide⟩, by decide⟩
theorem rv12 : rv 1 2 = true := rv_yes ⟨⟨by decide, by decide, by decide, by decide⟩, by decide⟩
theorem rv13 : rv 1 3 = true := rv_yes ⟨⟨by decide, by decide, by decide, by decide⟩, by decide⟩
theorem rv72 : rv 7 2 = true := rv_yes ⟨⟨by decide, by decide, by decide, by decide⟩, by decide⟩
theorem itoa3 (w : World) : Calls Tryd.prog 17 #[.int .i64 3] w fun e w' => e = .returned (.string ⟨#[51]⟩) ∧ w' = w := by
  have h := Tryd.strconv_Itoa_small 3 (by decide) w
  rw [show Lib.decDigits 3 = [51] from by decide +kernel] at h
  exact h
theorem itoa2 (w : World) : Calls Tryd.prog 17 #[.int .i64 2] w fun e w' => e = .returned (.string ⟨#[50]⟩) ∧ w' = w := by
  have h := Tryd.strconv_Itoa_small 2 (by decide) w
  rw [show Lib.decDigits 2 = [50] from by decide +kernel] at h
  exact h
set_option maxHeartbeats 1000000 in
theorem format32 (w : World) : Calls Tryd.prog 8 #[.agg #[.int .i64 3, .int .i64 2]] w fun e w' => e = .returned (.string ⟨#[51, 47, 50]⟩) ∧ Bel w w' := by
  have hv := rv32
  go_enter Tryd.func8, Tryd.ntmps8
  go_wp2_with fail
  go_at_call 9
  refine (valid_any _ _ _).mono ?_
  rintro e w1 ⟨rfl, hb⟩
  have B0 : Bk w1 w.heap.size 25 #[.int .i64 3, .int .i64 2] := (Bk.nw _ _ _).bel hb
  have k0 : w1.cell? ⟨w.heap.size, 0, none⟩ = some (.int .i64 3) := B0.cell 0
  have k1 : w1.cell? ⟨w.heap.size, 1, none⟩ = some (.int .i64 2) := B0.cell 1
  clear B0
  go_wp2
  go_quiet ((first | (go_at_call_of 17 (Value.int IntKind.i64 3); exact Calls.quiet_of_same (itoa3 _)) | (go_at_call_of 17 (Value.int IntKind.i64 2); exact Calls.quiet_of_same (itoa2 _))))
  go_wp2
  go_ret
  exact ⟨rfl, ((Bel.rf.al _).tr hb).drwN _⟩
theorem floor_any (n d : Int) (hv : rv n d = true) (w : World) : Calls Tryd.prog 24 #[.agg #[.int .i64 n, .int .i64 d]] w fun e w' => e = .returned (.int .i64 (n / d)) ∧ Bel w w' := by
  have r := (of_rv hv).1
  have h0 := r.1
  have h1 := r.2.1
  have h2 := r.2.2.1
  have h3 := r.2.2.2
  have h4 : d ≠ 0 := by omega
  have h5 : 0 ≤ n / d := Int.ediv_nonneg h0 (by omega)
  have h6 : n / d ≤ n := Int.ediv_le_self _ h0
  clear r
  go_enter Tryd.func24, Tryd.ntmps24
  go_wp2_with fail
  go_at_call 9
  refine (valid_any _ _ _).mono ?_
  rintro e w1 ⟨rfl, hb⟩
  have B0 : Bk w1 w.heap.size 25 #[.int .i64 n, .int .i64 d] := (Bk.nw _ _ _).bel hb
  have k0 : w1.cell? ⟨w.heap.size, 0, none⟩ = some (.int .i64 n) := B0.cell 0
  have k1 : w1.cell? ⟨w.heap.size, 1, none⟩ = some (.int .i64 d) := B0.cell 1
  clear B0
  go_wp2
  go_ret
  exact ⟨rfl, (Bel.rf.al _).tr hb⟩
theorem ceil_any (n d : Int) (hv : rv n d = true) (w : World) : Calls Tryd.prog 12 #[.agg #[.int .i64 n, .int .i64 d]] w fun e w' => e = .returned (.int .i64 (if n % d = 0 then n / d else n / d + 1)) ∧ Bel w w' := by
  have r := (of_rv hv).1
  have h0 := r.1
  have h1 := r.2.1
  have h2 := r.2.2.1
  have h3 := r.2.2.2
  have h4 : d ≠ 0 := by omega
  have h5 : 0 ≤ n / d := Int.ediv_nonneg h0 (by omega)
  have h6 : n / d ≤ n := Int.ediv_le_self _ h0
  clear r
  rcases Classical.em (n % d = 0) with hm | hm
  · rw [if_pos hm]
    have hb0 : (n % d == 0) = true := by simpa using hm
    clear hm
    go_enter Tryd.func12, Tryd.ntmps12
    go_wp2_with fail
    go_at_call 9
    refine (valid_any _ _ _).mono ?_
    rintro e w1 ⟨rfl, hb⟩
    have B0 : Bk w1 w.heap.size 25 #[.int .i64 n, .int .i64 d] := (Bk.nw _ _ _).bel hb
    have k0 : w1.cell? ⟨w.heap.size, 0, none⟩ = some (.int .i64 n) := B0.cell 0
    have k1 : w1.cell? ⟨w.heap.size, 1, none⟩ = some (.int .i64 d) := B0.cell 1
    clear B0
    go_wp2_with (go_at_call 24; refine (floor_any n d hv _).mono ?_; rintro e w2 ⟨rfl, hb2⟩)
    go_ret
    exact ⟨rfl, ((Bel.rf.al _).tr hb).tr hb2⟩
  · rw [if_neg hm]
    have hb0 : (n % d == 0) = false := by simpa using hm
    go_enter Tryd.func12, Tryd.ntmps12
    go_wp2_with fail
    go_at_call 9
    refine (valid_any _ _ _).mono ?_
    rintro e w1 ⟨rfl, hb⟩
    have B0 : Bk w1 w.heap.size 25 #[.int .i64 n, .int .i64 d] := (Bk.nw _ _ _).bel hb
    have k0 : w1.cell? ⟨w.heap.size, 0, none⟩ = some (.int .i64 n) := B0.cell 0
    have k1 : w1.cell? ⟨w.heap.size, 1, none⟩ = some (.int .i64 d) := B0.cell 1
    clear B0
    go_wp2_with (go_at_call 24; refine (floor_any n d hv _).mono ?_; rintro e w2 ⟨rfl, hb2⟩)
    go_ret
    exact ⟨rfl, ((Bel.rf.al _).tr hb).tr hb2⟩
end Go.Proofs.YtbldfchapnbdfaaDoor.Ra
