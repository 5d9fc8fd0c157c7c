/- The contract of ratio.Cmp: what it returns for any two ratios. -/
import Derived.Test.YtabmpnmhjdbdmaaGreatDoorRatioMath
import Derived.Test.YtabmpnmhjdbdmaaGreatDoorShelf
import Derived.Test.YtabmpnmhjdbdmaaGreatDoorWords
import Derived.Test.YtabmpnmhjdbdmaaGreatDoorRatioPV
import Derived.WalkKit
import Derived.WalkLawsBesides
import Derived.WalkSpells
import Derived.Outline
import Derived.Lib.Hide
import Derived.IntWalk
import Derived.WalkMore
import Derived.Deep.QuietTactic
import Derived.BigQuiet
import Derived.Laws.ResultCell
import Derived.Deep.RegionHeld3
import Derived.Deep.DeepCutAuto
namespace Go.Proofs.YtabmpnmhjdbdmaaGreatDoor.Ra
open Go.ChangeShapes Go.WideShapes Go.RowKit Wo
set_option linter.unusedVariables false
theorem compare_any (x y : Int) (w : World) :
    Calls Tryz.prog 58 #[.int .u64 x, .int .u64 y] w fun e w' => e = .returned (.int .i64 (cmpI x y)) ∧ w = w' := by
  rcases Int.lt_trichotomy x y with h | h | h
  · have HC := Lib.hid (cmpI_lt h)
    go_enter Tryz.func58, Tryz.ntmps58
    go_wp2
    go_ret
    exact ⟨ret_int HC.out.symm, rfl⟩
  · subst h
    have HC := Lib.hid (cmpI_eq (a := x) (b := x) rfl)
    go_enter Tryz.func58, Tryz.ntmps58
    go_wp2
    go_ret
    exact ⟨ret_int HC.out.symm, rfl⟩
  · have HC := Lib.hid (cmpI_gt h)
    go_enter Tryz.func58, Tryz.ntmps58
    go_wp2
    go_ret
    exact ⟨ret_int HC.out.symm, rfl⟩
theorem or_any (b : Nat) (x y : Int) (w : World) (h : Bk w b 3 #[.int .i64 x, .int .i64 y]) :
    Calls Tryz.prog 57 #[.slice (some ⟨b, 0, none⟩) 2 2] w fun e w' => e = .returned (.int .i64 (orI x y)) ∧ w = w' := by
  have k0 : w.cell? ⟨b, 0, none⟩ = some (.int .i64 x) := h.cell 0
  have k1 : w.cell? ⟨b, 1, none⟩ = some (.int .i64 y) := h.cell 1
  clear h
  rcases Classical.em (x = 0) with hx | hx
  · have HX : Hid (orI x y = y) := if_pos hx
    have hb : (x != 0) = false := by simpa using hx
    clear hx
    rcases Classical.em (y = 0) with hy | hy
    · have HY : Hid (y = 0) := hy
      have hb2 : (y != 0) = false := by simpa using hy
      clear hy
      go_enter Tryz.func57, Tryz.ntmps57
      go_wp2
      go_loop [8] (fun i => ∃ k : Nat, k ≤ 2 ∧ i = .int .i64 k) (fun i => 2 - (intOf i).toNat)
      case atStart => exact ⟨0, by omega, rfl⟩
      case round =>
        obtain ⟨k, hk, rfl⟩ := hrel
        have h7 : k = 0 ∨ k = 1 ∨ k = 2 := by omega
        rcases h7 with rfl | rfl | rfl
        · go_wp2
          go_round
          case rel => exact ⟨1, by omega, rfl⟩
          case measure => simp [intOf]
        · go_wp2
          go_round
          case rel => exact ⟨2, by omega, rfl⟩
          case measure => simp [intOf]
        · go_wp2
          go_ret
          exact ⟨ret_int (by rw [HX.out, HY.out]), rfl⟩
    · have hb2 : (y != 0) = true := by simpa using hy
      go_enter Tryz.func57, Tryz.ntmps57
      go_wp2
      go_loop [8] (fun i => ∃ k : Nat, k ≤ 1 ∧ i = .int .i64 k) (fun i => 2 - (intOf i).toNat)
      case atStart => exact ⟨0, by omega, rfl⟩
      case round =>
        obtain ⟨k, hk, rfl⟩ := hrel
        have h7 : k = 0 ∨ k = 1 := by omega
        rcases h7 with rfl | rfl
        · go_wp2
          go_round
          case rel => exact ⟨1, by omega, rfl⟩
          case measure => simp [intOf]
        · go_wp2
          go_ret
          exact ⟨ret_int HX.out.symm, rfl⟩
  · have HX : Hid (orI x y = x) := if_neg hx
    have hb : (x != 0) = true := by simpa using hx
    go_enter Tryz.func57, Tryz.ntmps57
    go_wp2
    go_loop [8] (fun i => ∃ k : Nat, k ≤ 0 ∧ i = .int .i64 k) (fun i => 2 - (intOf i).toNat)
    case atStart => exact ⟨0, by omega, rfl⟩
    case round =>
      obtain ⟨k, hk, rfl⟩ := hrel
      have h7 : k = 0 := by omega
      rcases h7 with rfl
      · go_wp2
        go_ret
        exact ⟨ret_int HX.out.symm, rfl⟩
set_option maxHeartbeats 16000000 in
set_option maxRecDepth 100000 in
theorem cmp_any (n d m e : Int) (w : World) :
    Calls Tryz.prog 40 #[.agg #[.int .i64 n, .int .i64 d], .agg #[.int .i64 m, .int .i64 e]] w fun r w' => r = .returned (.int .i64 (rcmp n d m e)) ∧ Bel w w' := by
  rcases hv : rv n d with _ | _
  · have HC := Lib.hid (rcmp_out (m := m) (e := e) (.inl hv))
    go_enter Tryz.func40, Tryz.ntmps40
    go_wp2_with (go_at_call 18; refine (valid_any _ _ _).mono ?_; rintro e w1 ⟨rfl, hb1⟩)
    go_ret
    exact ⟨ret_int HC.out.symm, (by repeat (first | exact Bel.rf | (with_reducible refine Bel.st ?_ (by simp) _) | (with_reducible refine Bel.drwN ?_ _) | (with_reducible refine Bel.drw ?_) | (with_reducible refine Bel.al ?_ _) | refine Bel.tr ?_ (by assumption)))⟩
  · rcases hv2 : rv m e with _ | _
    · have HC := Lib.hid (rcmp_out (n := n) (d := d) (.inr hv2))
      go_enter Tryz.func40, Tryz.ntmps40
      go_wp2_with fail
      go_at_call 18; refine (valid_any _ _ _).mono ?_; rintro e w1 ⟨rfl, hb1⟩
      have B1 : Bk w1 (w.heap.size + 1) 31 #[.int .i64 m, .int .i64 e] := (Bk.nq (w.alloc _) _ _ (by simp)).bel hb1
      have k0 : w1.cell? ⟨w.heap.size + 1, 0, none⟩ = some (.int .i64 m) := B1.cell 0
      have k1 : w1.cell? ⟨w.heap.size + 1, 1, none⟩ = some (.int .i64 e) := B1.cell 1
      go_wp2_with fail
      go_at_call 18; refine (valid_any _ _ _).mono ?_; rintro e w2 ⟨rfl, hb2⟩
      go_wp2
      go_ret
      exact ⟨ret_int HC.out.symm, (by repeat (first | exact Bel.rf | (with_reducible refine Bel.st ?_ (by simp) _) | (with_reducible refine Bel.drwN ?_ _) | (with_reducible refine Bel.drw ?_) | (with_reducible refine Bel.al ?_ _) | refine Bel.tr ?_ (by assumption)))⟩
    · have r1 := (of_rv hv).1
      have r2 := (of_rv hv2).1
      have n0 := r1.1
      have n1 := r1.2.1
      have d0 := r1.2.2.1
      have d1 := r1.2.2.2
      have m0 := r2.1
      have m1 := r2.2.1
      have e0 := r2.2.2.1
      have e1 := r2.2.2.2
      have HC := Lib.hid ((rcmp_in hv hv2).trans cmp_wide.symm)
      clear r1 r2
      go_enter Tryz.func40, Tryz.ntmps40
      go_wp2_with fail
      go_at_call 18; refine (valid_any _ _ _).mono ?_; rintro e w1 ⟨rfl, hb1⟩
      have B1 : Bk w1 (w.heap.size + 1) 31 #[.int .i64 m, .int .i64 e] := (Bk.nq (w.alloc _) _ _ (by simp)).bel hb1
      have B0 : Bk w1 w.heap.size 31 #[.int .i64 n, .int .i64 d] := ((Bk.nw _ _ _).al _).bel hb1
      have k0 : w1.cell? ⟨w.heap.size + 1, 0, none⟩ = some (.int .i64 m) := B1.cell 0
      have k1 : w1.cell? ⟨w.heap.size + 1, 1, none⟩ = some (.int .i64 e) := B1.cell 1
      go_wp2_with fail
      go_at_call 18; refine (valid_any _ _ _).mono ?_; rintro e w2 ⟨rfl, hb2⟩
      have C1 := B1.bel hb2
      have C0 := B0.bel hb2
      have q0 : w2.cell? ⟨w.heap.size + 1, 0, none⟩ = some (.int .i64 m) := C1.cell 0
      have q1 : w2.cell? ⟨w.heap.size + 1, 1, none⟩ = some (.int .i64 e) := C1.cell 1
      have q2 : w2.cell? ⟨w.heap.size, 0, none⟩ = some (.int .i64 n) := C0.cell 0
      have q3 : w2.cell? ⟨w.heap.size, 1, none⟩ = some (.int .i64 d) := C0.cell 1
      have HB : Hid (Bel w w2) := (by repeat (first | exact Bel.rf | (with_reducible refine Bel.st ?_ (by simp) _) | (with_reducible refine Bel.drwN ?_ _) | (with_reducible refine Bel.drw ?_) | (with_reducible refine Bel.al ?_ _) | refine Bel.tr ?_ (by assumption)))
      clear hb1 hb2 B0 B1 k0 k1
      go_upto_region 3 with fail
      go_cut [5, 6] (fun s5 s6 wx => ∃ (g h : Nat) (W : World), W = wx ∧ s5 = .pointer (some ⟨g, 0, none⟩) ∧ s6 = .pointer (some ⟨h, 0, none⟩) ∧ Bk wx g 83 #[.int .u64 (n * e / 18446744073709551616), .int .u64 (n * e % 18446744073709551616)] ∧ Bk wx h 83 #[.int .u64 (m * d / 18446744073709551616), .int .u64 (m * d % 18446744073709551616)] ∧ Bel w2 wx)
      case first =>
        go_region_held3 (fun w' => w'.cell? ⟨w.heap.size + 1, 0, none⟩ = some (.int .i64 m) ∧ w'.cell? ⟨w.heap.size + 1, 1, none⟩ = some (.int .i64 e) ∧ w'.cell? ⟨w.heap.size, 0, none⟩ = some (.int .i64 n) ∧ w'.cell? ⟨w.heap.size, 1, none⟩ = some (.int .i64 d))
          ((go_split_ands; refine ⟨?_, ?_, ?_, ?_⟩) <;> (repeat (first | assumption | (with_reducible refine kp_al ?_ _) | (with_reducible refine kp_drwN ?_ _) | (with_reducible refine kp_drw ?_))))
          (first
            | (go_at_call_of 56 (Value.int IntKind.i64 n); refine (product_any n e (by omega) (by omega) (by omega) (by omega) _).mono ?_; rintro r p1 ⟨rfl, rfl⟩)
            | (go_at_call_of 56 (Value.int IntKind.i64 m); refine (product_any m d (by omega) (by omega) (by omega) (by omega) _).mono ?_; rintro r p2 ⟨rfl, rfl⟩))
        all_goals (go_wp2_with fail; go_meet; exact ⟨_, _, _, rfl, rfl, rfl, (by repeat (first | (refine Bk.nq _ _ _ ?_; (simp; done)) | (with_reducible refine Bk.al ?_ _) | (with_reducible refine Bk.drwN ?_ _) | (with_reducible refine Bk.drw ?_))), (by repeat (first | (refine Bk.nq _ _ _ ?_; (simp; done)) | (with_reducible refine Bk.al ?_ _) | (with_reducible refine Bk.drwN ?_ _) | (with_reducible refine Bk.drw ?_))), (by repeat (first | exact Bel.rf | (with_reducible refine Bel.st ?_ (by simp) _) | (with_reducible refine Bel.drwN ?_ _) | (with_reducible refine Bel.drw ?_) | (with_reducible refine Bel.al ?_ _) | refine Bel.tr ?_ (by assumption)))⟩)
      case rest =>
        obtain ⟨g, h, wx, hwx, rfl, rfl, b5, b6, hbx⟩ := hcut
        subst hwx
        have v0 : wx.cell? ⟨g, 0, none⟩ = some (.int .u64 (n * e / 18446744073709551616)) := b5.cell 0
        have v1 : wx.cell? ⟨g, 1, none⟩ = some (.int .u64 (n * e % 18446744073709551616)) := b5.cell 1
        have v2 : wx.cell? ⟨h, 0, none⟩ = some (.int .u64 (m * d / 18446744073709551616)) := b6.cell 0
        have v3 : wx.cell? ⟨h, 1, none⟩ = some (.int .u64 (m * d % 18446744073709551616)) := b6.cell 1
        have HX : Hid (Bel w wx) := HB.out.tr hbx
        clear b5 b6 hbx
        generalize n * e / 18446744073709551616 = x0 at *
        generalize n * e % 18446744073709551616 = x1 at *
        generalize m * d / 18446744073709551616 = y0 at *
        generalize m * d % 18446744073709551616 = y1 at *
        go_wp2_with fail
        go_region_held3 (fun w' => w'.cell? ⟨g, 0, none⟩ = some (.int .u64 x0) ∧ w'.cell? ⟨g, 1, none⟩ = some (.int .u64 x1) ∧ w'.cell? ⟨h, 0, none⟩ = some (.int .u64 y0) ∧ w'.cell? ⟨h, 1, none⟩ = some (.int .u64 y1))
          ((go_split_ands; refine ⟨?_, ?_, ?_, ?_⟩) <;> (repeat (first | assumption | (with_reducible refine kp_al ?_ _) | (with_reducible refine kp_drwN ?_ _) | (with_reducible refine kp_drw ?_))))
          (first
            | (go_at_call 58; refine (compare_any _ _ _).mono ?_; rintro r p1 ⟨rfl, rfl⟩)
            | (go_at_call 57; refine (or_any _ (cmpI x0 y0) (cmpI x1 y1) _ (Bk.nw wx _ _).drw).mono ?_; rintro r p2 ⟨rfl, rfl⟩))
        go_wp2
        go_ret
        have hbb := HX.out
        exact ⟨ret_int HC.out.symm, (by repeat (first | exact Bel.rf | (with_reducible refine Bel.st ?_ (by simp) _) | (with_reducible refine Bel.drwN ?_ _) | (with_reducible refine Bel.drw ?_) | (with_reducible refine Bel.al ?_ _) | refine Bel.tr ?_ (by assumption)))⟩
end Go.Proofs.YtabmpnmhjdbdmaaGreatDoor.Ra
