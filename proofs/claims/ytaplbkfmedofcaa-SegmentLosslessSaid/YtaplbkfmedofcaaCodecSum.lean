/- The contracts of codec.table and Sum: the checksum of the bytes. -/
import Derived.Test.YtaplbkfmedofcaaCodecFold
import Derived.Test.YtaplbkfmedofcaaCrcMath
import Derived.Test.YtaplbkfmedofcaaBytes
import Derived.Laws.Rows
import Derived.Laws.ResultCell
namespace Go.Proofs.Ytaplbkfmedofcaa.Cr
open Go.ChangeShapes Go.WideShapes Go.RowKit Wo Bm By
set_option linter.unusedVariables false
/-- the table while its first k places are filled -/
def tcells (k : Nat) : Array Value := ((List.range 256).map fun i => Value.int .u32 (if i < k then (tab i : Int) else 0)).toArray
def stepn : Nat → Nat → Nat
  | 0, r => r
  | n + 1, r => stepn n (step1 r)
theorem stepn_snoc (n r : Nat) : stepn (n + 1) r = step1 (stepn n r) := by
  induction n generalizing r with
  | zero => rfl
  | succ n ih => rw [stepn, ih]; rfl
theorem stepn_tab (r : Nat) : stepn 8 r = tab r := rfl
theorem stepn_lt (n r : Nat) (h : r < 4294967296) : stepn n r < 4294967296 := by
  induction n generalizing r with
  | zero => exact h
  | succ n ih => exact ih _ (step1_lt h)
theorem tcells_size (k : Nat) : (tcells k).size = 256 := by simp [tcells]
theorem tcells_set (k : Nat) (h : k < 256) : (tcells k).setIfInBounds k (.int .u32 (tab k : Int)) = tcells (k + 1) := by
  apply Array.ext
  · simp [tcells]
  · intro i h1 h2
    simp only [tcells, List.setIfInBounds_toArray, List.getElem_toArray, List.getElem_set, List.getElem_map, List.getElem_range]
    rcases Nat.lt_trichotomy i k with h3 | h3 | h3
    · rw [if_neg (by omega), if_pos h3, if_pos (by omega)]
    · rw [if_pos h3.symm, if_pos (by omega), h3]
    · rw [if_neg (by omega), if_neg (by omega), if_neg (by omega)]
theorem tcells_at {k i : Nat} (h : i < 256) : (tcells k)[i]? = some (.int .u32 (if i < k then (tab i : Int) else 0)) := by
  simp [tcells, h]
/-- a new variable of a long array type -/
theorem wpList_alloc_big {P : Program} (w : World) {ops : Array Oper} {rest : List Oper} {o : Oper} {a : Act} {Q : Exit → Act → World → Prop} (hgd : o.guard = none) (ty : TypeId) (ho : o.op = .alloc ty)
    (cs : Array Value) (hz : (P.info? ty).map (·.zero) = some (some (.agg cs))) (h : wpList P ops Q rest (a.put o.dst (.pointer (some ⟨w.heap.size, 0, none⟩))) (w.alloc (.cells cs ty))) : wpList P ops Q (o :: rest) a w := by
  refine wpList_plain hgd fun K hK => ?_
  obtain ⟨i, hi, hzz⟩ := Option.map_eq_some_iff.1 hz
  have hr : (Instr.alloc ty true (.tuple #[])).run P w = .ok (.pointer (some ⟨w.heap.size, 0, none⟩)) (w.alloc (.cells cs ty)) := by
    simp [Instr.alloc, zeroValue, typeInfo, hi, hzz, newVar, newRow, Value.cells, Sem.run_bind]
  unfold Oper.wp
  simp [execOp, ho, hr, Result.andThen]
  exact hK _ _ h
theorem zero_tab : (Try.prog.info? 102).map (·.zero) = some (some (.agg (tcells 0))) := by kernel_rfl
theorem size_tab : (Try.prog.info? 102).map (·.size) = some 256 := by kernel_rfl
def TRel (w : World) (s5 : Value) (wr : World) : Prop := ∃ k : Nat, k ≤ 256 ∧ s5 = .int .i64 (k : Int) ∧ Bk wr (w.heap.size + 1) 102 (tcells k) ∧ Bk wr w.heap.size 102 (tcells 0) ∧ Bel w wr
set_option maxHeartbeats 8000000 in
set_option maxRecDepth 100000 in
theorem table_any (w : World) : Calls Try.prog 56 #[] w fun e w' => e = .returned (.agg (tcells 256)) ∧ Bel w w' := by
  go_enter Try.func56, Try.ntmps56
  go_wp2_with (refine wpList_alloc_big _ rfl 102 rfl (tcells 0) zero_tab ?_)
  have HS : Hid (∀ o2 : Obj, TRel w (.int .i64 0) ((w.alloc (.cells (tcells 0) 102)).alloc (.cells (tcells 0) 102))) := fun _ => ⟨0, by omega, rfl, Bk.nq (w.alloc _) _ _ (by simp), (Bk.nw _ _ _).al _, (Bel.rf.al _).al _⟩
  go_loopw [5] (fun s5 wr => TRel w s5 wr) (fun s5 _ => 256 - (intOf s5).toNat)
  case atStart => exact HS.out (.cells #[] 0)
  case round =>
    clear HS
    obtain ⟨k, hk, rfl, hb, ha, hbe⟩ := hrel
    rename_i wr
    have HB := Lib.hid hb
    have HA := Lib.hid ha
    have HX := Lib.hid hbe
    clear hb ha hbe
    rcases Nat.lt_or_ge k 256 with hlt | hge
    · have ki : (k : Int) < 256 := by omega
      have HT := Lib.hid (tcells_at (k := k) hlt)
      obtain ⟨W, rfl⟩ : ∃ W : World, W = wr := ⟨_, rfl⟩
      go_wp2
      go_loop [3, 10] (fun s3 s10 => ∃ n r : Nat, n ≤ 8 ∧ r < 4294967296 ∧ s10 = .int .i64 (n : Int) ∧ s3 = .int .u32 (r : Int) ∧ stepn n k = r) (fun _ s10 => 8 - (intOf s10).toNat)
      case atStart => exact ⟨0, k, by omega, by omega, rfl, rfl, rfl⟩
      case round =>
        obtain ⟨n, r, hn, hr, rfl, rfl, hs⟩ := hrel
        have HS := Lib.hid hs
        clear hs
        rcases Nat.lt_or_ge n 8 with hn8 | hn8
        · have ni : (n : Int) < 8 := by omega
          obtain ⟨x, hx⟩ : ∃ x, step1 r = x := ⟨_, rfl⟩
          have hxl : x < 4294967296 := by rw [← hx]; exact step1_lt hr
          have HN : Hid (stepn (n + 1) k = x) := by show _ = _; rw [stepn_snoc, HS.out, hx]
          have hdiv : (r : Int) / 2 = ((r / 2 : Nat) : Int) := by omega
          rcases Nat.mod_two_eq_zero_or_one r with h2 | h2
          · have e1 : bits .and .u32 (r : Int) 1 = 0 := by rw [and1_u32 hr, h2]; rfl
            have e2 : r / 2 = x := by rw [← hx]; unfold step1; rw [if_neg (by omega)]
            have HE : Hid ((r : Int) / 2 = (x : Int)) := by show _ = _; rw [hdiv, e2]
            clear hx e2 hdiv h2
            go_wp2
            go_round
            case rel => exact ⟨n + 1, x, by omega, hxl, by go_num, by rw [HE.out], HN.out⟩
            case measure => simp [intOf]; omega
          · have e1 : bits .and .u32 (r : Int) 1 = 1 := by rw [and1_u32 hr, h2]; rfl
            have e2 : bits .xor .u32 ((r : Int) / 2) 3988292384 = (x : Int) := by
              rw [hdiv, show (3988292384 : Int) = ((3988292384 : Nat) : Int) from rfl, xor_u32 (by omega) (by omega), ← hx]
              unfold step1
              rw [if_pos h2]
            clear hx hdiv h2
            go_wp2
            go_round
            case rel => exact ⟨n + 1, x, by omega, hxl, by go_num, rfl, HN.out⟩
            case measure => simp [intOf]; omega
        · obtain rfl : n = 8 := by omega
          have hst : tab k = r := by rw [← stepn_tab]; exact HS.out
          have HST := Lib.hid hst
          have c1 : W.cell? ⟨w.heap.size + 1, k, none⟩ = some (.int .u32 (if k < k then (tab k : Int) else 0)) := (HB.out.cell k).trans HT.out
          have f1 : W.frozen? ⟨w.heap.size + 1, k, none⟩ = false := HB.out.fr k
          rw [if_neg (Nat.lt_irrefl k)] at c1
          clear hst
          go_wp2
          go_roundw
          case rel =>
            refine ⟨k + 1, by omega, by go_num, ?_, HA.out.far (by simp) _, HX.out.st (by simp) _⟩
            rw [← tcells_set k hlt, HST.out]
            exact HB.out.st k _
          case measure => simp [intOf]; omega
    · obtain rfl : k = 256 := by omega
      have HZ := Lib.hid (bk_there HA.out)
      go_wp2_with (first
        | (refine wpList_load_row rfl 102 _ rfl (w.heap.size + 1) rfl 102 (tcells 256) (0, 0) _ HB.out Try.underlying102 rfl (by kernel_rfl) ?_)
        | (refine wpList_store_mid rfl 102 _ _ rfl w.heap.size 0 (tcells 256) rfl rfl HZ.out (by kernel_rfl) (by kernel_rfl) ?_))
      exact bodyPost_ret (v := .agg (tcells 256)) (results_cell_row Try.results56 _ _ w.heap.size 102 (tcells 256) (0, 0) _ rfl (bk_setCells HA.out (by rw [tcells_size, tcells_size])) Try.underlying102 rfl (by kernel_rfl)) rfl ⟨rfl, bel_setCells HX.out (Nat.le_refl _) _⟩
end Go.Proofs.Ytaplbkfmedofcaa.Cr
