/- Merged: CodecInt CodecSum CodecSum2 Euc SumMath PieMath PieM2. -/
import Derived.Test.YtpbnabibnkohdaaGreatDoorGm1
import Derived.Test.YtpbnabibnkohdaaGreatDoorGm2
import Derived.Test.YtpbnabibnkohdaaGreatDoorGm3
import Derived.Test.YtpbnabibnkohdaaGreatDoorGm4
import Derived.Laws.Rows
import Derived.Laws.ResultCell
namespace Go.Proofs.YtpbnabibnkohdaaGreatDoor.Cd
open Go.ChangeShapes Go.WideShapes Go.RowKit Wo Bm By
set_option linter.unusedVariables false
def dval (d : Int × Int × Int) : Value := .tuple #[.int .i64 d.1, .int .i64 d.2.1, .int .i64 d.2.2]
theorem pow7 (i : Nat) : (2 : Nat) ^ (7 * i) = 128 ^ i := by rw [Nat.pow_mul]
theorem shl7 (x i : Nat) : IntKind.u64.wrap ((x : Int) * 2 ^ (7 * i)) = ((x * 128 ^ i % 18446744073709551616 : Nat) : Int) := by
  rw [IntKind.wrap_u64, ← pow7]
  simp
theorem or7 {u x i : Nat} (hi : i ≤ 9) (hu : u < 128 ^ i) (hx : x < 128) : bits .or .u64 (u : Int) (IntKind.u64.wrap ((x : Int) * 2 ^ (7 * i))) = ((u + x * 128 ^ i % 18446744073709551616 : Nat) : Int) := by
  rw [shl7]
  refine or_u64 (i := 7 * i) (by omega) (by rw [pow7]; exact hu) ?_ (by omega)
  rw [pow7]
  have hd : (128 : Nat) ^ i ∣ 18446744073709551616 := ⟨2 ^ (64 - 7 * i), by
    rw [← pow7, ← Nat.pow_add, show 7 * i + (64 - 7 * i) = 64 by omega]⟩
  rw [Nat.mod_mod_of_dvd _ hd, Nat.mul_mod_left]
theorem next7 {u x i : Nat} (hi : i ≤ 8) (hu : u < 128 ^ i) (hx : x < 128) : u + x * 128 ^ i % 18446744073709551616 < 128 ^ (i + 1) := by
  have h1 : x * 128 ^ i % 18446744073709551616 ≤ x * 128 ^ i := Nat.mod_le _ _
  have h2 : x * 128 ^ i ≤ 127 * 128 ^ i := Nat.mul_le_mul_right _ (by omega)
  rw [Nat.pow_succ]
  omega
theorem last7 {u x i : Nat} (hi : i ≤ 9) (hu : u < 128 ^ i) (hx : x < 128) : u + x * 128 ^ i % 18446744073709551616 < 18446744073709551616 := by
  have hx1 : x * 128 ^ i % 18446744073709551616 < 18446744073709551616 := Nat.mod_lt _ (by decide)
  have h := or7 hi hu hx
  have hd : (128 : Nat) ^ i ∣ 18446744073709551616 := ⟨2 ^ (64 - 7 * i), by
    rw [← pow7, ← Nat.pow_add, show 7 * i + (64 - 7 * i) = 64 by omega]⟩
  have hm : x * 128 ^ i % 18446744073709551616 % 128 ^ i = 0 := by rw [Nat.mod_mod_of_dvd _ hd, Nat.mul_mod_left]
  obtain ⟨q, hq⟩ := Nat.dvd_of_mod_eq_zero hm
  obtain ⟨p, hp⟩ := hd
  rw [hq] at hx1 ⊢
  rw [hp] at hx1 ⊢
  have hqp : q < p := Nat.lt_of_mul_lt_mul_left hx1
  have : 128 ^ i * (q + 1) ≤ 128 ^ i * p := Nat.mul_le_mul_left _ hqp
  rw [Nat.mul_add] at this
  omega
set_option maxHeartbeats 16000000 in
set_option maxRecDepth 100000 in
theorem int_any (A : Option Addr) (c : Nat) (B : List Nat) (at_ : Nat) (hat : at_ ≤ B.length) (hB : B.length ≤ 140737488355000) (w : World) (hr : Rd w A B.length B) :
    Calls Tryz.prog 128 #[.slice A B.length c, .int .i64 (at_ : Int)] w fun e w' => e = .returned (dval (dec B at_)) ∧ w = w' := by
  have HR := Lib.hid hr
  have bl : (B.length : Int) ≤ 140737488355000 := by omega
  have ai : (at_ : Int) ≤ (B.length : Int) := by omega
  have a0 : (0 : Int) ≤ (at_ : Int) := by omega
  clear hr
  go_enter Tryz.func128, Tryz.ntmps128
  go_wp2
  go_loop [7, 18] (fun s7 s18 => ∃ i u : Nat, i ≤ 10 ∧ s18 = .int .i64 (i : Int) ∧ s7 = .int .u64 (u : Int) ∧ (i ≤ 9 → u < 128 ^ i) ∧ at_ + i ≤ B.length ∧ decGo B at_ (10 - i) i u = dec B at_) (fun _ s18 => 10 - (intOf s18).toNat)
  case atStart => exact ⟨0, 0, by omega, rfl, rfl, by intro _; decide, by omega, rfl⟩
  case round =>
    obtain ⟨i, u, hi, rfl, rfl, hu, hl, hd⟩ := hrel
    rcases Nat.lt_or_ge i 10 with h10 | h10
    · have hul := hu (by omega)
      obtain ⟨f, hf⟩ : ∃ f, 10 - i = f + 1 := ⟨9 - i, by omega⟩
      rw [hf, decGo] at hd
      have hf2 : f = 10 - (i + 1) := by omega
      have i10 : (i : Int) < 10 := by omega
      have i0 : (0 : Int) ≤ (i : Int) := by omega
      rcases Nat.lt_or_ge (at_ + i) B.length with hlt | hge
      · rw [if_neg (by omega)] at hd
        have hne : ((at_ : Int) + (i : Int) == (B.length : Int)) = false := by simp; omega
        have hb := HR.out.byte (at_ + i)
        obtain ⟨ad, rfl, hab, hac⟩ := HR.out.2.2 (by omega)
        have hcell := hac (at_ + i) hlt
        obtain ⟨b, hbb⟩ : ∃ b, B.getD (at_ + i) 0 = b := ⟨_, rfl⟩
        rw [hbb] at hb hcell hd
        have hx : b % 128 < 128 := Nat.mod_lt _ (by decide)
        have e0 := and127_u8 hb
        have e1 := or7 (by omega) hul hx
        have hn := fun h : i ≤ 8 => next7 h hul hx
        have hll := last7 (by omega) hul hx
        obtain ⟨x, hxx⟩ : ∃ x, b % 128 = x := ⟨_, rfl⟩
        rw [hxx] at e0 e1 hn hll hd
        obtain ⟨y, hy⟩ : ∃ y, u + x * 128 ^ i % 18446744073709551616 = y := ⟨_, rfl⟩
        rw [hy] at e1 hn hll hd
        have HD := Lib.hid hd
        have HN := Lib.hid hn
        have HLL := Lib.hid hll
        have HE := Lib.hid (And.intro hbb (And.intro hxx hy))
        have bi : (b : Int) < 256 := by omega
        have xi : (x : Int) < 128 := by omega
        have aii : (at_ : Int) + (i : Int) < (B.length : Int) := by omega
        clear hd hn hll hbb hxx hy hx hu hul hac hf hl
        rcases Nat.lt_or_ge 127 b with hg | hg
        · have gi : (127 : Int) < (b : Int) := by omega
          have HD2 : Hid (decGo B at_ f (i + 1) y = dec B at_) := by have := HD.out; rwa [if_pos hg] at this
          have HA : Hid (at_ + (i + 1) ≤ B.length) := by show _ ≤ _; omega
          have HF : Hid (f = 10 - (i + 1)) := hf2
          clear HD hf2
          go_wp2
          go_round
          case rel => exact ⟨i + 1, y, by omega, by go_num, rfl, fun h => HN.out (by omega), HA.out, by rw [← HF.out]; exact HD2.out⟩
          case measure => simp [intOf]; omega
        · have gi : ¬ (127 : Int) < (b : Int) := by omega
          have gi2 : (b : Int) ≤ 127 := by omega
          have HD1 : Hid ((if (i = 9 ∧ 1 < b) ∨ (0 < i ∧ b = 0) then ((0 : Int), (0 : Int), (3 : Int)) else (unf y, ((at_ + i + 1 : Nat) : Int), 0)) = dec B at_) := by have := HD.out; rwa [if_neg (by omega)] at this
          clear HD HN hf2
          rcases Classical.em ((i = 9 ∧ 1 < b) ∨ (0 < i ∧ b = 0)) with hrej | hrej
          · have HD2 : Hid (((0 : Int), (0 : Int), (3 : Int)) = dec B at_) := by have := HD1.out; rwa [if_pos hrej] at this
            clear HD1
            rcases Classical.em (i = 9 ∧ 1 < b) with h9 | h9
            · have t1 : ((i : Int) == 9) = true := by simp; omega
              have t2 : (1 : Int) < (b : Int) := by omega
              clear hrej h9
              go_wp2
              go_ret3
              exact ⟨by rw [← HD2.out]; rfl, rfl⟩
            · have t3 : (0 : Int) < (i : Int) := by omega
              have t4 : ((b : Int) == 0) = true := by simp; omega
              have t1 : ((i : Int) == 9) = true ∧ ¬ (1 : Int) < (b : Int) ∨ ((i : Int) == 9) = false := by
                rcases Nat.lt_or_ge i 9 with h | h
                · exact .inr (by simp; omega)
                · exact .inl ⟨by simp; omega, by omega⟩
              clear hrej h9
              rcases t1 with ⟨t1, t2⟩ | t1
              · go_wp2
                go_ret3
                exact ⟨by rw [← HD2.out]; rfl, rfl⟩
              · go_wp2
                go_ret3
                exact ⟨by rw [← HD2.out]; rfl, rfl⟩
          · have HD2 : Hid ((unf y, ((at_ + i + 1 : Nat) : Int), (0 : Int)) = dec B at_) := by have := HD1.out; rwa [if_neg hrej] at this
            clear HD1
            have t1 : ((i : Int) == 9) = true ∧ ¬ (1 : Int) < (b : Int) ∨ ((i : Int) == 9) = false := by
              rcases Nat.lt_or_ge i 9 with h | h
              · exact .inr (by simp; omega)
              · exact .inl ⟨by simp; omega, by omega⟩
            have t3 : (0 : Int) < (i : Int) ∧ ((b : Int) == 0) = false ∨ ¬ (0 : Int) < (i : Int) := by
              rcases Nat.eq_zero_or_pos i with h | h
              · exact .inr (by omega)
              · exact .inl ⟨by omega, by simp; omega⟩
            clear hrej
            rcases t1 with ⟨t1, t2⟩ | t1 <;> rcases t3 with ⟨t3, t4⟩ | t3
            all_goals
              go_wp2_with (go_at_call 152; refine (unfold_any y HLL.out _).mono ?_; rintro e w' ⟨rfl, rfl⟩)
              go_ret3
              exact ⟨by rw [← HD2.out]; simp [dval], rfl⟩
      · rw [if_pos (by omega)] at hd
        have heq : ((at_ : Int) + (i : Int) == (B.length : Int)) = true := by simp; omega
        have HD2 := Lib.hid hd
        clear hd hu hul hf hl
        go_wp2
        go_ret3
        exact ⟨by rw [← HD2.out]; rfl, rfl⟩
    · obtain rfl : i = 10 := by omega
      have hd2 : ((0 : Int), (0 : Int), (3 : Int)) = dec B at_ := hd
      have HD2 := Lib.hid hd2
      clear hd hd2 hu
      go_wp2
      go_ret3
      exact ⟨by rw [← HD2.out]; rfl, rfl⟩
end Go.Proofs.YtpbnabibnkohdaaGreatDoor.Cd
namespace Go.Proofs.YtpbnabibnkohdaaGreatDoor.Cr
open Go.ChangeShapes Go.WideShapes Go.RowKit Wo Bm By
set_option linter.unusedVariables false
/-- the table while its first k places are filled -/
def tcells (k : Nat) : Array Value := ((List.range 256).map fun i => Value.int .u32 (if i < k then (tab i : Int) else 0)).toArray
def stepn : Nat → Nat → Nat
  | 0, r => r
  | n + 1, r => stepn n (step1 r)
theorem stepn_snoc (n r : Nat) : stepn (n + 1) r = step1 (stepn n r) := by
  induction n generalizing r with
  | zero => rfl
  | succ n ih => rw [stepn, ih]; rfl
theorem stepn_tab (r : Nat) : stepn 8 r = tab r := rfl
theorem stepn_lt (n r : Nat) (h : r < 4294967296) : stepn n r < 4294967296 := by
  induction n generalizing r with
  | zero => exact h
  | succ n ih => exact ih _ (step1_lt h)
theorem tcells_size (k : Nat) : (tcells k).size = 256 := by simp [tcells]
theorem tcells_set (k : Nat) (h : k < 256) : (tcells k).setIfInBounds k (.int .u32 (tab k : Int)) = tcells (k + 1) := by
  apply Array.ext
  · simp [tcells]
  · intro i h1 h2
    simp only [tcells, List.setIfInBounds_toArray, List.getElem_toArray, List.getElem_set, List.getElem_map, List.getElem_range]
    rcases Nat.lt_trichotomy i k with h3 | h3 | h3
    · rw [if_neg (by omega), if_pos h3, if_pos (by omega)]
    · rw [if_pos h3.symm, if_pos (by omega), h3]
    · rw [if_neg (by omega), if_neg (by omega), if_neg (by omega)]
theorem tcells_at {k i : Nat} (h : i < 256) : (tcells k)[i]? = some (.int .u32 (if i < k then (tab i : Int) else 0)) := by
  simp [tcells, h]
/-- a new variable of a long array type -/
theorem wpList_alloc_big {P : Program} (w : World) {ops : Array Oper} {rest : List Oper} {o : Oper} {a : Act} {Q : Exit → Act → World → Prop} (hgd : o.guard = none) (ty : TypeId) (ho : o.op = .alloc ty)
    (cs : Array Value) (hz : (P.info? ty).map (·.zero) = some (some (.agg cs))) (h : wpList P ops Q rest (a.put o.dst (.pointer (some ⟨w.heap.size, 0, none⟩))) (w.alloc (.cells cs ty))) : wpList P ops Q (o :: rest) a w := by
  refine wpList_plain hgd fun K hK => ?_
  obtain ⟨i, hi, hzz⟩ := Option.map_eq_some_iff.1 hz
  have hr : (Instr.alloc ty true (.tuple #[])).run P w = .ok (.pointer (some ⟨w.heap.size, 0, none⟩)) (w.alloc (.cells cs ty)) := by
    simp [Instr.alloc, zeroValue, typeInfo, hi, hzz, newVar, newRow, Value.cells, Sem.run_bind]
  unfold Oper.wp
  simp [execOp, ho, hr, Result.andThen]
  exact hK _ _ h
theorem zero_tab : (Tryz.prog.info? 217).map (·.zero) = some (some (.agg (tcells 0))) := by kernel_rfl
theorem size_tab : (Tryz.prog.info? 217).map (·.size) = some 256 := by kernel_rfl
def TRel (w : World) (s5 : Value) (wr : World) : Prop := ∃ k : Nat, k ≤ 256 ∧ s5 = .int .i64 (k : Int) ∧ Bk wr (w.heap.size + 1) 217 (tcells k) ∧ Bk wr w.heap.size 217 (tcells 0) ∧ Bel w wr
set_option maxHeartbeats 8000000 in
set_option maxRecDepth 100000 in
theorem table_any (w : World) : Calls Tryz.prog 151 #[] w fun e w' => e = .returned (.agg (tcells 256)) ∧ Bel w w' := by
  go_enter Tryz.func151, Tryz.ntmps151
  go_wp2_with (refine wpList_alloc_big _ rfl 217 rfl (tcells 0) zero_tab ?_)
  have HS : Hid (∀ o2 : Obj, TRel w (.int .i64 0) ((w.alloc (.cells (tcells 0) 217)).alloc (.cells (tcells 0) 217))) := fun _ => ⟨0, by omega, rfl, Bk.nq (w.alloc _) _ _ (by simp), (Bk.nw _ _ _).al _, (Bel.rf.al _).al _⟩
  go_loopw [5] (fun s5 wr => TRel w s5 wr) (fun s5 _ => 256 - (intOf s5).toNat)
  case atStart => exact HS.out (.cells #[] 0)
  case round =>
    clear HS
    obtain ⟨k, hk, rfl, hb, ha, hbe⟩ := hrel
    rename_i wr
    have HB := Lib.hid hb
    have HA := Lib.hid ha
    have HX := Lib.hid hbe
    clear hb ha hbe
    rcases Nat.lt_or_ge k 256 with hlt | hge
    · have ki : (k : Int) < 256 := by omega
      have HT := Lib.hid (tcells_at (k := k) hlt)
      obtain ⟨W, rfl⟩ : ∃ W : World, W = wr := ⟨_, rfl⟩
      go_wp2
      go_loop [3, 10] (fun s3 s10 => ∃ n r : Nat, n ≤ 8 ∧ r < 4294967296 ∧ s10 = .int .i64 (n : Int) ∧ s3 = .int .u32 (r : Int) ∧ stepn n k = r) (fun _ s10 => 8 - (intOf s10).toNat)
      case atStart => exact ⟨0, k, by omega, by omega, rfl, rfl, rfl⟩
      case round =>
        obtain ⟨n, r, hn, hr, rfl, rfl, hs⟩ := hrel
        have HS := Lib.hid hs
        clear hs
        rcases Nat.lt_or_ge n 8 with hn8 | hn8
        · have ni : (n : Int) < 8 := by omega
          obtain ⟨x, hx⟩ : ∃ x, step1 r = x := ⟨_, rfl⟩
          have hxl : x < 4294967296 := by rw [← hx]; exact step1_lt hr
          have HN : Hid (stepn (n + 1) k = x) := by show _ = _; rw [stepn_snoc, HS.out, hx]
          have hdiv : (r : Int) / 2 = ((r / 2 : Nat) : Int) := by omega
          rcases Nat.mod_two_eq_zero_or_one r with h2 | h2
          · have e1 : bits .and .u32 (r : Int) 1 = 0 := by rw [and1_u32 hr, h2]; rfl
            have e2 : r / 2 = x := by rw [← hx]; unfold step1; rw [if_neg (by omega)]
            have HE : Hid ((r : Int) / 2 = (x : Int)) := by show _ = _; rw [hdiv, e2]
            clear hx e2 hdiv h2
            go_wp2
            go_round
            case rel => exact ⟨n + 1, x, by omega, hxl, by go_num, by rw [HE.out], HN.out⟩
            case measure => simp [intOf]; omega
          · have e1 : bits .and .u32 (r : Int) 1 = 1 := by rw [and1_u32 hr, h2]; rfl
            have e2 : bits .xor .u32 ((r : Int) / 2) 3988292384 = (x : Int) := by
              rw [hdiv, show (3988292384 : Int) = ((3988292384 : Nat) : Int) from rfl, xor_u32 (by omega) (by omega), ← hx]
              unfold step1
              rw [if_pos h2]
            clear hx hdiv h2
            go_wp2
            go_round
            case rel => exact ⟨n + 1, x, by omega, hxl, by go_num, rfl, HN.out⟩
            case measure => simp [intOf]; omega
        · obtain rfl : n = 8 := by omega
          have hst : tab k = r := by rw [← stepn_tab]; exact HS.out
          have HST := Lib.hid hst
          have c1 : W.cell? ⟨w.heap.size + 1, k, none⟩ = some (.int .u32 (if k < k then (tab k : Int) else 0)) := (HB.out.cell k).trans HT.out
          have f1 : W.frozen? ⟨w.heap.size + 1, k, none⟩ = false := HB.out.fr k
          rw [if_neg (Nat.lt_irrefl k)] at c1
          clear hst
          go_wp2
          go_roundw
          case rel =>
            refine ⟨k + 1, by omega, by go_num, ?_, HA.out.far (by simp) _, HX.out.st (by simp) _⟩
            rw [← tcells_set k hlt, HST.out]
            exact HB.out.st k _
          case measure => simp [intOf]; omega
    · obtain rfl : k = 256 := by omega
      have HZ := Lib.hid (bk_there HA.out)
      go_wp2_with (first
        | (refine wpList_load_row rfl 217 _ rfl (w.heap.size + 1) rfl 217 (tcells 256) (0, 0) _ HB.out Tryz.underlying217 rfl (by kernel_rfl) ?_)
        | (refine wpList_store_mid rfl 217 _ _ rfl w.heap.size 0 (tcells 256) rfl rfl HZ.out (by kernel_rfl) (by kernel_rfl) ?_))
      exact bodyPost_ret (v := .agg (tcells 256)) (results_cell_row Tryz.results151 _ _ w.heap.size 217 (tcells 256) (0, 0) _ rfl (bk_setCells HA.out (by rw [tcells_size, tcells_size])) Tryz.underlying217 rfl (by kernel_rfl)) rfl ⟨rfl, bel_setCells HX.out (Nat.le_refl _) _⟩
end Go.Proofs.YtpbnabibnkohdaaGreatDoor.Cr
namespace Go.Proofs.YtpbnabibnkohdaaGreatDoor.Cr
open Go.ChangeShapes Go.WideShapes Go.RowKit Wo Bm By
set_option linter.unusedVariables false
theorem take_snocN (B : List Nat) (k : Nat) (h : k < B.length) : B.take (k + 1) = B.take k ++ [B.getD k 0] := by
  rw [List.take_succ_eq_append_getElem h, List.getD_eq_getElem?_getD, List.getElem?_eq_getElem h]; rfl
set_option maxHeartbeats 8000000 in
set_option maxRecDepth 100000 in
theorem sum_any (A : Option Addr) (c : Nat) (B : List Nat) (hB : B.length ≤ 140737488355000) (w : World) (hr : Rd w A B.length B) :
    Calls Tryz.prog 125 #[.slice A B.length c] w fun e w' => e = .returned (.int .u32 (crc B : Int)) ∧ Bel w w' := by
  have HR := Lib.hid hr
  have bl : (B.length : Int) ≤ 140737488355000 := by omega
  clear hr
  go_enter Tryz.func125, Tryz.ntmps125
  go_wp2_with fail
  go_at_call 151
  refine (table_any _).mono ?_
  rintro e w1 ⟨rfl, h1⟩
  have HX := Lib.hid h1
  clear h1
  go_wp2_with (first
    | (refine wpList_alloc_big _ rfl 217 rfl (tcells 0) zero_tab ?_)
    | (refine wpList_store_big rfl 217 _ _ rfl w1.heap.size (tcells 256) (tcells 0) 217 rfl rfl (Bk.nw _ _ _) (by rw [tcells_size, tcells_size]) (by kernel_rfl) (by kernel_rfl) ?_; intro W HBK HBE))
  have HW : Hid (Bel w W) := HBE.out w (HX.out.al _) HX.out.size
  have HRW := Lib.hid (HR.out.bel HW.out)
  clear HBE HX HR
  have hrd := HRW.out.byte

  go_loop [4, 10] (fun s4 s10 => ∃ k : Nat, k ≤ B.length ∧ s10 = .int .i64 (k : Int) ∧ s4 = .int .u32 (reg (B.take k) : Int)) (fun _ s10 => B.length - (intOf s10).toNat)
  case atStart => exact ⟨0, by omega, rfl, rfl⟩
  case round =>
    obtain ⟨k, hk, rfl, rfl⟩ := hrel
    have hbytes : ∀ x ∈ B.take k, x < 256 := fun x hx => HRW.out.2.1 x (List.mem_of_mem_take hx)
    have hrl := reg_lt hbytes
    rcases Nat.lt_or_ge k B.length with hlt | hge
    · obtain ⟨ad, rfl, hab, hac⟩ := HRW.out.2.2 (by omega)
      have hcell := hac k hlt
      have hb := hrd k
      have hsn := reg_snoc (B.take k) (B.getD k 0)
      rw [← take_snocN B k hlt] at hsn
      obtain ⟨cb, hcb⟩ : ∃ cb, B.getD k 0 = cb := ⟨_, rfl⟩
      rw [hcb] at hcell hb hsn
      obtain ⟨r, hrr⟩ : ∃ r, reg (B.take k) = r := ⟨_, rfl⟩
      rw [hrr] at hrl hsn ⊢
      have hil := idx_lt (r := r) hb
      have hu := (show stp r cb = (r / 256) ^^^ tab (r % 256 ^^^ cb) from rfl)
      obtain ⟨i, hi⟩ : ∃ i, r % 256 ^^^ cb = i := ⟨_, rfl⟩
      rw [hi] at hil hu
      have htl := tab_lt (i := i) (by omega)
      have hT := tcells_at (k := 256) hil
      rw [if_pos hil] at hT
      have c1 : W.cell? ⟨w1.heap.size, i, none⟩ = some (.int .u32 (tab i : Int)) := (HBK.out.cell i).trans hT
      obtain ⟨t, ht⟩ : ∃ t, tab i = t := ⟨_, rfl⟩
      rw [ht] at htl hu c1
      have e1 : bits .xor .u8 ((r : Int) % 256) (cb : Int) = (i : Int) := by rw [show (r : Int) % 256 = ((r % 256 : Nat) : Int) by omega, xor_u8 (by omega) hb, hi]
      have e2 : bits .xor .u32 ((r : Int) / 256) (t : Int) = (stp r cb : Int) := by rw [show (r : Int) / 256 = ((r / 256 : Nat) : Int) by omega, xor_u32 (by omega) htl, hu]
      obtain ⟨x, hx⟩ : ∃ x, stp r cb = x := ⟨_, rfl⟩
      rw [hx] at e2 hsn
      have HN := Lib.hid hsn
      have HRR := Lib.hid hrr
      have HCB := Lib.hid hcb
      have HXX := Lib.hid hx
      have HI := Lib.hid hi
      have HT2 := Lib.hid ht
      have ii : (i : Int) < 256 := by omega
      have ki : (k : Int) < (B.length : Int) := by omega
      clear hsn hrr hcb hx hi ht hT hu hbytes hac hrd
      go_wp2
      go_round
      case rel => exact ⟨k + 1, by omega, by go_num, by rw [HN.out]⟩
      case measure => simp [intOf]; omega
    · obtain rfl : k = B.length := by omega
      have hall : B.take B.length = B := List.take_of_length_le (Nat.le_refl _)
      rw [hall] at hrl ⊢
      obtain ⟨r, hrr⟩ : ∃ r, reg B = r := ⟨_, rfl⟩
      rw [hrr] at hrl ⊢
      have HRR := Lib.hid hrr
      clear hall hrr hbytes hrd
      go_wp2
      go_ret
      exact ⟨ret_int (by rw [not_u32 hrl, ← HRR.out]; rfl), HW.out⟩
end Go.Proofs.YtpbnabibnkohdaaGreatDoor.Cr
namespace Go.Proofs.YtpbnabibnkohdaaGreatDoor.Eu
open Go.ChangeShapes Go.WideShapes Go.RowKit Wo Sr Wi Ra
set_option linter.unusedVariables false
set_option maxHeartbeats 4000000 in
/-- the distances to the first k windows -/
def prof (Q Z : List Int) (n k : Nat) : List Int := (List.range k).map fun i => su sq (df Q ((Z.drop i).take n))
theorem prof_len (Q Z : List Int) (n k : Nat) : (prof Q Z n k).length = k := by simp [prof]
theorem prof_at (Q Z : List Int) (n k i : Nat) (h : i < k) : (prof Q Z n k).getD i 0 = su sq (df Q ((Z.drop i).take n)) := by
  rw [List.getD_eq_getElem?_getD, prof, List.getElem?_map, List.getElem?_range h]; rfl
theorem prof_next (Q Z : List Int) (n k : Nat) : prof Q Z n k ++ [su sq (df Q ((Z.drop k).take n))] = prof Q Z n (k + 1) := by
  unfold prof
  rw [List.range_succ (n := k), List.map_append]
  rfl
def PI (Q Z : List Int) (n N base : Nat) (w : World) (s7 s28 : Value) (wr : World) : Prop := ∃ (k : Nat) (V : World) (u : Value), V = wr ∧ u = s7 ∧ k ≤ N ∧ s28 = .int .i64 (k : Int) ∧
  wr.ownsRow base 3 1 s7 k (zs (prof Q Z n k)) ∧ Bel w wr ∧ base ≤ wr.heap.size
theorem pi_step {Q Z : List Int} {n N k h cap : Nat} {w wr w1 w2 : World} {s7 : Value} {y : Int} (hk : k < N) (hy : su sq (df Q ((Z.drop k).take n)) = y)
    (hown : wr.ownsRow w.heap.size 3 1 s7 k (zs (prof Q Z n k))) (hb : Bel w wr) (hbase : w.heap.size ≤ wr.heap.size) (h1 : Bel wr w1)
    (hown2 : w2.ownsRow w.heap.size 3 1 (.slice (some ⟨h, 0, none⟩) (k + 1) cap) (k + 1) (zs (prof Q Z n k) ++ [.int .i64 y])) (hgr : (w1.alloc (.cells #[.int .i64 y] 3)).grownBy w2 s7.ownBlock) :
    PI Q Z n N w.heap.size w (.slice (some ⟨h, 0, none⟩) (k + 1) cap) (.int .i64 ((k : Int) + 1)) w2 := by
  have hrow : ∀ b, s7.ownBlock = some b → w.heap.size ≤ b := fun b e => (hown.lt b e).1
  have h2 : Bel w (w1.alloc (.cells #[.int .i64 y] 3)) := (hb.tr h1).al _
  refine ⟨k + 1, _, _, rfl, rfl, by omega, by congr 1, ?_, ?_, ?_⟩
  · rw [← prof_next, zs_app, hy]; exact hown2
  · exact Below.grown h2 hgr h2.size (fun b e => by have := hrow b e; omega)
  · have := hgr.size
    have := h1.size
    simp at *
    omega
set_option maxHeartbeats 8000000 in
set_option maxRecDepth 100000 in
theorem profile_ok (A : Option Addr) (c n h c' T N : Nat) (Q Z : List Int) (n1 : 2 ≤ n) (n2 : n ≤ 32) (hT : T ≤ 2000) (hnT : n ≤ T) (hN : T + 1 - n = N) (hcap : T ≤ c') (hs : Sam Q) (ht : Sam Z) (w : World) (h1 : Zi w A n Q) (h2 : Zi w (some ⟨h, 0, none⟩) T Z) :
    Calls Tryz.prog 38 #[.slice A n c, .slice (some ⟨h, 0, none⟩) T c'] w fun e w' => ∃ v, e = .returned (.tuple #[v, .int .i64 0]) ∧ w'.ownsRow w.heap.size 3 1 v N (zs (prof Q Z n N)) ∧ Bel w w' := by
  obtain ⟨i0, hi0, hz0, hz1, hz2⟩ := info_parts info_int
  have HI := Lib.hid (And.intro hi0 (And.intro hz0 (And.intro hz1 hz2)))
  clear hi0 hz0 hz1 hz2
  have H1 := Lib.hid h1
  have H2 := Lib.hid h2
  have HS := Lib.hid hs
  have HT := Lib.hid ht
  have i1 : 2 ≤ (n : Int) := by omega
  have i2 : (n : Int) ≤ 32 := by omega
  have i3 : (T : Int) ≤ 2000 := by omega
  have i4 : (T : Int) ≤ (c' : Int) := by omega
  have hmx : (T : Int) - (n : Int) + 1 = (N : Int) := by omega
  have hN0 : 0 < (N : Int) := by omega
  have hNi : (N : Int) ≤ 2001 := by omega
  clear h1 h2 hs ht
  go_enter Tryz.func38, Tryz.ntmps38
  go_wp2_with fail
  go_at_call 68
  refine (window_ok A c n Q n1 n2 HS.out _ H1.out).mono ?_
  rintro e w1 ⟨rfl, hb1⟩
  have HB1 := Lib.hid hb1
  clear hb1
  go_wp2_with (go_at_call 50; refine (samples_ok _ c' T Z (by omega) HT.out _ (H2.out.bel HB1.out)).mono ?_; rintro e w2 ⟨rfl, hb2⟩)
  have HB2 := Lib.hid (HB1.out.tr hb2)
  clear hb2
  have HR0 : Hid (PI Q Z n N w2.heap.size w2 (.slice none 0 0) (.int .i64 0) w2) := ⟨0, _, _, rfl, rfl, by omega, rfl, World.ownsRow_nil _ _ _ _, Bel.rf, Nat.le_refl _⟩
  go_loopw [7, 28] (fun s7 s28 wr => PI Q Z n N w2.heap.size w2 s7 s28 wr) (fun _ s28 _ => N - (intOf s28).toNat)
  case atStart => exact HR0.out
  case round =>
    clear HR0
    obtain ⟨k, wr, u7, hwr, hu7, hk, rfl, hown, hb, hbase⟩ := hrel
    subst hwr hu7
    have HO := Lib.hid hown
    have HB := Lib.hid hb
    rcases Nat.lt_or_ge k N with hlt | hge
    · have hw : Bel w wr := HB2.out.tr hb
      have HSQ := Lib.hid (squares_ok A (some ⟨h, k, none⟩) c n n Q ((Z.drop k).take n) n2 HS.out ((HT.out.drop k).take n) wr (H1.out.bel hw) (zi_sub (H2.out.bel hw) k n (by omega)))
      obtain ⟨y, hy⟩ : ∃ y, su sq (df Q ((Z.drop k).take n)) = y := ⟨_, rfl⟩
      rw [hy] at HSQ
      have HY := Lib.hid hy
      have ki : (k : Int) < (N : Int) := by omega
      have kb : (k : Int) + (n : Int) ≤ (T : Int) := by omega
      have kc : (k : Int) + (n : Int) ≤ (c' : Int) := by omega
      clear hown hb hw hy
      go_wp2_with fail
      go_at_call 53
      refine HSQ.out.mono ?_
      rintro e w3 ⟨rfl, hb3⟩
      have hown1 := own_bel HO.out hb3
      have hsz := hb3.size
      have HOW := Lib.hid hown1
      have HB3 := Lib.hid hb3
      clear hown1 hb3
      go_wp2_with (at_builtin; refine wpList_append_lies _ (by rfl) _ _ 22 (by rfl) w2.heap.size 3 i0 _ 1 8 Tryz.underlying22 HI.out.1 HI.out.2.1 HI.out.2.2.1 HI.out.2.2.2 (by rfl) (by omega) u7 k (zs (prof Q Z n k)) (by rfl) (HOW.out.alloc _) ⟨w3.heap.size, 0, none⟩ 1 1 [.int .i64 y] (by rfl) (by rfl) (World.news_of_block (cs := #[.int .i64 y]) (t := 3) (fr := (0, 0)) (heap_alloc_new w3 _)) (by simp [Value.oneCell']) (by omega) (by unfold maxLen; omega) (by omega) (by simp; omega) (w3.heap.size + 1) (by simp) ?_; intro h' cap' w5 hown4 hgrow hat hlt4)
      have hstep := pi_step hlt HY.out HO.out HB.out hbase HB3.out hown4 hgrow
      have HST := Lib.hid hstep
      clear hstep hown4 hgrow hat
      go_wp2
      go_roundw
      case rel => exact HST.out
      case measure => simp [intOf]; omega
    · obtain rfl : k = N := by omega
      clear hown hb
      go_wp2
      go_ret2
      exact ⟨_, rfl, HO.out.mono HB2.out.size, HB2.out.tr HB.out⟩
end Go.Proofs.YtpbnabibnkohdaaGreatDoor.Eu
namespace Go.Proofs.YtpbnabibnkohdaaGreatDoor.Ra
set_option linter.unusedVariables false
theorem add_nat (n d m e g x y s c k T : Nat) (hg : g = Nat.gcd d e) (hd : 0 < d) (he : 0 < e) (h1 : Nat.gcd n d = 1) (h2 : Nat.gcd m e = 1) (hy : d = g * y) (hx : e = g * x) (hs : s = n * x + m * y) (hc : c = Nat.gcd (s % g) g)
    (hk : g = c * k) (hT : s = c * T) : Nat.gcd T (y * (k * x)) = 1 ∧ T * (d * e) = (n * e + m * d) * (y * (k * x)) := by
  have hg0 : 0 < g := by rw [hg]; exact Nat.gcd_pos_of_pos_left _ hd
  have hc0 : 0 < c := by rcases Nat.eq_zero_or_pos c with h | h
                         · rw [h] at hk; omega
                         · exact h
  have cyx : Nat.gcd y x = 1 := by
    have := Nat.coprime_div_gcd_div_gcd (m := d) (n := e) (by rw [← hg]; exact hg0)
    rw [← hg] at this
    unfold Nat.Coprime at this
    rwa [show d / g = y by rw [hy]; exact Nat.mul_div_cancel_left _ hg0, show e / g = x by rw [hx]; exact Nat.mul_div_cancel_left _ hg0] at this
  have cny : Nat.Coprime n y := Nat.Coprime.coprime_dvd_right ⟨g, by rw [hy, Nat.mul_comm]⟩ h1
  have cmx : Nat.Coprime m x := Nat.Coprime.coprime_dvd_right ⟨g, by rw [hx, Nat.mul_comm]⟩ h2
  have csy : Nat.Coprime s y := by
    unfold Nat.Coprime
    rw [hs, Nat.gcd_add_mul_right_left]
    exact Nat.Coprime.mul_left cny (Nat.Coprime.symm cyx)
  have csx : Nat.Coprime s x := by
    unfold Nat.Coprime
    rw [hs, Nat.add_comm, Nat.gcd_add_mul_right_left]
    exact Nat.Coprime.mul_left cmx cyx
  have e1 : Nat.gcd s (y * e) = c := by
    rw [Nat.Coprime.gcd_mul_left_cancel_right e (Nat.Coprime.symm csy), hx, Nat.Coprime.gcd_mul_right_cancel_right g (Nat.Coprime.symm csx), hc, Nat.gcd_comm s g, Nat.gcd_rec g s]
  have e2 : y * e = c * (y * (k * x)) := by rw [hx, hk]; grind
  refine ⟨?_, ?_⟩
  · rw [e2, hT, Nat.gcd_mul_left] at e1
    have : c * Nat.gcd T (y * (k * x)) = c * 1 := by omega
    exact Nat.eq_of_mul_eq_mul_left hc0 this
  · have e3 : n * e + m * d = g * s := by rw [hs, hy, hx]; grind
    rw [e3, hT, hy, hx, hk]
    grind
theorem nat_div {a b : Int} (ha : 0 ≤ a) (hb : 0 ≤ b) : (a / b).toNat = a.toNat / b.toNat := by
  obtain ⟨u, rfl⟩ := Int.eq_ofNat_of_zero_le ha
  obtain ⟨v, rfl⟩ := Int.eq_ofNat_of_zero_le hb
  rfl
/-- t / u is the sum, in lowest terms -/
def RSum (n d m e t u : Int) : Prop := 0 ≤ t ∧ 1 ≤ u ∧ gd t u = 1 ∧ t * (d * e) = (n * e + m * d) * u
theorem add_facts {n d m e g s c : Int} (h : RV n d) (k : RV m e) (hg : gd d e = g) (hs : n * (e / g) + m * (d / g) = s) (hc : gd (s % g) g = c) : 1 ≤ g ∧ 1 ≤ c ∧ c ≤ g ∧ 0 ≤ s ∧ RSum n d m e (s / c) (d / g * (e / c)) := by
  obtain ⟨⟨n0, _, d0, _⟩, h1⟩ := h
  obtain ⟨⟨m0, _, e0, _⟩, h2⟩ := k
  obtain ⟨N, rfl⟩ := Int.eq_ofNat_of_zero_le n0
  obtain ⟨D, rfl⟩ := Int.eq_ofNat_of_zero_le (show 0 ≤ d by omega)
  obtain ⟨M, rfl⟩ := Int.eq_ofNat_of_zero_le m0
  obtain ⟨E, rfl⟩ := Int.eq_ofNat_of_zero_le (show 0 ≤ e by omega)
  have hD : 0 < D := by omega
  have hE : 0 < E := by omega
  obtain ⟨G, hG⟩ : ∃ G : Nat, G = Nat.gcd D E := ⟨_, rfl⟩
  have hgG : g = (G : Int) := by rw [← hg, hG]; rfl
  subst hgG
  have hG0 : 0 < G := by rw [hG]; exact Nat.gcd_pos_of_pos_left _ hD
  obtain ⟨y, hy⟩ : G ∣ D := by rw [hG]; exact Nat.gcd_dvd_left _ _
  obtain ⟨x, hx⟩ : G ∣ E := by rw [hG]; exact Nat.gcd_dvd_right _ _
  have ex : (E : Int) / (G : Int) = (x : Int) := by rw [hx, Int.natCast_mul, Int.mul_ediv_cancel_left _ (by omega)]
  have ey : (D : Int) / (G : Int) = (y : Int) := by rw [hy, Int.natCast_mul, Int.mul_ediv_cancel_left _ (by omega)]
  rw [ex, ey] at hs
  rw [ey]
  obtain ⟨S, hS⟩ : ∃ S : Nat, S = N * x + M * y := ⟨_, rfl⟩
  have hsS : s = (S : Int) := by rw [← hs, hS]; simp
  subst hsS
  obtain ⟨C, hC⟩ : ∃ C : Nat, C = Nat.gcd (S % G) G := ⟨_, rfl⟩
  have hcC : c = (C : Int) := by
    rw [← hc, hC]
    unfold gd
    rw [show ((S : Int) % (G : Int)).toNat = S % G by rw [← Int.natCast_emod, Int.toNat_natCast], Int.toNat_natCast]
  subst hcC
  have hC0 : 0 < C := by rw [hC]; exact Nat.gcd_pos_of_pos_right _ hG0
  obtain ⟨q, hq⟩ : C ∣ G := by rw [hC]; exact Nat.gcd_dvd_right _ _
  obtain ⟨T, hT⟩ : C ∣ S := by
    have h1 : C ∣ S % G := by rw [hC]; exact Nat.gcd_dvd_left _ _
    exact (Nat.dvd_mod_iff ⟨q, hq⟩).1 h1
  have key := add_nat N D M E G x y S C q T hG hD hE (by unfold gd at h1; simp at h1; exact_mod_cast h1) (by unfold gd at h2; simp at h2; exact_mod_cast h2) hy hx hS hC hq hT
  have eT : (S : Int) / (C : Int) = (T : Int) := by rw [hT, Int.natCast_mul, Int.mul_ediv_cancel_left _ (by omega)]
  have eE : (E : Int) / (C : Int) = ((q * x : Nat) : Int) := by
    rw [hx, hq, Nat.mul_assoc, Int.natCast_mul, Int.mul_ediv_cancel_left _ (by omega)]
  rw [eT, eE]
  have hy0 : 0 < y := by rcases Nat.eq_zero_or_pos y with h | h
                         · rw [h] at hy; omega
                         · exact h
  have hq0 : 0 < q * x := by
    rcases Nat.eq_zero_or_pos (q * x) with h | h
    · have : E = C * (q * x) := by rw [hx, hq, Nat.mul_assoc]
      rw [h] at this; omega
    · exact h
  have hU : 0 < y * (q * x) := Nat.mul_pos hy0 hq0
  refine ⟨by omega, by omega, by have := Nat.le_of_dvd hG0 ⟨q, hq⟩; omega, by omega, by omega, ?_, ?_, ?_⟩
  · rw [← Int.natCast_mul]; omega
  · unfold gd
    rw [← Int.natCast_mul, Int.toNat_natCast, Int.toNat_natCast, key.1]
    rfl
  · have := congrArg (fun n : Nat => (n : Int)) key.2
    simpa using this
/-- what Add returns -/
noncomputable def radd (n d m e : Int) : Int × Int × Int :=
  if rv n d = true ∧ rv m e = true then
    (if (n * (e / gd d e) + m * (d / gd d e)) / gd ((n * (e / gd d e) + m * (d / gd d e)) % gd d e) (gd d e) ≤ 2305843009213693952 ∧ d / gd d e * (e / gd ((n * (e / gd d e) + m * (d / gd d e)) % gd d e) (gd d e)) ≤ 1152921504606846976 then
      ((n * (e / gd d e) + m * (d / gd d e)) / gd ((n * (e / gd d e) + m * (d / gd d e)) % gd d e) (gd d e), d / gd d e * (e / gd ((n * (e / gd d e) + m * (d / gd d e)) % gd d e) (gd d e)), 0) else (0, 0, 4))
  else (0, 0, 1)
theorem rsum_same {n d m e t u t' u' : Int} (hd : 1 ≤ d) (he : 1 ≤ e) (h : RSum n d m e t u) (k : RSum n d m e t' u') : t = t' ∧ u = u' := by
  obtain ⟨t0, u0, hg, h1⟩ := h
  obtain ⟨t0', u0', hg', h2⟩ := k
  have hde : 0 < d * e := Int.mul_pos (by omega) (by omega)
  have hx : t * u' = t' * u := by
    apply Int.eq_of_mul_eq_mul_right (show d * e ≠ 0 by omega)
    have a1 : t * u' * (d * e) = t * (d * e) * u' := by grind
    have a2 : t' * u * (d * e) = t' * (d * e) * u := by grind
    rw [a1, a2, h1, h2]
    grind
  obtain ⟨x, rfl⟩ := Int.eq_ofNat_of_zero_le t0
  obtain ⟨y, rfl⟩ := Int.eq_ofNat_of_zero_le (show 0 ≤ u by omega)
  obtain ⟨x', rfl⟩ := Int.eq_ofNat_of_zero_le t0'
  obtain ⟨y', rfl⟩ := Int.eq_ofNat_of_zero_le (show 0 ≤ u' by omega)
  have hn : x * y' = x' * y := by exact_mod_cast hx
  have g1 : Nat.gcd x y = 1 := by unfold gd at hg; simp at hg; exact_mod_cast hg
  have g2 : Nat.gcd x' y' = 1 := by unfold gd at hg'; simp at hg'; exact_mod_cast hg'
  have d1 : y ∣ y' := Nat.Coprime.dvd_of_dvd_mul_left (k := y) (m := x) (Nat.Coprime.symm g1) (by rw [hn]; exact Nat.dvd_mul_left _ _)
  have d2 : y' ∣ y := Nat.Coprime.dvd_of_dvd_mul_left (k := y') (m := x') (Nat.Coprime.symm g2) (by rw [← hn]; exact Nat.dvd_mul_left _ _)
  have hv : y = y' := Nat.dvd_antisymm d1 d2
  subst hv
  have : x = x' := Nat.eq_of_mul_eq_mul_right (by omega) hn
  exact ⟨by rw [this], rfl⟩
/-- what is known of what Add returns, for valid ratios -/
theorem radd_in {n d m e : Int} (h : RV n d) (k : RV m e) : ∃ t u, RSum n d m e t u ∧ radd n d m e = if t ≤ 2305843009213693952 ∧ u ≤ 1152921504606846976 then (t, u, 0) else (0, 0, 4) := by
  refine ⟨_, _, (add_facts h k rfl rfl rfl).2.2.2.2, ?_⟩
  unfold radd
  rw [if_pos ⟨rv_yes h, rv_yes k⟩]
theorem radd_out {n d m e : Int} (h : rv n d = false ∨ rv m e = false) : radd n d m e = (0, 0, 1) := by
  unfold radd
  rw [if_neg]
  rintro ⟨a, b⟩
  rcases h with h | h
  · rw [h] at a; cases a
  · rw [h] at b; cases b
theorem radd_comm {n d m e : Int} (h : RV n d) (k : RV m e) : radd m e n d = radd n d m e := by
  obtain ⟨t, u, h1, h2⟩ := radd_in h k
  obtain ⟨t', u', k1, k2⟩ := radd_in k h
  have : RSum n d m e t' u' := ⟨k1.1, k1.2.1, k1.2.2.1, by have := k1.2.2.2; rw [Int.mul_comm d e, this, Int.add_comm]⟩
  obtain ⟨rfl, rfl⟩ := rsum_same h.1.2.2.1 k.1.2.2.1 this h1
  rw [h2, k2]
theorem radd_zero {n d : Int} (h : RV n d) : radd n d 0 1 = (n, d, 0) := by
  obtain ⟨t, u, h1, h2⟩ := radd_in h (m := 0) (e := 1) ⟨⟨by omega, by omega, by omega, by omega⟩, by decide⟩
  have : RSum n d 0 1 n d := ⟨h.1.1, h.1.2.2.1, h.2, by grind⟩
  obtain ⟨rfl, rfl⟩ := rsum_same h.1.2.2.1 (by omega) h1 this
  rw [h2, if_pos ⟨h.1.2.1, h.1.2.2.2⟩]
/-- an answer without an error is the sum, and valid -/
theorem radd_ok {n d m e : Int} (h : (radd n d m e).2.2 = 0) : RV n d ∧ RV m e ∧ RV (radd n d m e).1 (radd n d m e).2.1 ∧ (radd n d m e).1 * (d * e) = (n * e + m * d) * (radd n d m e).2.1 := by
  rcases Classical.em (RV n d) with a | a
  · rcases Classical.em (RV m e) with b | b
    · obtain ⟨t, u, h1, h2⟩ := radd_in a b
      rw [h2] at h ⊢
      split at h
      · rename_i hl
        rw [if_pos hl]
        exact ⟨a, b, ⟨⟨h1.1, hl.1, h1.2.1, hl.2⟩, h1.2.2.1⟩, h1.2.2.2⟩
      · simp at h
    · rw [radd_out (.inr (rv_no b))] at h; simp at h
  · rw [radd_out (.inl (rv_no a))] at h; simp at h
theorem radd_bad {n d m e : Int} (h : (radd n d m e).2.2 ≠ 0) : (radd n d m e).1 = 0 ∧ (radd n d m e).2.1 = 0 := by
  rcases Classical.em (RV n d) with a | a
  · rcases Classical.em (RV m e) with b | b
    · obtain ⟨t, u, h1, h2⟩ := radd_in a b
      rw [h2] at h ⊢
      split at h
      · simp at h
      · rename_i hl
        rw [if_neg hl]; exact ⟨rfl, rfl⟩
    · rw [radd_out (.inr (rv_no b))]; exact ⟨rfl, rfl⟩
  · rw [radd_out (.inl (rv_no a))]; exact ⟨rfl, rfl⟩
/-- the sum is associative where it stays within the limits -/
theorem radd_assoc {an ad bn bd cn cd xn xd un ud vn vd wn wd : Int} (hx : RV xn xd) (hv : RV vn vd) (hu : RV un ud) (hw : RV wn wd) (ha : 1 ≤ ad) (hb : 1 ≤ bd) (hc : 1 ≤ cd)
    (e1 : xn * (ad * bd) = (an * bd + bn * ad) * xd) (e2 : un * (xd * cd) = (xn * cd + cn * xd) * ud) (e3 : vn * (bd * cd) = (bn * cd + cn * bd) * vd) (e4 : wn * (ad * vd) = (an * vd + vn * ad) * wd) : un = wn ∧ ud = wd := by
  refine rv_eq hu hw ?_
  have x1 := hx.1.2.2.1
  have v1 := hv.1.2.2.1
  -- un / ud = N / P and wn / wd = N / P, where P = ad * bd * cd
  have p1 : un * (ad * bd * cd) = (an * bd * cd + bn * ad * cd + cn * ad * bd) * ud := by
    apply Int.eq_of_mul_eq_mul_right (show xd ≠ 0 by omega)
    have a1 : un * (ad * bd * cd) * xd = un * (xd * cd) * (ad * bd) := by grind
    have a2 : (xn * cd + cn * xd) * ud * (ad * bd) = (xn * (ad * bd)) * cd * ud + cn * xd * ud * (ad * bd) := by grind
    rw [a1, e2, a2, e1]
    grind
  have p2 : wn * (ad * bd * cd) = (an * bd * cd + bn * ad * cd + cn * ad * bd) * wd := by
    apply Int.eq_of_mul_eq_mul_right (show vd ≠ 0 by omega)
    have a1 : wn * (ad * bd * cd) * vd = wn * (ad * vd) * (bd * cd) := by grind
    have a2 : (an * vd + vn * ad) * wd * (bd * cd) = an * vd * wd * (bd * cd) + (vn * (bd * cd)) * ad * wd := by grind
    rw [a1, e4, a2, e3]
    grind
  have hp : ad * bd * cd ≠ 0 := Int.mul_ne_zero (Int.mul_ne_zero (by omega) (by omega)) (by omega)
  apply Int.eq_of_mul_eq_mul_right hp
  have a1 : un * wd * (ad * bd * cd) = un * (ad * bd * cd) * wd := by grind
  have a2 : wn * ud * (ad * bd * cd) = wn * (ad * bd * cd) * ud := by grind
  rw [a1, a2, p1, p2]
  grind
/-- the sum keeps the order -/
theorem radd_order {an ad bn bd cn cd sn sd vn vd : Int} (ha : RV an ad) (hb : RV bn bd) (hc : 1 ≤ cd) (hs : RV sn sd) (hv : RV vn vd)
    (e1 : sn * (ad * cd) = (an * cd + cn * ad) * sd) (e2 : vn * (bd * cd) = (bn * cd + cn * bd) * vd) : rcmp sn sd vn vd = rcmp an ad bn bd := by
  rw [rcmp_in (rv_yes hs) (rv_yes hv), rcmp_in (rv_yes ha) (rv_yes hb)]
  have a1 := ha.1.2.2.1
  have b1 := hb.1.2.2.1
  have s1 := hs.1.2.2.1
  have v1 := hv.1.2.2.1
  -- sn * vd - vn * sd = (an * bd - bn * ad) * (sd * vd) / (ad * bd)
  have key : (sn * vd - vn * sd) * (ad * bd * cd) = (an * bd - bn * ad) * (sd * vd * cd) := by
    have p1 : (sn * vd - vn * sd) * (ad * bd * cd) = sn * (ad * cd) * (vd * bd) - vn * (bd * cd) * (sd * ad) := by grind
    rw [p1, e1, e2]
    grind
  have k1 : 0 < ad * bd * cd := Int.mul_pos (Int.mul_pos (by omega) (by omega)) (by omega)
  have k2 : 0 < sd * vd * cd := Int.mul_pos (Int.mul_pos (by omega) (by omega)) (by omega)
  have sg : ∀ {p q x y : Int}, 0 < x → 0 < y → p * x = q * y → (p < 0 ↔ q < 0) ∧ (0 < p ↔ 0 < q) := by
    intro p q x y hx hy h
    have n1 : ∀ {r z : Int}, 0 < z → (r < 0 → r * z < 0) ∧ (0 < r → 0 < r * z) ∧ (r = 0 → r * z = 0) := fun {r z} hz =>
      ⟨fun hr => Int.mul_neg_of_neg_of_pos hr hz, fun hr => Int.mul_pos hr hz, fun hr => by rw [hr]; simp⟩
    have m1 := n1 (r := p) hx
    have m2 := n1 (r := q) hy
    rcases Int.lt_trichotomy p 0 with a | a | a <;> rcases Int.lt_trichotomy q 0 with b | b | b <;> constructor <;> constructor <;> intro _ <;> first | omega | (have := m1.1 ‹_›; have := m2.1 ‹_›; omega) | (have := m1.1 a; have := m2.2.1 b; omega) | (have := m1.1 a; have := m2.2.2 b; omega) | (have := m1.2.1 a; have := m2.1 b; omega) | (have := m1.2.1 a; have := m2.2.2 b; omega) | (have := m1.2.2 a; have := m2.1 b; omega) | (have := m1.2.2 a; have := m2.2.1 b; omega)
  obtain ⟨h1, h2⟩ := sg k1 k2 key
  unfold cmpI
  rcases Int.lt_trichotomy (an * bd) (bn * ad) with h | h | h
  · rw [if_pos h, if_pos (by omega)]
  · rw [if_neg (by omega), if_neg (by omega), if_neg (by omega), if_neg (by omega)]
  · rw [if_neg (by omega), if_pos (by omega), if_neg (by omega), if_pos h]
/-- a sum is not less than its first part -/
theorem radd_ge {an ad bn bd xn xd : Int} (ha : RV an ad) (hb : RV bn bd) (hx : RV xn xd) (e1 : xn * (ad * bd) = (an * bd + bn * ad) * xd) : decide (rcmp xn xd an ad < 0) = false := by
  rw [rcmp_in (rv_yes hx) (rv_yes ha)]
  refine cmpI_ge ?_
  have a1 := ha.1.2.2.1
  have b0 := hb.1.1
  have b1 := hb.1.2.2.1
  have x1 := hx.1.2.2.1
  apply Int.le_of_mul_le_mul_right (a := bd) _ (by omega)
  have p1 : xn * ad * bd = xn * (ad * bd) := by grind
  have p2 : 0 ≤ bn * ad * xd := Int.mul_nonneg (Int.mul_nonneg b0 (by omega)) (by omega)
  rw [p1, e1]
  have p3 : (an * bd + bn * ad) * xd = an * xd * bd + bn * ad * xd := by grind
  omega
end Go.Proofs.YtpbnabibnkohdaaGreatDoor.Ra
namespace Go.Proofs.YtpbnabibnkohdaaGreatDoor.Wi
open Ra
set_option linter.unusedVariables false
/-- where piece p begins -/
def st (m n p : Nat) : Nat := p * m / n
theorem st_zero (m n : Nat) : st m n 0 = 0 := by simp [st]
theorem st_all (m n : Nat) (hn : 0 < n) : st m n n = m := by unfold st; exact Nat.mul_div_cancel_left m hn
theorem st_step (m n p : Nat) (hn : 0 < n) : st m n p + m / n ≤ st m n (p + 1) ∧ st m n (p + 1) ≤ st m n p + m / n + 1 := by
  unfold st
  have e : (p + 1) * m = p * m + m := by rw [Nat.add_mul, Nat.one_mul]
  rw [e]
  have h1 := Nat.div_add_mod (p * m) n
  have h2 := Nat.div_add_mod m n
  have h3 := Nat.div_add_mod (p * m + m) n
  have l1 := Nat.mod_lt (p * m) hn
  have l2 := Nat.mod_lt m hn
  have l3 := Nat.mod_lt (p * m + m) hn
  obtain ⟨a, ha⟩ : ∃ a, p * m / n = a := ⟨_, rfl⟩
  obtain ⟨b, hb⟩ : ∃ a, m / n = a := ⟨_, rfl⟩
  obtain ⟨c, hc⟩ : ∃ a, (p * m + m) / n = a := ⟨_, rfl⟩
  rw [ha] at h1 ⊢
  rw [hb] at h2 ⊢
  rw [hc] at h3 ⊢
  constructor
  · rcases Nat.lt_or_ge c (a + b) with h | h
    · have : n * (c + 1) ≤ n * (a + b) := Nat.mul_le_mul_left n h
      rw [Nat.mul_add, Nat.mul_add, Nat.mul_one] at this
      omega
    · exact h
  · rcases Nat.lt_or_ge (a + b + 1) c with h | h
    · have : n * (a + b + 2) ≤ n * c := Nat.mul_le_mul_left n h
      rw [Nat.mul_add, Nat.mul_add] at this
      omega
    · exact h
theorem st_mono (m n p q : Nat) (h : p ≤ q) : st m n p ≤ st m n q := Nat.div_le_div_right (Nat.mul_le_mul_right m h)
theorem st_le (m n p : Nat) (hn : 0 < n) (h : p ≤ n) : st m n p ≤ m := by
  have := st_mono m n p n h
  rwa [st_all m n hn] at this
/-- the sum of the numbers from one place to the one before another one -/
def pg (X : List Int) (a b : Nat) : Int := su id ((X.drop a).take (b - a))
/-- the sum of the first numbers -/
def pre (X : List Int) (t : Nat) : Int := su id (X.take t)
theorem su_app (f : Int → Int) (A B : List Int) : su f (A ++ B) = su f A + su f B := by
  induction A with
  | nil => simp [su]
  | cons a A ih => simp only [List.cons_append, su, ih]; omega
theorem pg_pre (X : List Int) (a b : Nat) (h : a ≤ b) : pg X a b = pre X b - pre X a := by
  unfold pg pre
  have e : X.take b = X.take a ++ (X.drop a).take (b - a) := by
    rw [← List.take_add, show a + (b - a) = b by omega]
  rw [e, su_app]
  omega
/-- the sums of the pieces -/
def pls (X : List Int) (m n : Nat) : List Int := (List.range n).map fun p => pg X (st m n p) (st m n (p + 1))
theorem pls_len (X : List Int) (m n : Nat) : (pls X m n).length = n := by simp [pls]
theorem pls_at (X : List Int) (m n p : Nat) (h : p < n) : (pls X m n).getD p 0 = pg X (st m n p) (st m n (p + 1)) := by
  rw [List.getD_eq_getElem?_getD, pls, List.getElem?_map, List.getElem?_range h]; rfl
theorem pls_take (X : List Int) (m n p : Nat) (h : p ≤ n) : (pls X m n).take p = (List.range p).map fun p => pg X (st m n p) (st m n (p + 1)) := by
  unfold pls
  rw [← List.map_take, List.take_range, Nat.min_eq_left h]
theorem pg_bd {X : List Int} {B : Int} (h : ∀ x ∈ X, -B ≤ x ∧ x ≤ B) (hB : 0 ≤ B) (a b : Nat) : -(B * ((b - a : Nat) : Int)) ≤ pg X a b ∧ pg X a b ≤ B * ((b - a : Nat) : Int) := by
  have key : ∀ (L : List Int), (∀ x ∈ L, -B ≤ x ∧ x ≤ B) → -(B * (L.length : Int)) ≤ su id L ∧ su id L ≤ B * (L.length : Int) := by
    intro L
    induction L with
    | nil => intro _; simp [su]
    | cons x L ih =>
      intro h
      have h1 := h x (List.mem_cons_self ..)
      have h2 := ih (fun y hy => h y (List.mem_cons_of_mem _ hy))
      simp only [su, id, List.length_cons]
      have e : B * ((L.length + 1 : Nat) : Int) = B * (L.length : Int) + B := by rw [show ((L.length + 1 : Nat) : Int) = (L.length : Int) + 1 by omega, Int.mul_add, Int.mul_one]
      rw [e]
      omega
  have h1 := key ((X.drop a).take (b - a)) (fun x hx => h x (List.mem_of_mem_drop (List.mem_of_mem_take hx)))
  have h2 : (((X.drop a).take (b - a)).length : Int) ≤ ((b - a : Nat) : Int) := by
    have := List.length_take_le (b - a) (X.drop a)
    omega
  have h3 : B * (((X.drop a).take (b - a)).length : Int) ≤ B * ((b - a : Nat) : Int) := Int.mul_le_mul_of_nonneg_left h2 hB
  unfold pg
  omega
/-- a ratio has the value T / C -/
def Vl (n d T C : Int) : Prop := RV n d ∧ n * C = T * d
theorem vl_zero (C : Int) : Vl 0 1 0 C := ⟨⟨⟨by decide, by decide, by decide, by decide⟩, by decide⟩, by omega⟩
theorem vl_scale {n d T C k : Int} (h : Vl n d T C) : Vl n d (T * k) (C * k) := ⟨h.1, by rw [← Int.mul_assoc, h.2, Int.mul_right_comm]⟩
theorem vl_eq {n d m e T C : Int} (hC : 1 ≤ C) (h : Vl n d T C) (k : Vl m e T C) : n = m ∧ d = e := by
  refine rv_eq h.1 k.1 ?_
  have h1 : n * e * C = m * d * C := by
    rw [Int.mul_right_comm, h.2, Int.mul_right_comm m d C, k.2, Int.mul_assoc, Int.mul_assoc, Int.mul_comm d e]
  exact Int.eq_of_mul_eq_mul_right (by omega) h1
theorem dvd_of_cop {t u C S : Int} (ht : 0 ≤ t) (hu : 1 ≤ u) (hC : 1 ≤ C) (hS : 0 ≤ S) (hg : gd t u = 1) (h : t * C = S * u) : u ≤ C ∧ t ≤ S := by
  obtain ⟨a, rfl⟩ := Int.eq_ofNat_of_zero_le ht
  obtain ⟨b, rfl⟩ := Int.eq_ofNat_of_zero_le (show 0 ≤ u by omega)
  obtain ⟨c, rfl⟩ := Int.eq_ofNat_of_zero_le (show 0 ≤ C by omega)
  obtain ⟨s, rfl⟩ := Int.eq_ofNat_of_zero_le hS
  have hg' : Nat.gcd a b = 1 := by
    unfold gd at hg
    simp only [Int.toNat_natCast] at hg
    omega
  have h' : a * c = s * b := by
    have : ((a * c : Nat) : Int) = ((s * b : Nat) : Int) := by rw [Int.natCast_mul, Int.natCast_mul]; exact h
    omega
  have d1 : b ∣ a * c := ⟨s, by rw [h', Nat.mul_comm]⟩
  have d2 : b ∣ c := Nat.Coprime.dvd_of_dvd_mul_left (show Nat.Coprime b a by rw [Nat.coprime_comm]; exact hg') d1
  have l1 : b ≤ c := Nat.le_of_dvd (by omega) d2
  have l2 : a * c ≤ s * c := by rw [h']; exact Nat.mul_le_mul_left s l1
  have l3 : a ≤ s := Nat.le_of_mul_le_mul_right l2 (by omega)
  omega
theorem vl_add {n d m e t u T T' C : Int} (h : Vl n d T C) (k : Vl m e T' C) (hr : RSum n d m e t u) (hC : 1 ≤ C) (hC2 : C ≤ 1152921504606846976) (hT : 0 ≤ T) (hT' : 0 ≤ T') (hT2 : T + T' ≤ 2305843009213693952) : Vl t u (T + T') C := by
  obtain ⟨t0, u1, g, e1⟩ := hr
  have d1 := h.1.1.2.2.1
  have e1' := k.1.1.2.2.1
  have hde : 0 < d * e := Int.mul_pos (by omega) (by omega)
  have key : t * C = (T + T') * u := by
    have : t * C * (d * e) = (T + T') * u * (d * e) := by
      calc t * C * (d * e) = t * (d * e) * C := Int.mul_right_comm ..
        _ = (n * e + m * d) * u * C := by rw [e1]
        _ = (n * C * e + m * C * d) * u := by grind
        _ = (T * d * e + T' * e * d) * u := by rw [h.2, k.2]
        _ = (T + T') * u * (d * e) := by grind
    exact Int.eq_of_mul_eq_mul_right (by omega) this
  have hb := dvd_of_cop t0 u1 hC (by omega) g key
  exact ⟨⟨⟨t0, by omega, u1, by omega⟩, g⟩, key⟩
theorem vl_make {n d : Int} (h0 : 0 ≤ n) (h1 : 1 ≤ d) (h2 : n ≤ 2305843009213693952) (h3 : d ≤ 1152921504606846976) : Vl (n / gd n d) (d / gd n d) n d := by
  have hm := make_facts h0 h1 h2 h3
  have g1 := gd_dvd_left (b := d) h0
  have g2 := gd_dvd_right (a := n) (show 0 ≤ d by omega)
  have gp := gd_pos (a := n) (show 0 < d by omega)
  refine ⟨mok_rv ⟨h0, h1, ?_⟩, ?_⟩
  · have a1 := Int.ediv_nonneg h0 (gd_nonneg n d)
    have a2 := Int.ediv_le_self (gd n d) h0
    have a3 := Int.ediv_le_self (gd n d) (show 0 ≤ d by omega)
    have a4 : 1 ≤ d / gd n d := Int.le_ediv_of_mul_le (by omega) (by have := gd_le_right (a := n) (show 0 < d by omega); omega)
    exact ⟨a1, by omega, a4, by omega⟩
  · have e1 := quot_mul g1
    have e2 := quot_mul g2
    calc n / gd n d * d = n / gd n d * (d / gd n d * gd n d) := by rw [e2]
      _ = n / gd n d * gd n d * (d / gd n d) := by grind
      _ = n * (d / gd n d) := by rw [e1]
theorem vl_le {n d m e T S C : Int} (hC : 1 ≤ C) (h : Vl n d T C) (k : Vl m e S C) : n * e ≤ m * d ↔ T ≤ S := by
  have d1 := h.1.1.2.2.1
  have e1 := k.1.1.2.2.1
  have hde : 0 < d * e := Int.mul_pos (by omega) (by omega)
  have a1 : n * e * C = T * (d * e) := by rw [Int.mul_right_comm, h.2, Int.mul_assoc]
  have a2 : m * d * C = S * (d * e) := by rw [Int.mul_right_comm, k.2, Int.mul_assoc, Int.mul_comm e d]
  constructor
  · intro hh
    have := Int.mul_le_mul_of_nonneg_right hh (show 0 ≤ C by omega)
    rw [a1, a2] at this
    exact Int.le_of_mul_le_mul_right this hde
  · intro hh
    have := Int.mul_le_mul_of_nonneg_right hh (Int.le_of_lt hde)
    rw [← a1, ← a2] at this
    exact Int.le_of_mul_le_mul_right this (by omega)
/-- sums over the first places -/
def tq (f : Nat → Int) : Nat → Int
  | 0 => 0
  | i + 1 => tq f i + f i
theorem tq_nn {f : Nat → Int} {n : Nat} (h : ∀ i, i < n → 0 ≤ f i) : ∀ i, i ≤ n → 0 ≤ tq f i := by
  intro i
  induction i with
  | zero => intro _; exact Int.le_refl _
  | succ i ih => intro hi; have := ih (by omega); have := h i (by omega); show 0 ≤ tq f i + f i; omega
theorem tq_hi {f : Nat → Int} {n : Nat} {B : Int} (h : ∀ i, i < n → f i ≤ B) : ∀ i, i ≤ n → tq f i ≤ B * (i : Int) := by
  intro i
  induction i with
  | zero => intro _; simp [tq]
  | succ i ih =>
    intro hi
    have h1 := ih (by omega)
    have h2 := h i (by omega)
    have e : B * ((i + 1 : Nat) : Int) = B * (i : Int) + B := by rw [show ((i + 1 : Nat) : Int) = (i : Int) + 1 by omega, Int.mul_add, Int.mul_one]
    show tq f i + f i ≤ _
    rw [e]
    omega
theorem tq_cong {f g : Nat → Int} {n : Nat} (h : ∀ i, i < n → f i = g i) : ∀ i, i ≤ n → tq f i = tq g i := by
  intro i
  induction i with
  | zero => intro _; rfl
  | succ i ih => intro hi; show tq f i + f i = tq g i + g i; rw [ih (by omega), h i (by omega)]
/-- what a length lacks to the common one -/
def wq (l : Nat) (k : Nat) : Int := if k = l then (l : Int) + 1 else (l : Int)
theorem wq_mul {l k : Nat} (h1 : l ≤ k) (h2 : k ≤ l + 1) : (k : Int) * wq l k = (l : Int) * ((l : Int) + 1) := by
  unfold wq
  split
  · rename_i e; rw [e]
  · rename_i e
    obtain rfl : k = l + 1 := by omega
    rw [show ((l + 1 : Nat) : Int) = (l : Int) + 1 by omega, Int.mul_comm]
theorem den_dvd {n d T C : Int} (h : Vl n d T C) (hC : 1 ≤ C) : d.toNat ∣ C.toNat := by
  obtain ⟨⟨⟨n0, _, d1, _⟩, g⟩, e⟩ := h
  obtain ⟨a, rfl⟩ := Int.eq_ofNat_of_zero_le n0
  obtain ⟨b, rfl⟩ := Int.eq_ofNat_of_zero_le (show 0 ≤ d by omega)
  obtain ⟨c, rfl⟩ := Int.eq_ofNat_of_zero_le (show 0 ≤ C by omega)
  have hT : 0 ≤ T := by
    have h1 : 0 ≤ T * (b : Int) := by rw [← e]; exact Int.mul_nonneg n0 (by omega)
    exact Int.nonneg_of_mul_nonneg_left h1 (by omega)
  obtain ⟨s, rfl⟩ := Int.eq_ofNat_of_zero_le hT
  have hg' : Nat.gcd a b = 1 := by
    unfold gd at g
    simp only [Int.toNat_natCast] at g
    omega
  have h' : a * c = s * b := by
    have : ((a * c : Nat) : Int) = ((s * b : Nat) : Int) := by rw [Int.natCast_mul, Int.natCast_mul]; exact e
    omega
  simp only [Int.toNat_natCast]
  exact Nat.Coprime.dvd_of_dvd_mul_left (show Nat.Coprime b a by rw [Nat.coprime_comm]; exact hg') ⟨s, by rw [h', Nat.mul_comm]⟩
/-- the sum of two fractions before it is cancelled is small -/
theorem sum_small {n d m e T T' C g s : Int} (h : Vl n d T C) (k : Vl m e T' C) (hC : 1 ≤ C) (hT : 0 ≤ T + T') (hg : gd d e = g) (hs : n * (e / g) + m * (d / g) = s) : s ≤ T + T' := by
  have a1 := den_dvd h hC
  have a2 := den_dvd k hC
  have d1 := h.1.1.2.2.1
  have e1 := k.1.1.2.2.1
  have g1 : 1 ≤ g := by rw [← hg]; exact gd_pos (by omega)
  have q1 : d / g * g = d := by rw [← hg]; exact quot_mul (gd_dvd_left (by omega))
  have q2 : e / g * g = e := by rw [← hg]; exact quot_mul (gd_dvd_right (by omega))
  obtain ⟨x, hx⟩ : ∃ x, d / g = x := ⟨_, rfl⟩
  obtain ⟨y, hy⟩ : ∃ x, e / g = x := ⟨_, rfl⟩
  rw [hx] at q1 hs
  rw [hy] at q2 hs
  have x1 : 1 ≤ x := by
    rcases Int.lt_or_le x 1 with hh | hh
    · have : x * g ≤ 0 := Int.mul_nonpos_of_nonpos_of_nonneg (by omega) (by omega)
      omega
    · exact hh
  have y1 : 1 ≤ y := by
    rcases Int.lt_or_le y 1 with hh | hh
    · have : y * g ≤ 0 := Int.mul_nonpos_of_nonpos_of_nonneg (by omega) (by omega)
      omega
    · exact hh
  -- the least common multiple divides C
  have hl : (x * e).toNat ∣ C.toNat := by
    have hlcm := Nat.lcm_dvd a1 a2
    have e2 : Nat.lcm d.toNat e.toNat = (x * e).toNat := by
      unfold Nat.lcm
      have hgn : (Nat.gcd d.toNat e.toNat : Int) = g := hg
      have : (d.toNat * e.toNat : Nat) = (x * e).toNat * Nat.gcd d.toNat e.toNat := by
        have h1 : ((d.toNat * e.toNat : Nat) : Int) = ((x * e).toNat * Nat.gcd d.toNat e.toNat : Nat) := by
          rw [Int.natCast_mul, Int.natCast_mul, hgn, Int.toNat_of_nonneg (by omega), Int.toNat_of_nonneg (by omega), Int.toNat_of_nonneg (Int.mul_nonneg (by omega) (by omega)), ← q1]
          grind
        omega
      rw [this, Nat.mul_div_cancel _ (Nat.gcd_pos_of_pos_left _ (by omega))]
    rwa [e2] at hlcm
  have hle : x * e ≤ C := by
    have h1 := Nat.le_of_dvd (by omega) hl
    have h2 : 0 ≤ x * e := Int.mul_nonneg (by omega) (by omega)
    omega
  -- s C = (T + T') x e
  have key : s * C = (T + T') * (x * e) := by
    have : s * C * g = (T + T') * (x * e) * g := by
      calc s * C * g = (n * (y * g) + m * (x * g)) * C := by rw [← hs]; grind
        _ = (n * C) * e + (m * C) * d := by rw [q1, q2]; grind
        _ = (T * d) * e + (T' * e) * d := by rw [h.2, k.2]
        _ = (T + T') * (d * e) := by grind
        _ = (T + T') * (x * e) * g := by rw [← q1]; grind
    exact Int.eq_of_mul_eq_mul_right (by omega) this
  have h1 : (T + T') * (x * e) ≤ (T + T') * C := Int.mul_le_mul_of_nonneg_left hle hT
  rw [← key] at h1
  exact Int.le_of_mul_le_mul_right h1 (by omega)
end Go.Proofs.YtpbnabibnkohdaaGreatDoor.Wi
namespace Go.Proofs.YtpbnabibnkohdaaGreatDoor.Wi
open Ra
set_option linter.unusedVariables false
theorem su_ix (L : List Int) : su id L = su ix L := by
  induction L with
  | nil => rfl
  | cons a L ih => simp only [su, ih, id, ix]
theorem su_df (X Y : List Int) (h : X.length = Y.length) : su id (df X Y) = su id X - su id Y := by
  induction X generalizing Y with
  | nil => rcases Y with _ | ⟨y, Y⟩; rfl; simp at h
  | cons x X ih =>
    rcases Y with _ | ⟨y, Y⟩
    · simp at h
    · have := ih Y (by simpa using h)
      show (x - y) + su id (df X Y) = (x + su id X) - (y + su id Y)
      rw [this]
      omega
theorem pg_df (X Y : List Int) (h : X.length = Y.length) (a b : Nat) : pg X a b - pg Y a b = pg (df X Y) a b := by
  unfold pg
  rw [← df_drop, ← df_take, su_df]
  simp [h]
/-- the bound by pieces of a row of differences -/
def bq (D : List Int) (m n : Nat) : Int := tq (fun k => pg D (st m n k) (st m n (k + 1)) * pg D (st m n k) (st m n (k + 1)) * wq (m / n) (st m n (k + 1) - st m n k)) n
/-- what the bounds of a number of pieces are divided by -/
def cq (m n : Nat) : Int := ((m / n : Nat) : Int) * (((m / n : Nat) : Int) + 1)
theorem cq_in (m n : Nat) (n1 : 1 ≤ n) (nm : n ≤ m) (m32 : m ≤ 32) : 1 ≤ cq m n ∧ cq m n ≤ 1056 := by
  unfold cq
  have h1 : 1 ≤ m / n := Nat.div_pos nm n1
  have h2 : m / n ≤ m := Nat.div_le_self m n
  have a : ((m / n : Nat) : Int) * (((m / n : Nat) : Int) + 1) ≤ 32 * 33 := Int.mul_le_mul (by omega) (by omega) (by omega) (by omega)
  have b : 1 * 1 ≤ ((m / n : Nat) : Int) * (((m / n : Nat) : Int) + 1) := Int.mul_le_mul (by omega) (by omega) (by omega) (by omega)
  omega
theorem sz (m n k : Nat) (n1 : 1 ≤ n) : st m n k + m / n ≤ st m n (k + 1) ∧ st m n (k + 1) ≤ st m n k + m / n + 1 := st_step m n k n1
theorem sz_mul (m n k : Nat) (n1 : 1 ≤ n) : ((st m n (k + 1) - st m n k : Nat) : Int) * wq (m / n) (st m n (k + 1) - st m n k) = cq m n := by
  have h := sz m n k n1
  obtain ⟨a, ha⟩ : ∃ a, st m n k = a := ⟨_, rfl⟩
  obtain ⟨b, hb⟩ : ∃ a, st m n (k + 1) = a := ⟨_, rfl⟩
  obtain ⟨c, hc⟩ : ∃ a, m / n = a := ⟨_, rfl⟩
  unfold cq
  rw [ha, hb, hc] at h
  rw [ha, hb, hc]
  exact wq_mul (by omega) (by omega)
theorem wq_nn (l k : Nat) : 0 ≤ wq l k := by unfold wq; split <;> omega
theorem pg_cs (D : List Int) (a b : Nat) (hab : a ≤ b) (hb : b ≤ D.length) : pg D a b * pg D a b ≤ ((b - a : Nat) : Int) * su sq ((D.drop a).take (b - a)) := by
  have h := vr_nn ((D.drop a).take (b - a))
  unfold vr at h
  have hl : ((D.drop a).take (b - a)).length = b - a := by simp; omega
  rw [hl, ← su_ix] at h
  unfold pg
  omega
/-- the squares of the first numbers -/
def psq (D : List Int) (t : Nat) : Int := su sq (D.take t)
theorem psq_part (D : List Int) (a b : Nat) (h : a ≤ b) : su sq ((D.drop a).take (b - a)) = psq D b - psq D a := by
  unfold psq
  have e : D.take b = D.take a ++ (D.drop a).take (b - a) := by rw [← List.take_add, show a + (b - a) = b by omega]
  rw [e, su_append]
  omega
theorem tq_tel (f : Nat → Int) (n : Nat) : tq (fun k => f (k + 1) - f k) n = f n - f 0 := by
  induction n with
  | zero => simp [tq]
  | succ n ih => show tq (fun k => f (k + 1) - f k) n + (f (n + 1) - f n) = _; rw [ih]; omega
theorem tq_le {f g : Nat → Int} {n : Nat} (h : ∀ i, i < n → f i ≤ g i) : ∀ i, i ≤ n → tq f i ≤ tq g i := by
  intro i
  induction i with
  | zero => intro _; exact Int.le_refl _
  | succ i ih => intro hi; have h1 := ih (by omega); have h2 := h i (by omega); show tq f i + f i ≤ tq g i + g i; omega
theorem tq_mul (c : Int) (f : Nat → Int) (n : Nat) : tq (fun k => c * f k) n = c * tq f n := by
  induction n with
  | zero => simp [tq]
  | succ n ih => show tq (fun k => c * f k) n + c * f n = c * (tq f n + f n); rw [ih, Int.mul_add]
theorem tq_add (f g : Nat → Int) (n : Nat) : tq (fun k => f k + g k) n = tq f n + tq g n := by
  induction n with
  | zero => simp [tq]
  | succ n ih => show tq (fun k => f k + g k) n + (f n + g n) = (tq f n + f n) + (tq g n + g n); rw [ih]; omega
/-- the bound of pieces is at most the sum of the squares -/
theorem bq_le (D : List Int) (m n : Nat) (hD : D.length = m) (n1 : 1 ≤ n) : bq D m n ≤ su sq D * cq m n := by
  have key : bq D m n ≤ tq (fun k => cq m n * (psq D (st m n (k + 1)) - psq D (st m n k))) n := by
    unfold bq
    refine tq_le (n := n) (fun k hk => ?_) n (Nat.le_refl n)
    have h1 := pg_cs D (st m n k) (st m n (k + 1)) (st_mono m n _ _ (by omega)) (by rw [hD]; exact st_le m n _ (by omega) (by omega))
    rw [psq_part D _ _ (st_mono m n _ _ (by omega))] at h1
    have h2 := Int.mul_le_mul_of_nonneg_right h1 (wq_nn (m / n) (st m n (k + 1) - st m n k))
    have h3 := sz_mul m n k n1
    refine Int.le_trans h2 ?_
    rw [← h3, Int.mul_right_comm]
    exact Int.le_refl _
  have e := tq_tel (fun k => psq D (st m n k)) n
  have e2 : psq D (st m n n) = su sq D := by rw [st_all m n n1]; unfold psq; rw [List.take_of_length_le (by omega)]
  have e3 : psq D (st m n 0) = 0 := by rw [st_zero]; rfl
  rw [tq_mul, e, e2, e3, Int.sub_zero, Int.mul_comm] at key
  exact key
theorem bq_nn (D : List Int) (m n : Nat) : 0 ≤ bq D m n := by
  unfold bq
  exact tq_nn (n := n) (fun k _ => Int.mul_nonneg (sq_nn _) (wq_nn _ _)) n (Nat.le_refl n)
/-- numbers times a number, shifted -/
theorem pg_af (s t : Int) (D : List Int) (a b : Nat) (hab : a ≤ b) (hb : b ≤ D.length) : pg (af s t D) a b = s * pg D a b + ((b - a : Nat) : Int) * t := by
  have e : ((af s t D).drop a).take (b - a) = af s t ((D.drop a).take (b - a)) := by simp [af, List.map_take, List.map_drop]
  unfold pg
  rw [e, su_ix, su_ix, af_su]
  have hl : ((D.drop a).take (b - a)).length = b - a := by simp; omega
  rw [hl]
theorem df_af (s t u : Int) (X Y : List Int) : df (af s t X) (af s u Y) = af s (t - u) (df X Y) := by
  induction X generalizing Y with
  | nil => rfl
  | cons x X ih =>
    rcases Y with _ | ⟨y, Y⟩
    · rfl
    · have := ih Y
      show ((x * s + t) - (y * s + u)) :: df (af s t X) (af s u Y) = ((x - y) * s + (t - u)) :: af s (t - u) (df X Y)
      rw [this]
      congr 1
      grind
theorem df_cen (X Y : List Int) (h : X.length = Y.length) : df (cen X) (cen Y) = cen (df X Y) := by
  unfold cen
  rw [← h, df_af, df_len h]
  congr 1
  have := su_df X Y h
  rw [su_ix, su_ix, su_ix] at this
  omega
/-- the centred bound -/
theorem bq_cen (D : List Int) (m n : Nat) (hD : D.length = m) (n1 : 1 ≤ n) : bq (cen D) m n = (m : Int) * (m : Int) * bq D m n - (m : Int) * cq m n * (su ix D * su ix D) := by
  obtain ⟨S, hS⟩ : ∃ S, su ix D = S := ⟨_, rfl⟩
  obtain ⟨C, hC⟩ : ∃ C, cq m n = C := ⟨_, rfl⟩
  have key : bq (cen D) m n = tq (fun k => ((m : Int) * (m : Int) * (pg D (st m n k) (st m n (k + 1)) * pg D (st m n k) (st m n (k + 1)) * wq (m / n) (st m n (k + 1) - st m n k)) + (-(2 * (m : Int) * S * C)) * (pre D (st m n (k + 1)) - pre D (st m n k))) + (S * S * C) * (((st m n (k + 1) : Nat) : Int) - ((st m n k : Nat) : Int))) n := by
    unfold bq
    refine tq_cong (n := n) (fun k hk => ?_) n (Nat.le_refl n)
    have hab := st_mono m n k (k + 1) (by omega)
    have e1 : pg (cen D) (st m n k) (st m n (k + 1)) = (m : Int) * pg D (st m n k) (st m n (k + 1)) + ((st m n (k + 1) - st m n k : Nat) : Int) * (-S) := by
      unfold cen
      rw [pg_af _ _ _ _ _ hab (by rw [hD]; exact st_le m n _ (by omega) (by omega)), hD, hS]
    have e2 := sz_mul m n k n1
    have e3 := pg_pre D _ _ hab
    have e4 : ((st m n (k + 1) : Nat) : Int) - ((st m n k : Nat) : Int) = ((st m n (k + 1) - st m n k : Nat) : Int) := by omega
    show pg (cen D) (st m n k) (st m n (k + 1)) * pg (cen D) (st m n k) (st m n (k + 1)) * wq (m / n) (st m n (k + 1) - st m n k) = _
    rw [e1, ← e3, e4]
    rw [hC] at e2
    obtain ⟨z, hz⟩ : ∃ z, ((st m n (k + 1) - st m n k : Nat) : Int) = z := ⟨_, rfl⟩
    obtain ⟨y, hy⟩ : ∃ z, wq (m / n) (st m n (k + 1) - st m n k) = z := ⟨_, rfl⟩
    obtain ⟨p, hp⟩ : ∃ z, pg D (st m n k) (st m n (k + 1)) = z := ⟨_, rfl⟩
    rw [hz, hy] at e2
    rw [hz, hy, hp, ← e2]
    grind
  rw [key, tq_add, tq_add, tq_mul, tq_mul, tq_mul, tq_tel (fun k => pre D (st m n k)), tq_tel (fun k => ((st m n k : Nat) : Int)), st_all m n n1, st_zero]
  have e5 : pre D m = S := by unfold pre; rw [List.take_of_length_le (by omega), su_ix, hS]
  have e6 : pre D 0 = 0 := rfl
  rw [e5, e6]
  rw [hC, hS]
  unfold bq
  obtain ⟨Q, hQ⟩ : ∃ Q, tq (fun k => pg D (st m n k) (st m n (k + 1)) * pg D (st m n k) (st m n (k + 1)) * wq (m / n) (st m n (k + 1) - st m n k)) n = Q := ⟨_, rfl⟩
  rw [hQ]
  simp only [Int.natCast_zero, Int.sub_zero]
  grind
theorem cen_sq (D : List Int) : su sq (cen D) = (D.length : Int) * vr D := by
  rw [← dot_self, cen_dot rfl, pr_self]
theorem cen_len' (D : List Int) : (cen D).length = D.length := by unfold cen; rw [af_len]
/-- with as many pieces as numbers -/
theorem bq_all (D : List Int) (m : Nat) (hD : D.length = m) (m1 : 1 ≤ m) : bq D m m = su sq D * 2 ∧ cq m m = 2 := by
  have e0 : ∀ k, st m m k = k := fun k => by unfold st; exact Nat.mul_div_cancel k m1
  have e1 : m / m = 1 := Nat.div_self m1
  refine ⟨?_, by unfold cq; rw [e1]; rfl⟩
  have key : bq D m m = tq (fun k => 2 * (psq D (k + 1) - psq D k)) m := by
    unfold bq
    refine tq_cong (n := m) (fun k hk => ?_) m (Nat.le_refl m)
    rw [e0, e0, e1, show k + 1 - k = 1 by omega]
    have h1 : pg D k (k + 1) = D.getD k 0 := by
      rw [pg_pre D k (k + 1) (by omega)]
      unfold pre
      rw [su_next id D k (by omega)]
      show su id (D.take k) + D.getD k 0 - su id (D.take k) = _
      omega
    have h2 : psq D (k + 1) - psq D k = D.getD k 0 * D.getD k 0 := by
      unfold psq
      rw [su_next sq D k (by omega)]
      show su sq (D.take k) + D.getD k 0 * D.getD k 0 - su sq (D.take k) = _
      omega
    rw [h1, h2, show wq 1 1 = 2 from rfl]
    omega
  rw [key, tq_mul, tq_tel (fun k => psq D k)]
  have e2 : psq D m = su sq D := by unfold psq; rw [List.take_of_length_le (by omega)]
  have e3 : psq D 0 = 0 := rfl
  rw [e2, e3]
  omega
theorem tq_two (f : Nat → Int) (n : Nat) : tq f (2 * n) = tq (fun k => f (2 * k) + f (2 * k + 1)) n := by
  induction n with
  | zero => rfl
  | succ n ih =>
    show tq f (2 * n + 1 + 1) = tq (fun k => f (2 * k) + f (2 * k + 1)) n + (f (2 * n) + f (2 * n + 1))
    show tq f (2 * n) + f (2 * n) + f (2 * n + 1) = _
    rw [ih]
    omega
/-- (a + b)² / (s + t) is at most a² / s + b² / t -/
theorem two_le {a b s t w u v C K : Int} (hs : 1 ≤ s) (ht : 1 ≤ t) (hC : 1 ≤ C) (hK : 1 ≤ K) (hw : (s + t) * w = C) (hu : s * u = K) (hv : t * v = K) :
    (a + b) * (a + b) * w * K ≤ (a * a * u + b * b * v) * C := by
  have hst : 1 ≤ s * t := by have : 1 * 1 ≤ s * t := Int.mul_le_mul hs ht (by omega) (by omega); omega
  have hp : 0 < s * t * (s + t) := Int.mul_pos (by omega) (by omega)
  have hCK : 0 ≤ C * K := Int.mul_nonneg (by omega) (by omega)
  have base : 0 ≤ (a * t - b * s) * (a * t - b * s) := sq_nn _
  have h1 : (a + b) * (a + b) * (s * t) ≤ (a * a * t + b * b * s) * (s + t) := by
    have e : (a * a * t + b * b * s) * (s + t) - (a + b) * (a + b) * (s * t) = (a * t - b * s) * (a * t - b * s) := by grind
    omega
  have h2 := Int.mul_le_mul_of_nonneg_right h1 hCK
  have e1 : (a + b) * (a + b) * w * K * (s * t * (s + t)) = (a + b) * (a + b) * (s * t) * (C * K) := by rw [← hw]; grind
  have e2 : (a * a * u + b * b * v) * C * (s * t * (s + t)) = (a * a * t + b * b * s) * (s + t) * (C * K) := by
    have : (a * a * u + b * b * v) * C * (s * t * (s + t)) = (a * a * t * (s * u) + b * b * s * (t * v)) * C * (s + t) := by grind
    rw [this, hu, hv]
    grind
  rw [← e1, ← e2] at h2
  exact Int.le_of_mul_le_mul_right h2 hp
theorem st_half (m n k : Nat) (n1 : 1 ≤ n) : st m (2 * n) (2 * k) = st m n k := by
  unfold st
  rw [Nat.mul_assoc]
  exact Nat.mul_div_mul_left _ _ (by omega)
/-- finer pieces: no lesser bound -/
theorem bq_two (D : List Int) (m n : Nat) (hD : D.length = m) (n1 : 1 ≤ n) (nm : 2 * n ≤ m) (m32 : m ≤ 32) : bq D m n * cq m (2 * n) ≤ bq D m (2 * n) * cq m n := by
  obtain ⟨C, hC⟩ : ∃ C, cq m n = C := ⟨_, rfl⟩
  obtain ⟨K, hK⟩ : ∃ C, cq m (2 * n) = C := ⟨_, rfl⟩
  have c1 := (cq_in m n n1 (by omega) m32).1
  have k1 := (cq_in m (2 * n) (by omega) nm m32).1
  rw [hC] at c1
  rw [hK] at k1
  rw [hC, hK, Int.mul_comm (bq D m n), Int.mul_comm (bq D m (2 * n))]
  unfold bq
  rw [tq_two, ← tq_mul, ← tq_mul]
  refine tq_le (n := n) (fun k hk => ?_) n (Nat.le_refl n)
  have h2 := sz m (2 * n) (2 * k) (by omega)
  have h3 := sz m (2 * n) (2 * k + 1) (by omega)
  have hl : 1 ≤ m / (2 * n) := Nat.div_pos nm (by omega)
  have m1 := sz_mul m n k n1
  have m2 := sz_mul m (2 * n) (2 * k) (by omega)
  have m3 := sz_mul m (2 * n) (2 * k + 1) (by omega)
  have e0 := st_half m n k n1
  have e1 : st m (2 * n) (2 * k + 1 + 1) = st m n (k + 1) := st_half m n (k + 1) n1
  rw [e0] at h2 m2
  rw [e1] at h3 m3
  show K * (pg D (st m n k) (st m n (k + 1)) * pg D (st m n k) (st m n (k + 1)) * wq (m / n) (st m n (k + 1) - st m n k)) ≤ C * (pg D (st m (2 * n) (2 * k)) (st m (2 * n) (2 * k + 1)) * pg D (st m (2 * n) (2 * k)) (st m (2 * n) (2 * k + 1)) * wq (m / (2 * n)) (st m (2 * n) (2 * k + 1) - st m (2 * n) (2 * k)) + pg D (st m (2 * n) (2 * k + 1)) (st m (2 * n) (2 * k + 1 + 1)) * pg D (st m (2 * n) (2 * k + 1)) (st m (2 * n) (2 * k + 1 + 1)) * wq (m / (2 * n)) (st m (2 * n) (2 * k + 1 + 1) - st m (2 * n) (2 * k + 1)))
  rw [e0, e1]
  obtain ⟨M, hM⟩ : ∃ M, st m (2 * n) (2 * k + 1) = M := ⟨_, rfl⟩
  obtain ⟨A, hA⟩ : ∃ M, st m n k = M := ⟨_, rfl⟩
  obtain ⟨B, hB⟩ : ∃ M, st m n (k + 1) = M := ⟨_, rfl⟩
  rw [hM, hA] at h2 m2
  rw [hM, hB] at h3 m3
  rw [hA, hB] at m1
  rw [hM, hA, hB]
  rw [hC] at m1
  rw [hK] at m2 m3
  have ep : pg D A B = pg D A M + pg D M B := by rw [pg_pre D A B (by omega), pg_pre D A M (by omega), pg_pre D M B (by omega)]; omega
  have es : ((B - A : Nat) : Int) = ((M - A : Nat) : Int) + ((B - M : Nat) : Int) := by omega
  rw [es] at m1
  rw [ep, Int.mul_comm K, Int.mul_comm C]
  exact two_le (by omega) (by omega) c1 k1 m1 m2 m3
end Go.Proofs.YtpbnabibnkohdaaGreatDoor.Wi
