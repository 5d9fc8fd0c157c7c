/- slices.Repeat of one number (out of SerR, without layer 9). -/
import Derived.Test.YtgdhgeongdenpaaAppW
import Derived.Laws.CopyOwn
import Derived.Laws.Bits64b
import Derived.Laws.MathBits
import Derived.Deep.RegionLaw
namespace Go.Proofs.Ytgdhgeongdenpaa.Sg
open Go.ChangeShapes Go.WideShapes Go.RowKit Wo Sr Wi
set_option linter.unusedVariables false
theorem mul64_one (k : Nat) (hk : k ≤ 1000) (w : World) : Calls Try.prog 119 #[.int .u64 1, .int .u64 (k : Int)] w fun e w' => e = .returned (.tuple #[.int .u64 0, .int .u64 (k : Int)]) ∧ w = w' := by
  have a1 : bits .and .u64 1 4294967295 = 1 := by decide
  have a2 : bits .and .u64 (k : Int) 4294967295 = (k : Int) := by
    have h := bits_and_u64_nat k 4294967295 (by omega) (by omega)
    have e : k &&& 4294967295 = k % 4294967296 := Nat.and_two_pow_sub_one_eq_mod k 32
    rw [e, Nat.mod_eq_of_lt (by omega)] at h
    exact h
  have a3 : bits .and .u64 0 4294967295 = 0 := by decide
  have ki : (k : Int) ≤ 1000 := by omega
  have w1 : (k : Int) / 4294967296 = 0 := by omega
  have w2 : (k : Int) % 18446744073709551616 = (k : Int) := by omega
  have w3 : IntKind.u64.wrap (k : Int) = (k : Int) := by rw [IntKind.wrap_u64]; omega
  have w4 : IntKind.u64.wrap 0 = 0 := by decide
  clear ki
  go_enter Try.func119, Try.ntmps119
  go_wp2
  go_ret2
  exact ⟨rfl, rfl⟩
theorem mul_one (k : Nat) (hk : k ≤ 1000) (w : World) : Calls Try.prog 81 #[.int .u64 1, .int .u64 (k : Int)] w fun e w' => e = .returned (.tuple #[.int .u64 0, .int .u64 (k : Int)]) ∧ w = w' := by
  go_enter Try.func81, Try.ntmps81
  go_wp2_with (go_at_call 119; refine (mul64_one k hk _).mono ?_; rintro e w2 ⟨rfl, rfl⟩)
  go_ret2
  exact ⟨rfl, rfl⟩
theorem splice_zs (Z Y : List Int) (n : Nat) : splice (zs Z) n (zs Y) = zs (splice Z n Y) := by
  simp [splice, zs]
theorem splice_rep {Z : List Int} {x : Int} {k n q : Nat} (hl : Z.length = k) (hq : n + q ≤ k) (hz : ∀ i, i < n → Z.getD i 0 = x) : (splice Z n (List.replicate q x)).length = k ∧ ∀ i, i < n + q → (splice Z n (List.replicate q x)).getD i 0 = x := by
  refine ⟨by rw [length_splice _ _ _ (by simp; omega)]; exact hl, fun i hi => ?_⟩
  unfold splice
  rw [List.getD_eq_getElem?_getD]
  rcases Nat.lt_or_ge i n with h | h
  · rw [List.getElem?_append_left (by simp; omega), List.getElem?_take_of_lt h, ← List.getD_eq_getElem?_getD]
    exact hz i h
  · rw [List.getElem?_append_right (by simp; omega), List.getElem?_append_left (by simp; omega)]
    have e : i - min n Z.length < q := by omega
    simp [e]
theorem all_rep {Z : List Int} {x : Int} {k : Nat} (hl : Z.length = k) (hz : ∀ i, i < k → Z.getD i 0 = x) : Z = List.replicate k x := by
  apply List.ext_getElem?
  intro i
  rcases Nat.lt_or_ge i k with h | h
  · have := hz i h
    rw [List.getD_eq_getElem?_getD, List.getElem?_eq_getElem (by omega)] at this
    rw [List.getElem?_eq_getElem (by omega), List.getElem?_replicate, if_pos h]
    exact congrArg some this
  · rw [List.getElem?_eq_none (by omega), List.getElem?_eq_none (by simpa using h)]
theorem size_int : (Try.prog.info? 3).map (·.size) = some 1 := by kernel_rfl
set_option maxRecDepth 100000 in
set_option maxHeartbeats 4000000 in
theorem repeat_ok (g : Nat) (x : Int) (k : Nat) (k1 : 1 ≤ k) (k2 : k ≤ 300) (w : World) (hc : w.cell? ⟨g, 0, none⟩ = some (.int .i64 x)) :
    Calls Try.prog 42 #[.slice (some ⟨g, 0, none⟩) 1 1, .int .i64 (k : Int)] w fun e w' => e = .returned (.slice (some ⟨w.heap.size, 0, none⟩) k k) ∧ Bk w' w.heap.size 3 (zs (List.replicate k x)).toArray ∧ Bel w w' := by
  have ki1 : 1 ≤ (k : Int) := by omega
  have ki2 : (k : Int) ≤ 300 := by omega
  have wk : IntKind.u64.wrap (k : Int) = (k : Int) := by rw [IntKind.wrap_u64]; omega
  have wk2 : wrap64 (k : Int) = (k : Int) := IntWalk.wrap64_in _ (by omega)
  have wk3 : IntKind.i64.wrap (k : Int) = (k : Int) := IntWalk.i64_in _ (by omega)
  obtain ⟨i0, hi0, hz0, hz1, hz2⟩ := info_parts info_int
  have HI := Lib.hid (And.intro hi0 (And.intro hz0 (And.intro hz1 hz2)))
  have HC := Lib.hid hc
  have hw := World.block_lt_of_cell? w _ hc
  have HNW := Lib.hid (Bk.nw w 3 (zs (List.replicate k 0)).toArray)
  have HCA : Hid ((w.alloc (.cells (zs (List.replicate k 0)).toArray 3)).cell? ⟨g, 0, none⟩ = some (.int .i64 x)) := kp_al hc _
  have HMIN : Hid ((zs [x]).length = Nat.min 1 k) := by show 1 = min 1 k; omega
  have HFT : Hid (0 + (zs [x]).length ≤ (zs (List.replicate k 0)).length) := by show 0 + 1 ≤ _; rw [zs_len, List.length_replicate]; omega
  have HSR0 : Hid (∀ j v, (zs [x])[j]? = some v → (w.alloc (.cells (zs (List.replicate k 0)).toArray 3)).cell? ((⟨g, 0, none⟩ : Addr).add j) = some v) := fun j v hv => by
    rcases j with _ | j
    · have hv2 : Value.int .i64 x = v := by simpa [zs] using hv
      rw [← hv2]; exact HCA.out
    · simp [zs] at hv
  clear hi0 hz0 hz1 hz2 hc hw
  go_enter Try.func42, Try.ntmps42
  go_wp2_with (first
    | (go_at_call 81; refine (mul_one k (by omega) _).mono ?_; rintro e w2 ⟨rfl, rfl⟩)
    | (refine wpList_make_any _ rfl (.tmp 29) (.tmp 29) 22 rfl 3 i0 (.int .i64 0) 1 Try.underlying22 HI.out.1 HI.out.2.1 HI.out.2.2.1 .i64 .i64 _ _ k k rfl rfl rfl rfl (by omega) (by rw [HI.out.2.2.2]; omega) (by omega) ?_; rw [made_i64])
    | (refine wpList_copy_splice rfl (.tmp 31) (.tmp 32) 22 22 rfl 3 Try.underlying22 size_int (some ⟨w.heap.size, 0, none⟩) (some ⟨g, 0, none⟩) k k 1 1 rfl rfl w.heap.size 0 (zs (List.replicate k 0)) 3 HNW.out (zs [x]) HMIN.out (fun _ => ⟨rfl, _, rfl, HSR0.out⟩) HFT.out (zs_one _) w.heap.size w (Bel.rf.al _) (Nat.le_refl _) ?_; intro w2 hg2 hb2))
  go_loopw [8] (fun s8 wr => ∃ (t : Nat) (V : World) (Z : List Int), V = wr ∧ 1 ≤ t ∧ t ≤ k ∧ s8 = .int .i64 (t : Int) ∧ Z.length = k ∧ (∀ i, i < t → Z.getD i 0 = x) ∧ Bk wr w.heap.size 3 (zs Z).toArray ∧ Bel w wr) (fun s8 _ => k - (intOf s8).toNat)
  case atStart =>
    rw [splice_zs] at hg2
    have h := splice_rep (Z := List.replicate k 0) (x := x) (k := k) (n := 0) (q := 1) (by simp) (by omega) (fun i hi => by omega)
    exact ⟨1, _, _, rfl, by omega, by omega, rfl, h.1, h.2, hg2.out, hb2⟩
  case round =>
    obtain ⟨t, wr, Z, hwr, ht1, htk, rfl, hlz, hzt, hk, hb⟩ := hrel
    subst hwr
    clear hg2 hb2 wk wk2 wk3
    have HK := Lib.hid hk
    have HB := Lib.hid hb
    have HZT := Lib.hid hzt
    have HLZ := Lib.hid hlz
    have hlt := hk.lt
    clear hk hb hzt hlz
    rcases Nat.lt_or_ge t k with h | h
    · obtain ⟨y, hy⟩ : ∃ y, Nat.min t (k - t) = y := ⟨_, rfl⟩
      have hy1 : y ≤ t ∧ y ≤ k - t ∧ 1 ≤ y := by rw [← hy]; show min t (k - t) ≤ t ∧ min t (k - t) ≤ k - t ∧ 1 ≤ min t (k - t); omega
      have hkt : ¬ k = t := by omega
      have hti : (t : Int) < (k : Int) := by omega
      have hti2 : (t : Int) ≤ (k : Int) := by omega
      have htl : t ≤ k := htk
      have HSR := Lib.hid (splice_rep HLZ.out (x := x) (n := t) (q := y) (by omega) HZT.out)
      have HY := Lib.hid (And.intro hy hy1)
      obtain ⟨z, hz⟩ : ∃ z, t + y = z := ⟨_, rfl⟩
      have hzi : (t : Int) + (y : Int) = (z : Int) := by omega
      have hzk : z ≤ k ∧ t < z := by omega
      have HZZ := Lib.hid (And.intro hz hzk)
      have HL1 : Hid ((zs (List.replicate y x)).length = Nat.min t (k - t)) := by show _ = _; rw [zs_len, List.length_replicate]; exact HY.out.1.symm
      have HL2 : Hid (t + (zs (List.replicate y x)).length ≤ (zs Z).length) := by show _ ≤ _; rw [zs_len, zs_len, List.length_replicate, HLZ.out]; have := HY.out; omega
      have hzl : (zs (List.replicate y x)).length = y := by rw [zs_len, List.length_replicate]
      have zb : -9223372036854775808 ≤ (z : Int) ∧ (z : Int) ≤ 9223372036854775807 := by omega
      have wy : wrap64 (z : Int) = (z : Int) := IntWalk.wrap64_in _ zb
      have wy3 : IntKind.i64.wrap (z : Int) = (z : Int) := IntWalk.i64_in _ zb
      clear hz hzk zb
      clear hy hy1
      have HSRC : Hid (∀ W, Bk W w.heap.size 3 (zs Z).toArray → ∀ j v, (zs (List.replicate y x))[j]? = some v → W.cell? ((⟨w.heap.size, 0, none⟩ : Addr).add j) = some v) := fun W hW j v hv => by
        have hj : j < y := by
          rcases Nat.lt_or_ge j y with h | h
          · exact h
          · rw [List.getElem?_eq_none (by simpa [zs] using h)] at hv; cases hv
        have hz := (zi_bk hW k HLZ.out).at j (by have := HY.out; omega)
        rw [HZT.out j (by have := HY.out; omega)] at hz
        simp [zs, hj] at hv
        rw [add_row, ← hv]
        exact hz
      go_wp2
      go_region_law (refine step_copy_splice rfl (.tmp 41) (.tmp 44) 22 22 rfl 3 Try.underlying22 size_int (some ⟨w.heap.size, t, none⟩) (some ⟨w.heap.size, 0, none⟩) (k - t) (k - t) t k (by simp [Act.eval, Act.put]) (by simp [Act.eval, Act.put]) w.heap.size t (zs Z) 3 (by first | exact HK.out | exact HK.out.drwN _ | exact HK.out.drw) (zs (List.replicate y x)) HL1.out (fun _ => ⟨rfl, _, rfl, by first | exact HSRC.out _ HK.out | exact HSRC.out _ (HK.out.drwN _) | exact HSRC.out _ HK.out.drw⟩) HL2.out (zs_one _) w.heap.size w (by first | exact HB.out | exact HB.out.drwN _ | exact HB.out.drw) (Nat.le_refl _) ?_; intro w4 hg4 hb4)
      all_goals
        rw [splice_zs] at hg4
        (try simp only [hzl, hzi, wy3])
        (try go_simp)
        go_roundw
        case rel =>
          refine ⟨_, _, _, _, _, _, _, _, _, _, _, _, _, _, ?_, rfl⟩
          exact ⟨z, _, _, rfl, by have := HZZ.out; omega, HZZ.out.2.1, by first | rfl | go_num, HSR.out.1, by rw [← HZZ.out.1]; exact HSR.out.2, hg4.out, hb4⟩
        case measure => (have := HZZ.out; simp [intOf]; omega)
    · obtain rfl : t = k := by omega
      have e := all_rep HLZ.out HZT.out
      have HK2 := HK
      rw [e] at HK2
      clear e
      go_wp2
      go_ret
      exact ⟨rfl, HK2.out, HB.out⟩
def SomeRep (x : Int) (k : Nat) (w : World) (e : Ending) (w' : World) : Prop := ∃ a, e = .returned (.slice (some ⟨a, 0, none⟩) k k) ∧ w.heap.size ≤ a ∧ Zi w' (some ⟨a, 0, none⟩) k (List.replicate k x) ∧ Bel w w'
set_option maxRecDepth 100000 in
set_option maxHeartbeats 1000000 in
theorem repeat_zero (g : Nat) (x : Int) (w : World) (hc : w.cell? ⟨g, 0, none⟩ = some (.int .i64 x)) :
    Calls Try.prog 42 #[.slice (some ⟨g, 0, none⟩) 1 1, .int .i64 0] w (SomeRep x 0 w) := by
  have hm : ∀ W, Calls Try.prog 81 #[.int .u64 1, .int .u64 0] W fun e w' => e = .returned (.tuple #[.int .u64 0, .int .u64 0]) ∧ W = w' := fun W => mul_one 0 (by omega) W
  have HM := Lib.hid hm
  clear hm
  obtain ⟨i0, hi0, hz0, hz1, hz2⟩ := info_parts info_int
  have HI := Lib.hid (And.intro hi0 (And.intro hz0 (And.intro hz1 hz2)))
  have w3 : IntKind.u64.wrap 0 = 0 := by decide
  have w4 : IntKind.u64.wrap 1 = 1 := by decide
  have HNW := Lib.hid (Bk.nw w 3 (zs (List.replicate 0 0)).toArray)
  have HMIN : Hid ((zs []).length = Nat.min 1 0) := rfl
  have HFT : Hid (0 + (zs []).length ≤ (zs (List.replicate 0 0)).length) := Nat.le_refl _
  have HSR0 : Hid (∀ j v, (zs [])[j]? = some v → (w.alloc (.cells (zs (List.replicate 0 0)).toArray 3)).cell? ((⟨g, 0, none⟩ : Addr).add j) = some v) := fun j v hv => by simp [zs] at hv
  clear hc hi0 hz0 hz1 hz2
  go_enter Try.func42, Try.ntmps42
  go_wp2_with (first
    | (go_at_call 81; refine (HM.out _).mono ?_; rintro e w2 ⟨rfl, rfl⟩)
    | (refine wpList_make_any _ rfl (.tmp 29) (.tmp 29) 22 rfl 3 i0 (.int .i64 0) 1 Try.underlying22 HI.out.1 HI.out.2.1 HI.out.2.2.1 .i64 .i64 _ _ 0 0 rfl rfl rfl rfl (by omega) (by rw [HI.out.2.2.2]; omega) (by omega) ?_; rw [made_i64])
    | (refine wpList_copy_splice rfl (.tmp 31) (.tmp 32) 22 22 rfl 3 Try.underlying22 size_int (some ⟨w.heap.size, 0, none⟩) (some ⟨g, 0, none⟩) 0 0 1 1 rfl rfl w.heap.size 0 (zs (List.replicate 0 0)) 3 HNW.out (zs []) HMIN.out (fun _ => ⟨rfl, _, rfl, HSR0.out⟩) HFT.out (zs_one _) w.heap.size w (Bel.rf.al _) (Nat.le_refl _) ?_; intro w2 hg2 hb2))
  go_loopw [8] (fun s8 wr => ∃ V : World, V = wr ∧ s8 = .int .i64 0 ∧ Bel w wr) (fun _ _ => 0)
  case atStart => exact ⟨_, rfl, rfl, hb2⟩
  case round =>
    clear hg2 hb2
    obtain ⟨wr, hwr, rfl, hb⟩ := hrel
    subst hwr
    have HB := Lib.hid hb
    clear hb
    go_wp2
    go_ret
    exact ⟨w.heap.size, rfl, Nat.le_refl _, ⟨rfl, fun h => by omega⟩, HB.out⟩
theorem repeat_any (g : Nat) (x : Int) (k : Nat) (k2 : k ≤ 300) (w : World) (hc : w.cell? ⟨g, 0, none⟩ = some (.int .i64 x)) :
    Calls Try.prog 42 #[.slice (some ⟨g, 0, none⟩) 1 1, .int .i64 (k : Int)] w (SomeRep x k w) := by
  rcases Nat.eq_zero_or_pos k with h | h
  · subst h; exact repeat_zero g x w hc
  · refine (repeat_ok g x k h k2 w hc).mono ?_
    rintro e w' ⟨rfl, hk, hb⟩
    exact ⟨w.heap.size, rfl, Nat.le_refl _, zi_bk hk k (by simp), hb⟩
end Go.Proofs.Ytgdhgeongdenpaa.Sg
