/- Merged: MsV MsS MsF MsP MsAw MsO MsG MsU MsX UnitAwake RtC RtD RtP RtQ RtR RtI RtX RtY CodecWidth. -/
import Derived.Test.YtpbnabibnkohdaaGreatDoorShelf
import Derived.Test.YtpbnabibnkohdaaGreatDoorRows
import Derived.Test.YtpbnabibnkohdaaGreatDoorGm1
import Derived.Test.YtpbnabibnkohdaaGreatDoorGm2
import Derived.Test.YtpbnabibnkohdaaGreatDoorGm3
import Derived.Test.YtpbnabibnkohdaaGreatDoorGm4
import Derived.Test.YtpbnabibnkohdaaGreatDoorGm5
import Derived.WalkKit
import Derived.WalkLawsBesides
import Derived.WalkSpells
import Derived.Outline
import Derived.Lib.Hide
import Derived.IntWalk
import Derived.WalkMore
import Derived.Deep.QuietTactic
import Derived.BigQuiet
import Derived.Laws.ResultCell
import Derived.Deep.DeepCutAuto
import Derived.Stop.LaidErr
import Derived.Stop.Joined
import Derived.LaidMore
import Derived.Deep.RegionHeld3
import Derived.Lib.IndexLaws
import Derived.Lib.IndexBytes
import Derived.Lib.AppendIntMem
import Derived.Lib.ItoaLen
import Derived.MakeChecks
import Derived.Lib.LaidTab
import Derived.Shelf.Strings.SplitCore
import Derived.Shelf.Strings.SlTrimAscii
import Derived.MapKept
import Derived.Carry
import Derived.Tactics2
import Derived.Defers
import Derived.Recover
import Derived.Laws.Pointers
import Derived.RegionTactic
import Derived.Lib.ItoaNum
namespace Go.Proofs.YtpbnabibnkohdaaGreatDoor.Rr
open Go.ChangeShapes Go.WideShapes Go.RowKit Wo Ra
set_option linter.unusedVariables false
theorem var_bel {w w' : World} {n : String} {cs : Array Value} (h : w.var? Tryz.prog n = some cs) (hb : Bel w w') : w'.var? Tryz.prog n = some cs := by
  unfold World.var? at h ⊢
  rcases hg : Tryz.prog.globalNamed n with _ | g
  · rw [hg] at h; cases h
  · rw [hg] at h
    simp only [Option.bind_some] at h ⊢
    have hlt : g < w.heap.size := by
      rcases Nat.lt_or_ge g w.heap.size with h1 | h1
      · exact h1
      · rw [Array.getElem?_eq_none h1] at h; cases h
    rw [Below.block hb g hlt]
    exact h
/-- the library's table of the powers of ten -/
def Itab (w : World) : Prop := Lib.TabIs Tryz.prog w "internal/strconv.uint64pow10" .u64 Lib.pow10Tab
theorem Itab.bel {w w' : World} (h : Itab w) (hb : Bel w w') : Itab w' := by
  unfold Itab Lib.TabIs World.var? at h ⊢
  rcases hg : Tryz.prog.globalNamed "internal/strconv.uint64pow10" with _ | g
  · rw [hg] at h; cases h
  · rw [hg] at h
    simp only [Option.bind_some] at h ⊢
    have hlt : g < w.heap.size := by
      rcases Nat.lt_or_ge g w.heap.size with h1 | h1
      · exact h1
      · rw [Array.getElem?_eq_none h1] at h; cases h
    rw [Below.block hb g hlt]
    exact h
/-- what the library's variables hold -/
def Lw (w : World) : Prop := Itab w ∧ (∃ tp p, w.var? Tryz.prog "strconv.ErrSyntax" = some #[.iface tp p]) ∧ (∃ tp p, w.var? Tryz.prog "strconv.ErrRange" = some #[.iface tp p])
theorem Lw.bel {w w' : World} (h : Lw w) (hb : Bel w w') : Lw w' := by
  obtain ⟨a, ⟨t1, p1, b⟩, t2, p2, c⟩ := h
  exact ⟨a.bel hb, ⟨t1, p1, var_bel b hb⟩, t2, p2, var_bel c hb⟩
theorem lw_of {W : World} (h : laidMetH Tryz.prog [("math/bits.deBruijn32tab", Rows.laid_math_bits_deBruijn32tab), ("math/bits.deBruijn64tab", Rows.laid_math_bits_deBruijn64tab), ("internal/strconv.uint64pow10", Rows.laid_internal_strconv_uint64pow10), ("strconv.ErrRange", Rows.laid_strconv_ErrRange), ("strconv.ErrSyntax", Rows.laid_strconv_ErrSyntax)] W) : Lw W := by
  rw [MakeChecks.laidMetH_plain _ _ _ (by kernel_rfl)] at h
  have h2 := h.tail.tail
  have h3 := h2.tail
  have h4 := h3.tail
  have hrow : ∀ u, Tryz.prog.typeName? 3 u = some "*errors.errorString" → u = 237 := fun u h => by
    have star : "*" ++ "errors.errorString" = "*errors.errorString" := by decide
    exact typeName_ptr_named (nm := "errors.errorString") (by rw [star]; kernel_rfl) (by kernel_rfl) (by decide) u (by rw [star]; exact h)
  obtain ⟨a3, s3, v3, _⟩ := laid_sentinel (g := 3) h3 (by kernel_rfl) (by kernel_rfl) Tryz.underlying132 hrow Tryz.underlying237 Tryz.underlying239 rfl rfl Tryz.underlying9 (by kernel_rfl) (by kernel_rfl)
  obtain ⟨a4, s4, v4, _⟩ := laid_sentinel (g := 2) h4 (by kernel_rfl) (by kernel_rfl) Tryz.underlying132 hrow Tryz.underlying237 Tryz.underlying239 rfl rfl Tryz.underlying9 (by kernel_rfl) (by kernel_rfl)
  refine ⟨Lib.tabIs_of_head (g := 6) (t := 251) (e := 183) (n := 20) (by kernel_rfl) (by kernel_rfl) Tryz.underlying251 Tryz.underlying183 (by kernel_rfl) (by kernel_rfl) h2, ⟨_, _, v4⟩, _, _, v3⟩
end Go.Proofs.YtpbnabibnkohdaaGreatDoor.Rr
namespace Go.Proofs.YtpbnabibnkohdaaGreatDoor.Rr
open Go.ChangeShapes Go.WideShapes Go.RowKit Wo Ra
set_option linter.unusedVariables false
theorem ba_of (x : ByteArray) (l : List UInt8) (h : x.data.toList = l) : x = ⟨l.toArray⟩ := by
  subst h
  exact (Lib.mk_data x).symm
/-- strings.Cut at a blank -/
def cut32 (l : List UInt8) : List UInt8 × List UInt8 × Bool := if 0 ≤ Lib.indexByte l 32 then (l.take (Lib.indexByte l 32).toNat, l.drop ((Lib.indexByte l 32).toNat + 1), true) else (l, [], false)
set_option maxHeartbeats 2000000 in
theorem scut (s : ByteArray) (hs : s.size ≤ 281474976710656) (w : World) : Calls Tryz.prog 81 #[.string s, .string ⟨#[32]⟩] w fun e w' =>
    e = .returned (.tuple #[.string ⟨(cut32 s.data.toList).1.toArray⟩, .string ⟨(cut32 s.data.toList).2.1.toArray⟩, .bool (cut32 s.data.toList).2.2]) ∧ Bel w w' := by
  obtain ⟨v, hv⟩ : ∃ v, Lib.indexByte s.data.toList 32 = v := ⟨_, rfl⟩
  have HI : Hid (∀ W, Calls Tryz.prog 108 #[.string s, .string ⟨#[32]⟩] W fun e w' => e = .returned (.int .i64 v) ∧ w' = W) := fun W => by
    have := Tryz.stringslite_Index_one s 32 W
    rw [hv] at this
    exact this
  have hge := Lib.indexByte_ge s.data.toList 32
  rw [hv] at hge
  rcases Int.lt_or_le v 0 with h0 | h0
  · have e : v = -1 := by omega
    subst e
    have HC : Hid (cut32 s.data.toList = (s.data.toList, [], false)) := by
      unfold cut32; rw [hv]; rfl
    clear hv hge h0
    go_enter Tryz.func81, Tryz.ntmps81
    go_wp2_with fail
    go_at_call 108
    refine (HI.out _).mono ?_
    rintro e w1 ⟨rfl, rfl⟩
    go_wp2
    exact bodyPost_ret (v := .tuple #[.string s, .string ⟨#[]⟩, .bool false]) (by simp [results, Tryz.results81, go_sem]) rfl ⟨by rw [HC.out, Lib.mk_data], Bel.rf⟩
  · obtain ⟨i, rfl⟩ := Int.eq_ofNat_of_zero_le h0
    have hi := (Lib.indexByte_some hv).1
    have hlt : i < s.size := by
      rw [Lib.size_eq]
      exact (List.getElem?_eq_some_iff.1 hi).1
    have b0 : (0 : Int) ≤ (i : Int) := by omega
    have b1 : (i : Int) ≤ (s.size : Int) := by omega
    have b2 : (i : Int) + 1 ≤ (s.size : Int) := by omega
    have b3 : (s.size : Int) ≤ 281474976710656 := by omega
    have b4 : ((i : Int) + 1).toNat = i + 1 := by omega
    have HC : Hid (cut32 s.data.toList = ((s.extract 0 i).data.toList, (s.extract (i + 1) s.size).data.toList, true)) := by
      unfold cut32
      rw [hv, if_pos h0, Int.toNat_natCast, Lib.extract_data, Lib.extract_to_end, List.drop_zero, Nat.sub_zero]; exact Lib.hid rfl
    clear hv hge h0 hi
    go_enter Tryz.func81, Tryz.ntmps81
    go_wp2_with fail
    go_at_call 108
    refine (HI.out _).mono ?_
    rintro e w1 ⟨rfl, rfl⟩
    go_wp2
    go_quiet (fail)
    go_wp2
    exact bodyPost_ret (v := .tuple #[.string (s.extract 0 i), .string (s.extract (i + 1) s.size), .bool true]) (by simp [results, Tryz.results81, go_sem]) rfl ⟨by rw [HC.out, Lib.mk_data, Lib.mk_data], Bel.rf.drwN _⟩
theorem cut_any (s : ByteArray) (hs : s.size ≤ 281474976710656) (w : World) : Calls Tryz.prog 58 #[.string s, .string ⟨#[32]⟩] w fun e w' =>
    e = .returned (.tuple #[.string ⟨(cut32 s.data.toList).1.toArray⟩, .string ⟨(cut32 s.data.toList).2.1.toArray⟩, .bool (cut32 s.data.toList).2.2]) ∧ Bel w w' := by
  have H := Lib.hid (scut s hs)
  generalize cut32 s.data.toList = c at H ⊢
  obtain ⟨c1, c2, c3⟩ := c
  go_enter Tryz.func58, Tryz.ntmps58
  go_wp2_with fail
  go_at_call 81
  refine (H.out _).mono ?_
  rintro e w1 ⟨rfl, hb⟩
  go_wp2
  exact bodyPost_ret (v := .tuple #[.string ⟨c1.toArray⟩, .string ⟨c2.toArray⟩, .bool c3]) (by simp [results, Tryz.results58, go_sem]) rfl ⟨rfl, hb⟩
end Go.Proofs.YtpbnabibnkohdaaGreatDoor.Rr
namespace Go.Proofs.YtpbnabibnkohdaaGreatDoor.Ms
open Go.ChangeShapes Go.WideShapes Go.RowKit Wo Sr Wi Ra Rr
set_option linter.unusedVariables false
/-- the name of a kind -/
def nm (k : Nat) : List UInt8 := if k = 1 then [101, 117, 99, 108, 105, 100] else if k = 2 then [115, 104, 105, 102, 116, 101, 100] else if k = 3 then [110, 111, 114, 109, 97, 108] else if k = 4 then [119, 97, 114, 112] else [101, 100, 105, 116]
/-- the measure that Parse tries -/
def bd (k : Nat) (n : Int) : Int := if k = 4 then n else 0
def gp (k : Nat) (n : Int) : Int := if k = 5 then n else 0
/-- it is valid -/
def okm (k : Nat) (n : Int) : Prop := k ≤ 3 ∨ (k = 4 ∧ 0 ≤ n ∧ n ≤ 32) ∨ (k = 5 ∧ -1000 ≤ n ∧ n ≤ 1000)
instance (k : Nat) (n : Int) : Decidable (okm k n) := by unfold okm; infer_instance
/-- its text -/
def fmt (k : Nat) (n : Int) : List UInt8 := if okm k n then (if k ≤ 3 then nm k else nm k ++ 32 :: Lib.itoa n) else []
theorem itoa_any (n : Int) (h0 : -9223372036854775808 ≤ n) (h1 : n ≤ 9223372036854775807) (W : World) (hW : Itab W) : Calls Tryz.prog 165 #[.int .i64 n] W fun e w' => e = .returned (.string ⟨(Lib.itoa n).toArray⟩) ∧ Bel W w' :=
  (Tryz.strconv_Itoa n h0 h1 W hW).mono fun e w' ⟨he, k, os, hh⟩ => ⟨he, by rw [hh]; exact Lib.below_grow _ W (Nat.le_refl _) k os⟩
theorem sample_no (n : Int) (h : n < -1000 ∨ 1000 < n) (w : World) : Calls Tryz.prog 69 #[.int .i64 n] w fun e w' => e = .returned (.bool false) ∧ w = w' := by
  rcases h with h | h
  · have h2 : ¬ -1000 ≤ n := by omega
    go_enter Tryz.func69, Tryz.ntmps69
    go_wp2
    go_ret
    exact ⟨rfl, rfl⟩
  · have h2 : ¬ n ≤ 1000 := by omega
    have h3 : -1000 ≤ n := by omega
    go_enter Tryz.func69, Tryz.ntmps69
    go_wp2
    go_ret
    exact ⟨rfl, rfl⟩
set_option maxHeartbeats 2000000 in
set_option maxRecDepth 100000 in
theorem check_no (k : Nat) (n : Int) (h5 : k ≤ 5) (h : ¬ okm k n) (w : World) : Calls Tryz.prog 41 #[.agg #[.int .i64 (k : Int), .int .i64 (bd k n), .int .i64 (gp k n)]] w fun e w' => e = .returned (.int .i64 9) ∧ Bel w w' := by
  unfold okm at h
  rcases (by omega : k = 4 ∨ k = 5) with rfl | rfl
  · have hn : n < 0 ∨ 32 < n := by omega
    show Calls _ _ #[.agg #[.int .i64 4, .int .i64 n, .int .i64 0]] _ _
    rcases hn with hn | hn
    · have h2 : ¬ 0 ≤ n := by omega
      go_enter Tryz.func41, Tryz.ntmps41
      go_wp2
      go_ret
      exact ⟨rfl, Bel.rf.al _⟩
    · have h2 : ¬ n ≤ 32 := by omega
      have h3 : 0 ≤ n := by omega
      go_enter Tryz.func41, Tryz.ntmps41
      go_wp2
      go_ret
      exact ⟨rfl, Bel.rf.al _⟩
  · have SO : Hid (∀ W, _) := fun W => sample_no n (by omega) W
    clear h
    show Calls _ _ #[.agg #[.int .i64 5, .int .i64 0, .int .i64 n]] _ _
    go_enter Tryz.func41, Tryz.ntmps41
    go_wp2_with (go_at_call 69; refine (SO.out _).mono ?_; rintro e w1 ⟨rfl, rfl⟩)
    go_ret
    exact ⟨rfl, Bel.rf.al _⟩
theorem mv_of (k : Nat) (n : Int) (h1 : 1 ≤ k) (h5 : k ≤ 5) (h : okm k n) : Mv (k : Int) (bd k n) (gp k n) := by
  unfold okm at h
  unfold Mv bd gp
  rcases (by omega : k = 1 ∨ k = 2 ∨ k = 3 ∨ k = 4 ∨ k = 5) with rfl | rfl | rfl | rfl | rfl <;> simp <;> omega
theorem itoa_sz (n : Int) (h0 : -9223372036854775808 ≤ n) (h1 : n ≤ 9223372036854775807) : (⟨(Lib.itoa n).toArray⟩ : ByteArray).size ≤ 21 := by
  show (Lib.itoa n).toArray.size ≤ 21
  rw [List.size_toArray]
  exact Lib.itoa_length_le n h0 h1
end Go.Proofs.YtpbnabibnkohdaaGreatDoor.Ms
namespace Go.Proofs.YtpbnabibnkohdaaGreatDoor.Ms
open Go.ChangeShapes Go.WideShapes Go.RowKit Wo Sr Wi Ra Rr
set_option linter.unusedVariables false
/-- the number of a text -/
def num (s : ByteArray) : Int := Lib.atoiOr (cut32 s.data.toList).2.1 0
/-- a text is that of a measure of this kind -/
def cnd (s : ByteArray) (k : Nat) : Prop := (⟨(cut32 s.data.toList).1.toArray⟩ : ByteArray) = ⟨(nm k).toArray⟩ ∧ (⟨(fmt k (num s)).toArray⟩ : ByteArray) = s
theorem str_ne {F s : ByteArray} (h : ¬ F = s) : (F.toList == s.toList) = false := by
  rw [beq_eq_false_iff_ne]
  intro e
  apply h
  rw [Lib.toList_data, Lib.toList_data] at e
  cases F; cases s
  simp only [ByteArray.mk.injEq]
  exact Array.toList_inj.1 e
theorem cut_small (l : List UInt8) : (cut32 l).1.length ≤ l.length ∧ (cut32 l).2.1.length ≤ l.length := by
  unfold cut32
  split
  · refine ⟨?_, ?_⟩
    · show (l.take _).length ≤ _; rw [List.length_take]; omega
    · show (l.drop _).length ≤ _; rw [List.length_drop]; omega
  · exact ⟨Nat.le_refl _, by show (0 : Nat) ≤ _; omega⟩
theorem num_in (s : ByteArray) : -9223372036854775808 ≤ num s ∧ num s ≤ 9223372036854775807 := by
  unfold num Lib.atoiOr
  cases h : Lib.atoiAll (cut32 s.data.toList).2.1 with
  | ok v => exact Lib.atoiAll_bounds h
  | «syntax» => exact ⟨by decide, by decide⟩
  | range => exact ⟨by decide, by decide⟩
/-- what strconv.Atoi returns -/
def SomeN (n : Int) (w : World) (e : Ending) (w' : World) : Prop := ∃ (v : Int) (E : Value), e = .returned (.tuple #[.int .i64 v, E]) ∧ ((E = .nilIface ∧ v = n) ∨ (∃ t p, E = .iface t p) ∧ n = 0) ∧ Bel w w'
theorem atoi_any (s : ByteArray) (hs : s.size ≤ 281474976710656) (w : World) (hw : Lw w) : Calls Tryz.prog 85 #[.string s] w (SomeN (Lib.atoiOr s.data.toList 0) w) := by
  obtain ⟨ht, ⟨t1, p1, h1⟩, t2, p2, h2⟩ := hw
  unfold Lib.atoiOr
  cases ha : Lib.atoiAll s.data.toList with
  | ok v =>
    refine (Tryz.strconv_Atoi_ok s (by omega) v ha w).mono ?_
    rintro e w1 ⟨rfl, hb⟩
    refine ⟨_, _, rfl, .inl ⟨rfl, rfl⟩, ?_⟩
    rcases hb with rfl | ⟨t, rfl⟩
    · exact Bel.rf
    · exact Lib.bytesWorld_below _ _ _
  | «syntax» =>
    refine (Tryz.strconv_Atoi_syntax_var s hs ha t1 p1 w h1).mono ?_
    rintro e w1 ⟨N, rfl, _, _, hb⟩
    exact ⟨_, _, rfl, .inr ⟨⟨_, _, rfl⟩, rfl⟩, hb⟩
  | range =>
    refine (Tryz.strconv_Atoi_range_var s hs ha t2 p2 w h2).mono ?_
    rintro e w1 ⟨N, rfl, _, _, hb⟩
    exact ⟨_, _, rfl, .inr ⟨⟨_, _, rfl⟩, rfl⟩, hb⟩
def SomeP (C : Nat → Prop) (n : Int) (w : World) (e : Ending) (w' : World) : Prop :=
  ((∃ k : Nat, 1 ≤ k ∧ k ≤ 5 ∧ C k ∧ e = .returned (.tuple #[.agg #[.int .i64 (k : Int), .int .i64 (bd k n), .int .i64 (gp k n)], .int .i64 0])) ∨ ((∀ k, 1 ≤ k → k ≤ 5 → ¬ C k) ∧ e = .returned (.tuple #[.agg #[.int .i64 0, .int .i64 0, .int .i64 0], .int .i64 3]))) ∧ Bel w w'
end Go.Proofs.YtpbnabibnkohdaaGreatDoor.Ms
namespace Go.Proofs.YtpbnabibnkohdaaGreatDoor.Ms
open Go.ChangeShapes Go.WideShapes Go.RowKit Wo Sr Wi Ra Rr
set_option linter.unusedVariables false
def ex : ByteArray := ⟨#[101, 100, 105, 116, 32, 45, 53]⟩
theorem ex_num : num ex = -5 := by decide +kernel
theorem ex_fmt : fmt 5 (-5) = [101, 100, 105, 116, 32, 45, 53] := by
  have e : Lib.itoa (-5) = [45, 53] := by
    have := Lib.itoa_neg 5 (by decide)
    rw [dec_small (by decide)] at this
    exact this
  unfold fmt
  rw [if_pos (by unfold okm; omega), if_neg (by decide), e]
  rfl
theorem ex_cut : (cut32 ex.data.toList).1 = [101, 100, 105, 116] := by decide +kernel
theorem ex_cnd : cnd ex 5 := by
  refine ⟨by rw [ex_cut]; rfl, ?_⟩
  rw [ex_num, ex_fmt]
  rfl
theorem ex_one (k : Nat) (h1 : 1 ≤ k) (h5 : k ≤ 5) (h : cnd ex k) : k = 5 := by
  have e := h.1
  rw [ex_cut] at e
  rcases (by omega : k = 1 ∨ k = 2 ∨ k = 3 ∨ k = 4 ∨ k = 5) with rfl | rfl | rfl | rfl | rfl
  all_goals first | rfl | (exfalso; revert e; decide)
set_option maxRecDepth 100000 in
theorem check_zero (w : World) : Calls Tryz.prog 41 #[.agg #[.int .i64 0, .int .i64 1, .int .i64 0]] w fun e w' => e = .returned (.int .i64 9) ∧ Bel w w' := by
  go_enter Tryz.func41, Tryz.ntmps41
  go_wp2
  go_ret
  exact ⟨rfl, Bel.rf.al _⟩
theorem ex_wt : wt [0, 0, 5] [0, 5, 5] 1 3 3 = 0 := by simp [wt, mn3, mn, cst, Bnd, far]
theorem sam_l {L : List Int} (h : (L.all fun x => decide (-1000 ≤ x) && decide (x ≤ 1000)) = true) : Sam L := fun x hx => by
  have := List.all_eq_true.1 h x hx
  simpa using this
theorem dist_warp (A A' : Option Addr) (c c' n m : Nat) (L N : List Int) (b : Int) (n1 : 2 ≤ n) (n2 : n ≤ 32) (m1 : 2 ≤ m) (m2 : m ≤ 32) (b0 : 0 ≤ b) (b32 : b ≤ 32) (b1 : (n : Int) - (m : Int) ≤ b) (b2 : (m : Int) - (n : Int) ≤ b) (hs : Sam L) (ht : Sam N) (w : World) (h1 : Zi w A n L) (h2 : Zi w A' m N) (v0 : 0 ≤ wt L N b n m) (v1 : wt L N b n m ≤ 2305843009213693952) :
    Calls Tryz.prog 16 #[.agg #[.int .i64 4, .int .i64 b, .int .i64 0], .slice A n c, .slice A' m c'] w fun e w' => e = .returned (.tuple #[.agg #[.int .i64 (wt L N b n m), .int .i64 1], .int .i64 0]) ∧ Bel w w' :=
  dist4 b 0 A A' c c' n m _ _ (.inr (.inl ⟨rfl, b0, b32, rfl⟩)) w (fun W gc hW hg =>
    clos2 A A' c c' n m L N _ gc 4 b 0 W hg (h1.bel hW) (h2.bel hW) (fun V hV => Wa.distance_ok A A' c c' n m L N b n1 n2 m1 m2 b0 b32 b1 b2 hs ht V (h1.bel (hW.tr hV)) (h2.bel (hW.tr hV))) v0 v1)
end Go.Proofs.YtpbnabibnkohdaaGreatDoor.Ms
namespace Go.Proofs.YtpbnabibnkohdaaGreatDoor.Ms
open Go.ChangeShapes Go.WideShapes Go.RowKit Wo Sr Wi Ra Rr
set_option linter.unusedVariables false
theorem eu_bd {L N : List Int} {n : Nat} (n2 : n ≤ 32) (hl : L.length = n) (hm : N.length = n) (hs : Sam L) (ht : Sam N) : 0 ≤ su sq (df L N) ∧ su sq (df L N) ≤ 128000000 := by
  have b := susq_bd (df_bd (A := 1000) (B := 1000) hs ht)
  have e : (df L N).length = n := by rw [df_len (by omega)]; exact hl
  rw [e] at b
  obtain ⟨b1, b2⟩ := b
  have b3 : ((1000 + 1000) * (1000 + 1000) : Int) * (n : Int) = 4000000 * (n : Int) := by rfl
  rw [b3] at b2
  omega
theorem one_rv {S : Int} (h0 : 0 ≤ S) (h1 : S ≤ 2305843009213693952) : RV S 1 := ⟨⟨h0, h1, by decide, by decide⟩, gd_one S⟩
/-- the shifted distance -/
def shv (L N : List Int) (n : Nat) : Int × Int := (vr (df L N) / gd (vr (df L N)) n, (n : Int) / gd (vr (df L N)) n)
theorem sh_facts {L N : List Int} {n : Nat} (n1 : 2 ≤ n) (n2 : n ≤ 32) (hl : L.length = n) (hm : N.length = n) (hs : Sam L) (ht : Sam N) : RV (shv L N n).1 (shv L N n).2 ∧ (shv L N n).1 * 1 ≤ su sq (df L N) * (shv L N n).2 := by
  have e : (df L N).length = n := by rw [df_len (by omega)]; exact hl
  have v0 := vr_nn (df L N)
  have b := eu_bd n2 hl hm hs ht
  have v1 : vr (df L N) ≤ su sq (df L N) * (n : Int) := by
    have h : vr (df L N) = (n : Int) * su sq (df L N) - su ix (df L N) * su ix (df L N) := by unfold vr; rw [e]
    have := sq_nn (su ix (df L N))
    rw [h, Int.mul_comm]
    omega
  have vb : vr (df L N) ≤ 4096000000 := by
    have := Int.mul_le_mul_of_nonneg_right b.2 (show (0 : Int) ≤ (n : Int) by omega)
    omega
  have f := make_facts (n := vr (df L N)) (d := (n : Int)) v0 (by omega) (by omega) (by omega)
  refine ⟨f.2.2.2.2.2.2.1, ?_⟩
  show vr (df L N) / gd (vr (df L N)) n * 1 ≤ su sq (df L N) * ((n : Int) / gd (vr (df L N)) n)
  have h8 := f.2.2.2.2.2.2.2
  have h3 : (0 : Int) ≤ (n : Int) / gd (vr (df L N)) n := by have := f.2.2.1; omega
  have hm := Int.mul_le_mul_of_nonneg_right v1 h3
  have key : vr (df L N) / gd (vr (df L N)) n * 1 * (n : Int) ≤ su sq (df L N) * ((n : Int) / gd (vr (df L N)) n) * (n : Int) := by
    rw [Int.mul_one, h8]
    refine Int.le_trans hm ?_
    rw [Int.mul_assoc, Int.mul_comm (n : Int), ← Int.mul_assoc]
    exact Int.le_refl _
  exact Int.le_of_mul_le_mul_right key (by omega)
theorem dist_euc (A A' : Option Addr) (c c' n : Nat) (L N : List Int) (n1 : 2 ≤ n) (n2 : n ≤ 32) (hs : Sam L) (ht : Sam N) (w : World) (h1 : Zi w A n L) (h2 : Zi w A' n N) :
    Calls Tryz.prog 16 #[.agg #[.int .i64 1, .int .i64 0, .int .i64 0], .slice A n c, .slice A' n c'] w fun e w' => e = .returned (.tuple #[.agg #[.int .i64 (su sq (df L N)), .int .i64 1], .int .i64 0]) ∧ Bel w w' := by
  have b := eu_bd n2 h1.1 h2.1 hs ht
  exact dist1 0 0 A A' c c' n n _ _ (.inl ⟨.inl rfl, rfl, rfl⟩) w (fun W gc hW hg =>
    clos1 A A' c c' n n L N _ W (h1.bel hW) (h2.bel hW) (fun V hV => Eu.distance_ok A A' c c' n L N n1 n2 hs ht V (h1.bel (hW.tr hV)) (h2.bel (hW.tr hV))) b.1 (by omega))
theorem dist_sh (A A' : Option Addr) (c c' n : Nat) (L N : List Int) (n1 : 2 ≤ n) (n2 : n ≤ 32) (hs : Sam L) (ht : Sam N) (w : World) (h1 : Zi w A n L) (h2 : Zi w A' n N) :
    Calls Tryz.prog 16 #[.agg #[.int .i64 2, .int .i64 0, .int .i64 0], .slice A n c, .slice A' n c'] w fun e w' => e = .returned (.tuple #[.agg #[.int .i64 (shv L N n).1, .int .i64 (shv L N n).2], .int .i64 0]) ∧ Bel w w' :=
  dist2 0 0 A A' c c' n n _ _ (.inl ⟨.inr (.inl rfl), rfl, rfl⟩) w (fun W gc hW hg => Eu.shifted_ok A A' c c' n L N n1 n2 hs ht W (h1.bel hW) (h2.bel hW))
theorem dist_nor (A A' : Option Addr) (c c' n : Nat) (L N : List Int) (n1 : 2 ≤ n) (n2 : n ≤ 32) (hs : Sam L) (ht : Sam N) (w : World) (h1 : Zi w A n L) (h2 : Zi w A' n N) :
    Calls Tryz.prog 16 #[.agg #[.int .i64 3, .int .i64 0, .int .i64 0], .slice A n c, .slice A' n c'] w fun e w' => e = .returned (.tuple #[.agg #[.int .i64 (rN (vr L) (vr N) (pr L N)), .int .i64 (rD (vr L) (vr N) (pr L N))], .int .i64 0]) ∧ Bel w w' :=
  dist3 0 0 A A' c c' n n _ _ (.inl ⟨.inr (.inr rfl), rfl, rfl⟩) w (fun W gc hW hg => Nr.Gap_ok A A' c c' n L N n1 n2 hs ht W (h1.bel hW) (h2.bel hW))
theorem dist_wp (A A' : Option Addr) (c c' n m : Nat) (L N : List Int) (b : Int) (n1 : 2 ≤ n) (n2 : n ≤ 32) (m1 : 2 ≤ m) (m2 : m ≤ 32) (b0 : 0 ≤ b) (b32 : b ≤ 32) (b1 : (n : Int) - (m : Int) ≤ b) (b2 : (m : Int) - (n : Int) ≤ b) (hs : Sam L) (ht : Sam N) (w : World) (h1 : Zi w A n L) (h2 : Zi w A' m N) :
    Calls Tryz.prog 16 #[.agg #[.int .i64 4, .int .i64 b, .int .i64 0], .slice A n c, .slice A' m c'] w fun e w' => e = .returned (.tuple #[.agg #[.int .i64 (wt L N b n m), .int .i64 1], .int .i64 0]) ∧ Bel w w' := by
  obtain ⟨i, hi⟩ : ∃ i, n = i + 1 := ⟨n - 1, by omega⟩
  obtain ⟨j, hj⟩ : ∃ i, m = i + 1 := ⟨m - 1, by omega⟩
  have f := wt_fin hs ht b0 (i + j) i j rfl ⟨by omega, by omega⟩
  rw [← hi, ← hj] at f
  exact dist_warp A A' c c' n m L N b n1 n2 m1 m2 b0 b32 b1 b2 hs ht w h1 h2 f.1 (by omega)
end Go.Proofs.YtpbnabibnkohdaaGreatDoor.Ms
namespace Go.Proofs.YtpbnabibnkohdaaGreatDoor.Ms
open Go.ChangeShapes Go.WideShapes Go.RowKit Wo Sr Wi Ra Rr
set_option linter.unusedVariables false
def md (k b g : Int) (n m : Nat) (L N : List Int) : Int × Int :=
  if k = 1 then (su sq (df L N), 1) else if k = 2 then shv L N n else if k = 3 then (rN (vr L) (vr N) (pr L N), rD (vr L) (vr N) (pr L N)) else if k = 4 then (wt L N b n m, 1) else (et L N g n m, 1)
/-- the windows suit the measure -/
def Fit (k b : Int) (n m : Nat) : Prop := (k ≤ 3 → n = m) ∧ (k = 4 → (n : Int) - (m : Int) ≤ b ∧ (m : Int) - (n : Int) ≤ b)
theorem Fit.sx {k b : Int} {n m : Nat} (h : Fit k b n m) : Fit k b m n := ⟨fun e => (h.1 e).symm, fun e => ⟨(h.2 e).2, (h.2 e).1⟩⟩
theorem Fit.one {k b g : Int} (n : Nat) (h : Mv k b g) : Fit k b n n := ⟨fun _ => rfl, fun e => by
  rcases h with ⟨h, _, _⟩ | ⟨_, h0, _, _⟩ | ⟨h, _⟩
  · omega
  · omega
  · omega⟩
theorem md_1 (b g : Int) (n m : Nat) (L N : List Int) : md 1 b g n m L N = (su sq (df L N), 1) := by unfold md; simp
theorem md_2 (b g : Int) (n m : Nat) (L N : List Int) : md 2 b g n m L N = shv L N n := by unfold md; simp
theorem md_3 (b g : Int) (n m : Nat) (L N : List Int) : md 3 b g n m L N = (rN (vr L) (vr N) (pr L N), rD (vr L) (vr N) (pr L N)) := by unfold md; simp
theorem md_4 (b g : Int) (n m : Nat) (L N : List Int) : md 4 b g n m L N = (wt L N b n m, 1) := by unfold md; simp
theorem md_5 (b g : Int) (n m : Nat) (L N : List Int) : md 5 b g n m L N = (et L N g n m, 1) := by unfold md; simp
theorem et_bd {L N : List Int} {g : Int} {n m : Nat} (g0 : -1000 ≤ g) (g1 : g ≤ 1000) (n2 : n ≤ 32) (m2 : m ≤ 32) (hs : Sam L) (ht : Sam N) : 0 ≤ et L N g n m ∧ et L N g n m ≤ 128000 := by
  have a := et_nn L N g _ n m rfl
  have b := et_hi hs ht g0 g1 _ n m rfl
  exact ⟨a, by omega⟩
theorem dist_any (k b g : Int) (h : Mv k b g) (A A' : Option Addr) (c c' n m : Nat) (L N : List Int) (hf : Fit k b n m) (n1 : 2 ≤ n) (n2 : n ≤ 32) (m1 : 2 ≤ m) (m2 : m ≤ 32) (hs : Sam L) (ht : Sam N) (w : World) (h1 : Zi w A n L) (h2 : Zi w A' m N) :
    Calls Tryz.prog 16 #[.agg #[.int .i64 k, .int .i64 b, .int .i64 g], .slice A n c, .slice A' m c'] w fun e w' => e = .returned (.tuple #[.agg #[.int .i64 (md k b g n m L N).1, .int .i64 (md k b g n m L N).2], .int .i64 0]) ∧ Bel w w' := by
  rcases h with ⟨rfl | rfl | rfl, rfl, rfl⟩ | ⟨rfl, b0, b1, rfl⟩ | ⟨rfl, rfl, g0, g1⟩
  · obtain rfl := hf.1 (by decide)
    rw [md_1]
    exact dist_euc A A' c c' n L N n1 n2 hs ht w h1 h2
  · obtain rfl := hf.1 (by decide)
    rw [md_2]
    exact dist_sh A A' c c' n L N n1 n2 hs ht w h1 h2
  · obtain rfl := hf.1 (by decide)
    rw [md_3]
    exact dist_nor A A' c c' n L N n1 n2 hs ht w h1 h2
  · have f := hf.2 rfl
    rw [md_4]
    exact dist_wp A A' c c' n m L N b n1 n2 m1 m2 b0 b1 f.1 f.2 hs ht w h1 h2
  · rw [md_5]
    have e := et_bd g0 g1 n2 m2 hs ht
    exact dist5 0 g A A' c c' n m _ _ (.inr (.inr ⟨rfl, rfl, g0, g1⟩)) w (fun W gc hW hg =>
      clos3 A A' c c' n m L N _ gc 5 0 g W hg (h1.bel hW) (h2.bel hW) (fun V hV => Ed.distance_ok A A' c c' n m L N g n1 n2 m1 m2 g0 g1 hs ht V (h1.bel (hW.tr hV)) (h2.bel (hW.tr hV))) e.1 (by omega))
theorem gN_sym (v w c : Int) : gN v w c = gN w v c := by
  unfold gN
  rw [Int.mul_comm]
  by_cases h1 : v = 0 <;> by_cases h2 : w = 0 <;> simp [h1, h2]
theorem gD_sym (v w : Int) : gD v w = gD w v := by
  unfold gD
  rw [Int.mul_comm]
  by_cases h1 : v = 0 <;> by_cases h2 : w = 0 <;> simp [h1, h2]
theorem md_sym {k b g : Int} (h : Mv k b g) {n m : Nat} {L N : List Int} (hf : Fit k b n m) (hl : L.length = n) (hm : N.length = m) : md k b g m n N L = md k b g n m L N := by
  rcases h with ⟨rfl | rfl | rfl, rfl, rfl⟩ | ⟨rfl, b0, b1, rfl⟩ | ⟨rfl, rfl, g0, g1⟩
  · rw [md_1, md_1, (df_swap L N).1]
  · obtain rfl := hf.1 (by decide)
    rw [md_2, md_2]
    unfold shv
    rw [vr_swap L N (by omega)]
  · obtain rfl := hf.1 (by decide)
    rw [md_3, md_3, pr_comm (X := N) (Y := L) (by omega)]
    unfold rN rD
    rw [gN_sym (vr N) (vr L), gD_sym (vr N) (vr L)]
  · rw [md_4, md_4, wt_sym N L b _ m n rfl]
  · rw [md_5, md_5, et_sym N L g _ m n rfl]
theorem df_rev (L N : List Int) (h : L.length = N.length) : df L.reverse N.reverse = (df L N).reverse := by
  unfold df
  rw [List.reverse_zipWith h]
theorem md_rev {k b g : Int} (h : Mv k b g) {n : Nat} {L N : List Int} (n1 : 2 ≤ n) (n2 : n ≤ 32) (hl : L.length = n) (hm : N.length = n) (hs : Sam L) (ht : Sam N) : md k b g n n L.reverse N.reverse = md k b g n n L N := by
  have e : L.length = N.length := by omega
  rcases h with ⟨rfl | rfl | rfl, rfl, rfl⟩ | ⟨rfl, b0, b1, rfl⟩ | ⟨rfl, rfl, g0, g1⟩
  · rw [md_1, md_1, df_rev L N e, su_rev]
  · rw [md_2, md_2]
    unfold shv
    rw [df_rev L N e, vr_rev]
  · rw [md_3, md_3, vr_rev, vr_rev, pr_rev _ _ e]
  · rw [md_4, md_4, wt_rev hs ht b0 hl hm (by omega) (by omega)]
  · have r := et_rev L N g
    rw [hl, hm] at r
    rw [md_5, md_5, r]
theorem md_rv {k b g : Int} (h : Mv k b g) {n m : Nat} {L N : List Int} (hf : Fit k b n m) (n1 : 2 ≤ n) (n2 : n ≤ 32) (m1 : 2 ≤ m) (m2 : m ≤ 32) (hl : L.length = n) (hm : N.length = m) (hs : Sam L) (ht : Sam N) : RV (md k b g n m L N).1 (md k b g n m L N).2 := by
  rcases h with ⟨rfl | rfl | rfl, rfl, rfl⟩ | ⟨rfl, b0, b1, rfl⟩ | ⟨rfl, rfl, g0, g1⟩
  · obtain rfl := hf.1 (by decide)
    rw [md_1]
    have e := eu_bd n2 hl hm hs ht
    exact one_rv e.1 (by omega)
  · obtain rfl := hf.1 (by decide)
    rw [md_2]
    exact (sh_facts n1 n2 hl hm hs ht).1
  · obtain rfl := hf.1 (by decide)
    rw [md_3]
    exact (red_in (vr_le hs (by omega)).1 (vr_le ht (by omega)).1 (vr_le hs (by omega)).2 (vr_le ht (by omega)).2 (pr_cs (by omega))).1
  · rw [md_4]
    have f := hf.2 rfl
    obtain ⟨i, hi⟩ : ∃ i, n = i + 1 := ⟨n - 1, by omega⟩
    obtain ⟨j, hj⟩ : ∃ i, m = i + 1 := ⟨m - 1, by omega⟩
    have w := wt_fin hs ht b0 (i + j) i j rfl ⟨by omega, by omega⟩
    rw [← hi, ← hj] at w
    exact one_rv w.1 (by omega)
  · rw [md_5]
    have e := et_bd g0 g1 n2 m2 hs ht
    exact one_rv e.1 (by omega)
theorem df_self (L : List Int) : su sq (df L L) = 0 := (df_zero L L rfl).2 rfl
theorem su_ix_self : ∀ L : List Int, su ix (df L L) = 0
  | [] => rfl
  | x :: L => by
    show ix (x - x) + su ix (df L L) = 0
    rw [su_ix_self L]
    unfold ix
    omega
theorem md_self {k b g : Int} (h : Mv k b g) {n : Nat} {L : List Int} (n1 : 2 ≤ n) (n2 : n ≤ 32) (hl : L.length = n) (hs : Sam L) : md k b g n n L L = (0, 1) := by
  have g0n : ∀ d : Int, 1 ≤ d → gd 0 d = d := fun d hd => by rw [gd_comm]; exact gd_zero (by omega)
  rcases h with ⟨rfl | rfl | rfl, rfl, rfl⟩ | ⟨rfl, b0, b1, rfl⟩ | ⟨rfl, rfl, g0, g1⟩
  · rw [md_1, df_self]
  · rw [md_2]
    unfold shv
    have v : vr (df L L) = 0 := by
      unfold vr
      rw [df_self, su_ix_self]
      simp
    rw [v, g0n _ (by omega), Int.ediv_self (by omega)]
    simp
  · rw [md_3, pr_self]
    have v := vr_le hs (by omega)
    have hN : gN (vr L) (vr L) (vr L) = 0 := by
      unfold gN sg
      by_cases hv : vr L = 0
      · rw [if_pos hv, if_pos hv]
      · rw [if_neg hv, if_neg hv, if_neg (by omega)]
        omega
    have hD := (gap_in v.1 v.1 v.2 v.2 (c := vr L) (Int.le_refl _)).2.2.1
    unfold rN rD
    rw [hN, g0n _ hD, Int.ediv_self (by omega)]
    simp
  · rw [md_4]
    have z : wt L L 0 n n = 0 := by
      rw [wt_zero hs hs rfl n (by omega) (by omega), List.take_of_length_le (by rw [df_len rfl]; omega), df_self]
    have mo := wt_mono (b := 0) (c := b) hs hs (by omega) b0 (i := n - 1) (j := n - 1) (by omega) (by omega) ⟨by omega, by omega⟩
    rw [show n - 1 + 1 = n by omega, z] at mo
    have nn := wt_nn (b := b) hs hs n n
    have : wt L L b n n = 0 := by omega
    rw [this]
  · rw [md_5, et_zero]
end Go.Proofs.YtpbnabibnkohdaaGreatDoor.Ms
namespace Go.Proofs.YtpbnabibnkohdaaGreatDoor.Ms
open Go.ChangeShapes Go.WideShapes Go.RowKit Wo Sr Wi
set_option linter.unusedVariables false
theorem own_low {w : World} {base base' size n : Nat} {e : TypeId} {v : Value} {xs : List Value} (h : w.ownsRow base e size v n xs) (hb : base' ≤ base) : w.ownsRow base' e size v n xs := by
  refine ⟨h.1, ?_⟩
  rcases h.2 with hn | ⟨q', cap, cur, rfl, hbb, rest⟩
  · exact .inl hn
  · exact .inr ⟨q', cap, cur, rfl, by omega, rest⟩
def SomeS (q : Nat) (k b : Int) (w : World) (e : Ending) (w' : World) : Prop := ∃ (xa xb ya yb n m : Nat) (L N : List Int), e = .returned (.tuple #[.slice (some ⟨xa, 0, none⟩) n xb, .slice (some ⟨ya, 0, none⟩) m yb]) ∧ 2 ≤ n ∧ n ≤ 32 ∧ 2 ≤ m ∧ m ≤ 32 ∧ Fit k b n m ∧
  w'.ownsRow w.heap.size 3 1 (.slice (some ⟨xa, 0, none⟩) n xb) n (zs L) ∧ w'.ownsRow w.heap.size 3 1 (.slice (some ⟨ya, 0, none⟩) m yb) m (zs N) ∧ L.length = n ∧ N.length = m ∧ Sam L ∧ Sam N ∧ Ok w' q ∧ Ch q w w'
set_option maxHeartbeats 8000000 in
set_option maxRecDepth 100000 in
theorem suited_any (q : Nat) (k b g : Int) (hmv : Mv k b g) (w : World) (h : Ok w q) : Calls Tryz.prog 15 #[.pointer (some ⟨q, 0, none⟩), .agg #[.int .i64 k, .int .i64 b, .int .i64 g]] w (SomeS q k b w) := by
  have HGB := Lib.hid h.lt
  have HO0 : Hid (Ok (w.alloc (.cells #[.int .i64 k, .int .i64 b, .int .i64 g] 38)) q) := h.bel (Bel.rf.al _)
  have HK0 : Hid (Bk (w.alloc (.cells #[.int .i64 k, .int .i64 b, .int .i64 g] 38)) w.heap.size 38 #[.int .i64 k, .int .i64 b, .int .i64 g]) := Bk.nw _ _ _
  have HC0 : Hid (Ch q w (w.alloc (.cells #[.int .i64 k, .int .i64 b, .int .i64 g] 38))) := Ch.of_bel (Bel.rf.al _)
  clear h
  go_enter Tryz.func15, Tryz.ntmps15
  go_wp2_with fail
  go_at_call 7
  refine (pair_any q _ HO0.out).mono ?_
  rintro e v2 ⟨xa, xb, ya, yb, n, L, M, rfl, n1, n2, hxy, hox, hoy, lL, lM, sL, sM, ho, hc⟩
  have hle : w.heap.size ≤ (w.alloc (.cells #[.int .i64 k, .int .i64 b, .int .i64 g] 38)).heap.size := by simp
  have HX : Hid (v2.ownsRow w.heap.size 3 1 (.slice (some ⟨xa, 0, none⟩) n xb) n (zs L)) := own_low hox hle
  have HY : Hid (v2.ownsRow w.heap.size 3 1 (.slice (some ⟨ya, 0, none⟩) n yb) n (zs M)) := own_low hoy hle
  have hyb := Ed.own_cap hoy
  have HO2 := Lib.hid ho
  have HC2 : Hid (Ch q w v2) := HC0.out.tr hc
  have kk := hc.bk HK0.out (by have := HGB.out; omega)
  have HK2 := Lib.hid kk
  have m0 : v2.cell? ⟨w.heap.size, 0, none⟩ = some (.int .i64 k) := kk.cell 0
  have m1 : v2.cell? ⟨w.heap.size, 1, none⟩ = some (.int .i64 b) := kk.cell 1
  have HLL := Lib.hid (And.intro lL (And.intro lM (And.intro sL sM)))
  have HN := Lib.hid (And.intro n1 n2)
  clear hox hoy ho hc kk lL lM sL sM
  rcases hmv with ⟨hk, rfl, rfl⟩ | ⟨rfl, b0, b1, rfl⟩ | ⟨rfl, rfl, g0, g1⟩
  · have k5 : ¬ k = 5 := by omega
    have k4 : ¬ k = 4 := by omega
    have e5 : (k == 5) = false := by simpa using k5
    have e4 : (k == 4) = false := by simpa using k4
    have HKK := Lib.hid hk
    clear hk k5 k4
    go_wp2
    go_ret2
    exact ⟨xa, xb, ya, yb, n, n, L, M, rfl, n1, n2, n1, n2, ⟨fun _ => rfl, fun e => by have := HKK.out; omega⟩, HX.out, HY.out, HLL.out.1, HLL.out.2.1, HLL.out.2.2.1, HLL.out.2.2.2, HO2.out, HC2.out⟩
  · have mn : 0 ≤ min b 4 ∧ min b 4 ≤ 4 ∧ min b 4 ≤ b := by omega
    obtain ⟨c, hc⟩ : ∃ c, min b 4 = c := ⟨_, rfl⟩
    rw [hc] at mn
    have wc : IntKind.i64.wrap (1 + c) = 1 + c := IntWalk.i64_in _ ⟨by omega, by omega⟩
    go_wp2_with fail
    go_at_call 20
    refine (n_any q (1 + c) (by omega) (by omega) _ HO2.out).mono ?_
    rintro e v3 ⟨r, rfl, r0, r1, ho, hc'⟩
    have HO3 := Lib.hid ho
    have HC3 : Hid (Ch q w v3) := HC2.out.tr hc'
    have HX3 := Lib.hid (own_ch HX.out hc' HGB.out)
    have HY3 := Lib.hid (own_ch HY.out hc' HGB.out)
    have HK3 := Lib.hid (hc'.bk HK2.out (by have := HGB.out; omega))
    have m0 : v3.cell? ⟨w.heap.size, 0, none⟩ = some (.int .i64 4) := HK3.out.cell 0
    clear ho hc'
    have wr : IntKind.i64.wrap ((n : Int) - r) = (n : Int) - r := IntWalk.i64_in _ ⟨by omega, by omega⟩
    obtain ⟨m, hmx, m2, mn2, mr⟩ : ∃ m : Nat, max (2 : Int) ((n : Int) - r) = (m : Int) ∧ 2 ≤ m ∧ m ≤ n ∧ (n : Int) - (m : Int) ≤ r := ⟨(max (2 : Int) ((n : Int) - r)).toNat, by omega, by omega, by omega, by omega⟩
    have hm0 : (0 : Int) ≤ (m : Int) := by omega
    have hmy : (m : Int) ≤ (yb : Int) := by omega
    go_wp2
    go_ret2
    have oy := Ed.own_take (m := m) HY3.out HLL.out.2.1 (by omega)
    exact ⟨xa, xb, ya, yb, n, m, L, M.take m, rfl, n1, n2, by omega, by omega, ⟨fun e => by omega, fun e => ⟨by omega, by omega⟩⟩, HX3.out, oy, HLL.out.1, by rw [List.length_take, HLL.out.2.1]; omega, HLL.out.2.2.1, HLL.out.2.2.2.take m, HO3.out, HC3.out⟩
  · have wc : IntKind.i64.wrap (1 + 0) = 1 := by decide
    go_wp2_with fail
    go_at_call 20
    refine (n_any q 1 (by omega) (by omega) _ HO2.out).mono ?_
    rintro e v3 ⟨r, rfl, r0, r1, ho, hc'⟩
    obtain rfl : r = 0 := by omega
    have HO3 := Lib.hid ho
    have HC3 : Hid (Ch q w v3) := HC2.out.tr hc'
    have HX3 := Lib.hid (own_ch HX.out hc' HGB.out)
    have HY3 := Lib.hid (own_ch HY.out hc' HGB.out)
    have HK3 := Lib.hid (hc'.bk HK2.out (by have := HGB.out; omega))
    have m0 : v3.cell? ⟨w.heap.size, 0, none⟩ = some (.int .i64 5) := HK3.out.cell 0
    clear ho hc'
    have wr : IntKind.i64.wrap (n : Int) = (n : Int) := IntWalk.i64_in _ ⟨by omega, by omega⟩
    have hn0 : (0 : Int) ≤ (n : Int) := by omega
    have hny : (n : Int) ≤ (yb : Int) := by omega
    have hmx : max (2 : Int) (n : Int) = (n : Int) := by omega
    go_wp2_with fail
    go_at_call 21
    refine (range_any q 2 (n : Int) (by decide) (by omega) (by omega) _ HO3.out).mono ?_
    rintro e v4 ⟨mm, rfl, q0, q1, ho, hc'⟩
    obtain ⟨m, rfl⟩ := Int.eq_ofNat_of_zero_le (show 0 ≤ mm by omega)
    have HO4 := Lib.hid ho
    have HC4 : Hid (Ch q w v4) := HC3.out.tr hc'
    have HX4 := Lib.hid (own_ch HX3.out hc' HGB.out)
    have HY4 := Lib.hid (own_ch HY3.out hc' HGB.out)
    have hm0 : (0 : Int) ≤ (m : Int) := by omega
    have hmy : (m : Int) ≤ (yb : Int) := by omega
    clear ho hc'
    go_wp2
    go_ret2
    have oy := Ed.own_take (m := m) HY4.out HLL.out.2.1 (by omega)
    exact ⟨xa, xb, ya, yb, n, m, L, M.take m, rfl, n1, n2, by omega, by omega, ⟨fun e => by omega, fun e => by omega⟩, HX4.out, oy, HLL.out.1, by rw [List.length_take, HLL.out.2.1]; omega, HLL.out.2.2.1, HLL.out.2.2.2.take m, HO4.out, HC4.out⟩
end Go.Proofs.YtpbnabibnkohdaaGreatDoor.Ms
namespace Go.Proofs.YtpbnabibnkohdaaGreatDoor.Ms
open Go.ChangeShapes Go.WideShapes Go.RowKit Wo Sr Wi
set_option linter.unusedVariables false
def SomeX (q : Nat) (k b : Int) (w : World) (e : Ending) (w' : World) : Prop := ∃ (xa xb ya yb n m : Nat) (L N : List Int), e = .returned (.tuple #[.slice (some ⟨xa, 0, none⟩) n xb, .slice (some ⟨ya, 0, none⟩) m yb]) ∧ 2 ≤ n ∧ n ≤ 32 ∧ 2 ≤ m ∧ m ≤ 32 ∧ Fit k b n m ∧ xa < ya ∧
  w'.ownsRow w.heap.size 3 1 (.slice (some ⟨xa, 0, none⟩) n xb) n (zs L) ∧ w'.ownsRow w.heap.size 3 1 (.slice (some ⟨ya, 0, none⟩) m yb) m (zs N) ∧ L.length = n ∧ N.length = m ∧ Sam L ∧ Sam N ∧ Ok w' q ∧ Ch q w w'
set_option maxHeartbeats 8000000 in
set_option maxRecDepth 100000 in
theorem suited_x (q : Nat) (k b g : Int) (hmv : Mv k b g) (w : World) (h : Ok w q) : Calls Tryz.prog 15 #[.pointer (some ⟨q, 0, none⟩), .agg #[.int .i64 k, .int .i64 b, .int .i64 g]] w (SomeX q k b w) := by
  have HGB := Lib.hid h.lt
  have HO0 : Hid (Ok (w.alloc (.cells #[.int .i64 k, .int .i64 b, .int .i64 g] 38)) q) := h.bel (Bel.rf.al _)
  have HK0 : Hid (Bk (w.alloc (.cells #[.int .i64 k, .int .i64 b, .int .i64 g] 38)) w.heap.size 38 #[.int .i64 k, .int .i64 b, .int .i64 g]) := Bk.nw _ _ _
  have HC0 : Hid (Ch q w (w.alloc (.cells #[.int .i64 k, .int .i64 b, .int .i64 g] 38))) := Ch.of_bel (Bel.rf.al _)
  clear h
  go_enter Tryz.func15, Tryz.ntmps15
  go_wp2_with fail
  go_at_call 7
  refine (pair_any q _ HO0.out).mono ?_
  rintro e v2 ⟨xa, xb, ya, yb, n, L, M, rfl, n1, n2, hxy, hox, hoy, lL, lM, sL, sM, ho, hc⟩
  have hle : w.heap.size ≤ (w.alloc (.cells #[.int .i64 k, .int .i64 b, .int .i64 g] 38)).heap.size := by simp
  have HX : Hid (v2.ownsRow w.heap.size 3 1 (.slice (some ⟨xa, 0, none⟩) n xb) n (zs L)) := own_low hox hle
  have HY : Hid (v2.ownsRow w.heap.size 3 1 (.slice (some ⟨ya, 0, none⟩) n yb) n (zs M)) := own_low hoy hle
  have hyb := Ed.own_cap hoy
  have HO2 := Lib.hid ho
  have HC2 : Hid (Ch q w v2) := HC0.out.tr hc
  have kk := hc.bk HK0.out (by have := HGB.out; omega)
  have HK2 := Lib.hid kk
  have m0 : v2.cell? ⟨w.heap.size, 0, none⟩ = some (.int .i64 k) := kk.cell 0
  have m1 : v2.cell? ⟨w.heap.size, 1, none⟩ = some (.int .i64 b) := kk.cell 1
  have HLL := Lib.hid (And.intro lL (And.intro lM (And.intro sL sM)))
  have HN := Lib.hid (And.intro n1 n2)
  clear hox hoy ho hc kk lL lM sL sM
  rcases hmv with ⟨hk, rfl, rfl⟩ | ⟨rfl, b0, b1, rfl⟩ | ⟨rfl, rfl, g0, g1⟩
  · have k5 : ¬ k = 5 := by omega
    have k4 : ¬ k = 4 := by omega
    have e5 : (k == 5) = false := by simpa using k5
    have e4 : (k == 4) = false := by simpa using k4
    have HKK := Lib.hid hk
    clear hk k5 k4
    go_wp2
    go_ret2
    exact ⟨xa, xb, ya, yb, n, n, L, M, rfl, n1, n2, n1, n2, ⟨fun _ => rfl, fun e => by have := HKK.out; omega⟩, hxy, HX.out, HY.out, HLL.out.1, HLL.out.2.1, HLL.out.2.2.1, HLL.out.2.2.2, HO2.out, HC2.out⟩
  · have mn : 0 ≤ min b 4 ∧ min b 4 ≤ 4 ∧ min b 4 ≤ b := by omega
    obtain ⟨c, hc⟩ : ∃ c, min b 4 = c := ⟨_, rfl⟩
    rw [hc] at mn
    have wc : IntKind.i64.wrap (1 + c) = 1 + c := IntWalk.i64_in _ ⟨by omega, by omega⟩
    go_wp2_with fail
    go_at_call 20
    refine (n_any q (1 + c) (by omega) (by omega) _ HO2.out).mono ?_
    rintro e v3 ⟨r, rfl, r0, r1, ho, hc'⟩
    have HO3 := Lib.hid ho
    have HC3 : Hid (Ch q w v3) := HC2.out.tr hc'
    have HX3 := Lib.hid (own_ch HX.out hc' HGB.out)
    have HY3 := Lib.hid (own_ch HY.out hc' HGB.out)
    have HK3 := Lib.hid (hc'.bk HK2.out (by have := HGB.out; omega))
    have m0 : v3.cell? ⟨w.heap.size, 0, none⟩ = some (.int .i64 4) := HK3.out.cell 0
    clear ho hc'
    have wr : IntKind.i64.wrap ((n : Int) - r) = (n : Int) - r := IntWalk.i64_in _ ⟨by omega, by omega⟩
    obtain ⟨m, hmx, m2, mn2, mr⟩ : ∃ m : Nat, max (2 : Int) ((n : Int) - r) = (m : Int) ∧ 2 ≤ m ∧ m ≤ n ∧ (n : Int) - (m : Int) ≤ r := ⟨(max (2 : Int) ((n : Int) - r)).toNat, by omega, by omega, by omega, by omega⟩
    have hm0 : (0 : Int) ≤ (m : Int) := by omega
    have hmy : (m : Int) ≤ (yb : Int) := by omega
    go_wp2
    go_ret2
    have oy := Ed.own_take (m := m) HY3.out HLL.out.2.1 (by omega)
    exact ⟨xa, xb, ya, yb, n, m, L, M.take m, rfl, n1, n2, by omega, by omega, ⟨fun e => by omega, fun e => ⟨by omega, by omega⟩⟩, hxy, HX3.out, oy, HLL.out.1, by rw [List.length_take, HLL.out.2.1]; omega, HLL.out.2.2.1, HLL.out.2.2.2.take m, HO3.out, HC3.out⟩
  · have wc : IntKind.i64.wrap (1 + 0) = 1 := by decide
    go_wp2_with fail
    go_at_call 20
    refine (n_any q 1 (by omega) (by omega) _ HO2.out).mono ?_
    rintro e v3 ⟨r, rfl, r0, r1, ho, hc'⟩
    obtain rfl : r = 0 := by omega
    have HO3 := Lib.hid ho
    have HC3 : Hid (Ch q w v3) := HC2.out.tr hc'
    have HX3 := Lib.hid (own_ch HX.out hc' HGB.out)
    have HY3 := Lib.hid (own_ch HY.out hc' HGB.out)
    have HK3 := Lib.hid (hc'.bk HK2.out (by have := HGB.out; omega))
    have m0 : v3.cell? ⟨w.heap.size, 0, none⟩ = some (.int .i64 5) := HK3.out.cell 0
    clear ho hc'
    have wr : IntKind.i64.wrap (n : Int) = (n : Int) := IntWalk.i64_in _ ⟨by omega, by omega⟩
    have hn0 : (0 : Int) ≤ (n : Int) := by omega
    have hny : (n : Int) ≤ (yb : Int) := by omega
    have hmx : max (2 : Int) (n : Int) = (n : Int) := by omega
    go_wp2_with fail
    go_at_call 21
    refine (range_any q 2 (n : Int) (by decide) (by omega) (by omega) _ HO3.out).mono ?_
    rintro e v4 ⟨mm, rfl, q0, q1, ho, hc'⟩
    obtain ⟨m, rfl⟩ := Int.eq_ofNat_of_zero_le (show 0 ≤ mm by omega)
    have HO4 := Lib.hid ho
    have HC4 : Hid (Ch q w v4) := HC3.out.tr hc'
    have HX4 := Lib.hid (own_ch HX3.out hc' HGB.out)
    have HY4 := Lib.hid (own_ch HY3.out hc' HGB.out)
    have hm0 : (0 : Int) ≤ (m : Int) := by omega
    have hmy : (m : Int) ≤ (yb : Int) := by omega
    clear ho hc'
    go_wp2
    go_ret2
    have oy := Ed.own_take (m := m) HY4.out HLL.out.2.1 (by omega)
    exact ⟨xa, xb, ya, yb, n, m, L, M.take m, rfl, n1, n2, by omega, by omega, ⟨fun e => by omega, fun e => by omega⟩, hxy, HX4.out, oy, HLL.out.1, by rw [List.length_take, HLL.out.2.1]; omega, HLL.out.2.2.1, HLL.out.2.2.2.take m, HO4.out, HC4.out⟩
end Go.Proofs.YtpbnabibnkohdaaGreatDoor.Ms
namespace Go.Proofs.YtpbnabibnkohdaaGreatDoor.Un
open Go.ChangeShapes Go.WideShapes Go.RowKit Wo
set_option linter.unusedVariables false
/-- the table of the powers of ten, as it is laid -/
def Pows (w : World) : Prop := ∀ i : Nat, i ≤ 6 → w.cell? ⟨0, i, none⟩ = some (.int .i64 (10 ^ i))
theorem pows_of {W : World} (h : laidMetH Tryz.prog [("shapesearch/unit.powers", Rows.laid_shapesearch_unit_powers)] W) : Pows W := by
  rw [MakeChecks.laidMetH_plain _ _ _ (by kernel_rfl)] at h
  have t : Lib.TabIs Tryz.prog W "shapesearch/unit.powers" .i64 [1, 10, 100, 1000, 10000, 100000, 1000000] :=
    Lib.tabIs_of_head (g := 0) (t := 173) (e := 3) (n := 7) (by kernel_rfl) (by kernel_rfl) Tryz.underlying173 Tryz.underlying3 (by kernel_rfl) (by kernel_rfl) h
  intro i hi
  have := t.cell (g := 0) (by kernel_rfl) i (by simp; omega)
  rw [this]
  match i, hi with
  | 0, _ => rfl
  | 1, _ => rfl
  | 2, _ => rfl
  | 3, _ => rfl
  | 4, _ => rfl
  | 5, _ => rfl
  | 6, _ => rfl
theorem Pows.bel {w w' : World} (h : Pows w) (hb : Bel w w') : Pows w' := fun i hi => hb.kp (h i hi)
theorem parse_any (s : ByteArray) (body : ByteArray) (m : Bool) (hs : body.size ≤ 4611686018427387904) (h1 : (⟨(Lib.trimPrefix s.data.toList [45]).toArray⟩ : ByteArray) = body) (h2 : Lib.hasPrefix s.data.toList [45] = m) (w : World) :
    Calls Tryz.prog 84 #[.string s] w fun e w' => e = .returned (prs (rn body.data.toList) m) ∧ Bel w w' :=
  parse_core s body m hs w fun w => (Tryz.strings_CutPrefix s ⟨#[45]⟩ w).mono fun e w' ⟨he, hw⟩ => ⟨by rw [he, ← h1, ← h2], hw.symm⟩
theorem parse_ex (w : World) : Calls Tryz.prog 84 #[.string ⟨#[45, 49, 50, 46, 53, 48]⟩] w fun e w' => e = .returned (.tuple #[.agg #[.int .i64 (-1250), .int .i64 2], .int .i64 0]) ∧ Bel w w' :=
  (parse_any ⟨#[45, 49, 50, 46, 53, 48]⟩ ⟨#[49, 50, 46, 53, 48]⟩ true (by decide) (by rfl) (by rfl) w).mono fun e w' ⟨he, hw⟩ => ⟨by rw [he]; rfl, hw⟩
theorem low_lit {a : Array UInt8} (h1 : 1 ≤ a.size) (h2 : a.size ≤ 12) (h3 : ∀ c ∈ a.toList, 97 ≤ c.toNat ∧ c.toNat ≤ 122) : Low ⟨a⟩ :=
  ⟨h1, h2, fun i h => h3 _ (by show a[i] ∈ a.toList; simp)⟩
theorem low_raw : Low ⟨#[114, 97, 119]⟩ := low_lit (by decide) (by decide) (by decide)
theorem low_f : Low ⟨#[102]⟩ := low_lit (by decide) (by decide) (by decide)
/-- Convert, with the table -/
theorem conv_as (x : Int) (p : Nat) (s : ByteArray) (m a d : Int) (R : Value) (x1 : -1000000000 ≤ x) (x2 : x ≤ 1000000000) (hp : p ≤ 6) (hs : Low s) (m1 : 1 ≤ m) (m2 : m ≤ 1000000) (a1 : -1000000000 ≤ a) (a2 : a ≤ 1000000000) (d1 : 1 ≤ d) (d2 : d ≤ 1000000)
    (hR : cvt (x * m + a * 10 ^ p) (d * 10 ^ p) = R) (w : World) (hw : Pows w) :
    Calls Tryz.prog 86 #[.agg #[.int .i64 x, .int .i64 (p : Int)], .agg #[.string s, .int .i64 m, .int .i64 a, .int .i64 d]] w fun e w' => e = .returned R ∧ Bel w w' := by
  have h1 : (1 : Int) ≤ 10 ^ p ∧ (10 : Int) ^ p ≤ 1000000 := by
    match p, hp with
    | 0, _ => decide
    | 1, _ => decide
    | 2, _ => decide
    | 3, _ => decide
    | 4, _ => decide
    | 5, _ => decide
    | 6, _ => decide
  have := convert_any x p (10 ^ p) s m a d x1 x2 hp h1.1 h1.2 hs m1 m2 a1 a2 d1 d2 w (hw p hp)
  rwa [hR] at this
theorem conv_25 (w : World) (hw : Pows w) : Calls Tryz.prog 86 #[.agg #[.int .i64 (-25), .int .i64 1], .agg #[.string ⟨#[114, 97, 119]⟩, .int .i64 1, .int .i64 0, .int .i64 1]] w fun e w' => e = .returned (.tuple #[.int .i64 (-2), .int .i64 0]) ∧ Bel w w' :=
  conv_as (-25) 1 _ 1 0 1 _ (by decide) (by decide) (by decide) low_raw (by decide) (by decide) (by decide) (by decide) (by decide) (by decide) (by rfl) w hw
theorem conv_366 (w : World) (hw : Pows w) : Calls Tryz.prog 86 #[.agg #[.int .i64 366, .int .i64 1], .agg #[.string ⟨#[102]⟩, .int .i64 9, .int .i64 160, .int .i64 5]] w fun e w' => e = .returned (.tuple #[.int .i64 98, .int .i64 0]) ∧ Bel w w' :=
  conv_as 366 1 _ 9 160 5 _ (by decide) (by decide) (by decide) low_f (by decide) (by decide) (by decide) (by decide) (by decide) (by decide) (by rfl) w hw
end Go.Proofs.YtpbnabibnkohdaaGreatDoor.Un
namespace Go.Proofs.YtpbnabibnkohdaaGreatDoor.Rt
open Go.ChangeShapes Go.WideShapes Go.RowKit Wo Un Rg
open Rm (Rp tm vl)
set_option linter.unusedVariables false
theorem ba_of (x : ByteArray) (l : List UInt8) (h : x.data.toList = l) : x = ⟨l.toArray⟩ := by
  subst h
  exact (Lib.mk_data x).symm
/-- strings.Cut at a line feed -/
def cut10 (l : List UInt8) : List UInt8 × List UInt8 × Bool := if 0 ≤ Lib.indexByte l 10 then (l.take (Lib.indexByte l 10).toNat, l.drop ((Lib.indexByte l 10).toNat + 1), true) else (l, [], false)
set_option maxHeartbeats 2000000 in
theorem scut10 (s : ByteArray) (hs : s.size ≤ 281474976710656) (w : World) : Calls Tryz.prog 81 #[.string s, .string ⟨#[10]⟩] w fun e w' =>
    e = .returned (.tuple #[.string ⟨(cut10 s.data.toList).1.toArray⟩, .string ⟨(cut10 s.data.toList).2.1.toArray⟩, .bool (cut10 s.data.toList).2.2]) ∧ Bel w w' := by
  obtain ⟨v, hv⟩ : ∃ v, Lib.indexByte s.data.toList 10 = v := ⟨_, rfl⟩
  have HI : Hid (∀ W, Calls Tryz.prog 108 #[.string s, .string ⟨#[10]⟩] W fun e w' => e = .returned (.int .i64 v) ∧ w' = W) := fun W => by
    have := Tryz.stringslite_Index_one s 10 W
    rw [hv] at this
    exact this
  have hge := Lib.indexByte_ge s.data.toList 10
  rw [hv] at hge
  rcases Int.lt_or_le v 0 with h0 | h0
  · have e : v = -1 := by omega
    subst e
    have HC : Hid (cut10 s.data.toList = (s.data.toList, [], false)) := by
      unfold cut10; rw [hv]; rfl
    clear hv hge h0
    go_enter Tryz.func81, Tryz.ntmps81
    go_wp2_with fail
    go_at_call 108
    refine (HI.out _).mono ?_
    rintro e w1 ⟨rfl, rfl⟩
    go_wp2
    exact bodyPost_ret (v := .tuple #[.string s, .string ⟨#[]⟩, .bool false]) (by simp [results, Tryz.results81, go_sem]) rfl ⟨by rw [HC.out, Lib.mk_data], Bel.rf⟩
  · obtain ⟨i, rfl⟩ := Int.eq_ofNat_of_zero_le h0
    have hi := (Lib.indexByte_some hv).1
    have hlt : i < s.size := by
      rw [Lib.size_eq]
      exact (List.getElem?_eq_some_iff.1 hi).1
    have b0 : (0 : Int) ≤ (i : Int) := by omega
    have b1 : (i : Int) ≤ (s.size : Int) := by omega
    have b2 : (i : Int) + 1 ≤ (s.size : Int) := by omega
    have b3 : (s.size : Int) ≤ 281474976710656 := by omega
    have b4 : ((i : Int) + 1).toNat = i + 1 := by omega
    have HC : Hid (cut10 s.data.toList = ((s.extract 0 i).data.toList, (s.extract (i + 1) s.size).data.toList, true)) := by
      unfold cut10
      rw [hv, if_pos h0, Int.toNat_natCast, Lib.extract_data, Lib.extract_to_end, List.drop_zero, Nat.sub_zero]; exact Lib.hid rfl
    clear hv hge h0 hi
    go_enter Tryz.func81, Tryz.ntmps81
    go_wp2_with fail
    go_at_call 108
    refine (HI.out _).mono ?_
    rintro e w1 ⟨rfl, rfl⟩
    go_wp2
    go_quiet (fail)
    go_wp2
    exact bodyPost_ret (v := .tuple #[.string (s.extract 0 i), .string (s.extract (i + 1) s.size), .bool true]) (by simp [results, Tryz.results81, go_sem]) rfl ⟨by rw [HC.out, Lib.mk_data, Lib.mk_data], Bel.rf.drwN _⟩
theorem cut10_any (s : ByteArray) (hs : s.size ≤ 281474976710656) (w : World) : Calls Tryz.prog 58 #[.string s, .string ⟨#[10]⟩] w fun e w' =>
    e = .returned (.tuple #[.string ⟨(cut10 s.data.toList).1.toArray⟩, .string ⟨(cut10 s.data.toList).2.1.toArray⟩, .bool (cut10 s.data.toList).2.2]) ∧ Bel w w' := by
  have H := Lib.hid (scut10 s hs)
  generalize cut10 s.data.toList = c at H ⊢
  obtain ⟨c1, c2, c3⟩ := c
  go_enter Tryz.func58, Tryz.ntmps58
  go_wp2_with fail
  go_at_call 81
  refine (H.out _).mono ?_
  rintro e w1 ⟨rfl, hb⟩
  go_wp2
  exact bodyPost_ret (v := .tuple #[.string ⟨c1.toArray⟩, .string ⟨c2.toArray⟩, .bool c3]) (by simp [results, Tryz.results58, go_sem]) rfl ⟨rfl, hb⟩

theorem cut10_is (l : List UInt8) : (cut10 l).1 = (cutN l).1 ∧ (cut10 l).2.1 = (cutN l).2 := by
  unfold cut10 cutN
  split
  · exact ⟨rfl, rfl⟩
  · exact ⟨rfl, rfl⟩
theorem cutN_any (s : ByteArray) (hs : s.size ≤ 281474976710656) : ∃ b : Bool, ∀ w, Calls Tryz.prog 58 #[.string s, .string ⟨#[10]⟩] w fun e w' =>
    e = .returned (.tuple #[.string ⟨(cutN s.data.toList).1.toArray⟩, .string ⟨(cutN s.data.toList).2.toArray⟩, .bool b]) ∧ Bel w w' := by
  refine ⟨(cut10 s.data.toList).2.2, fun w => ?_⟩
  have := cut10_any s hs w
  rw [(cut10_is _).1, (cut10_is _).2] at this
  exact this
/-- strings.Split at a blank -/
def wds (s : ByteArray) : List ByteArray := Lib.splitB ⟨#[32]⟩ 0 (Lib.countB s ⟨#[32]⟩) s
theorem wds_data (s : ByteArray) : (wds s).map (·.data.toList) = Lib.split s.data.toList [32] := Lib.splitB_data _ _ _ _
def Spl (s : ByteArray) (w : World) (e : Ending) (w' : World) : Prop := e = .returned (.slice (some ⟨w.heap.size, 0, none⟩) (wds s).length (wds s).length) ∧ w' = w.alloc (.cells ((wds s).map Value.string).toArray 9)
set_option maxHeartbeats 1000000 in
theorem gsplit (s : ByteArray) (hs : s.size < 4294967281) (w : World) : Calls Tryz.prog 109 #[.string s, .string ⟨#[32]⟩, .int .i64 0, .int .i64 (-1)] w (Spl s w) := by
  have hlen := Lib.splitB_all ⟨#[32]⟩ (by decide) 0 _ s rfl
  have hle := Lib.countB_le ⟨#[32]⟩ (by decide) s.size s (Nat.le_refl _)
  have c := Any.strings_genSplit_core Tryz.lays221 (by kernel_rfl) s ⟨#[32]⟩ 0 (-1) (Lib.countB s ⟨#[32]⟩ + 1) w hs (by decide) (by decide)
    (fun x c hx => by
      have h := Tryz.strings_Index_one x 32 (w.alloc (.cells c 9))
      refine h.mono ?_
      rintro e w' ⟨he, hw⟩
      refine ⟨?_, hw⟩
      rw [he]
      show Ending.returned (Value.int .i64 (Lib.indexByte x.data.toList 32)) = Ending.returned (Value.int .i64 (Lib.index x.data.toList [32]))
      rw [Lib.index_one])
    (by
      refine (Tryz.strings_Count_one s 32 w).mono ?_
      rintro e w' ⟨he, hw⟩
      refine ⟨?_, hw⟩
      rw [he]
      show _ = Ending.returned (Value.int .i64 ((Lib.count s.data.toList [32] : Nat) : Int))
      rw [Lib.count_one]
      rfl)
    (by decide) (by decide) (by rw [if_pos (by decide)]; omega)
  rw [Nat.add_sub_cancel, hlen] at c
  refine c.mono ?_
  rintro e w' ⟨he, hw⟩
  unfold Spl wds
  refine ⟨?_, ?_⟩
  · rw [he, hlen]
  · have e2 : Lib.cellsOf (Lib.splitB ⟨#[32]⟩ 0 (Lib.countB s ⟨#[32]⟩) s) (Lib.countB s ⟨#[32]⟩ + 1) = ((Lib.splitB ⟨#[32]⟩ 0 (Lib.countB s ⟨#[32]⟩) s).map Value.string).toArray := by rw [← hlen]; exact Lib.cellsOf_full _
    rw [hw, e2]; rfl
theorem split_any (s : ByteArray) (hs : s.size < 4294967281) (w : World) : Calls Tryz.prog 82 #[.string s, .string ⟨#[32]⟩] w (Spl s w) := by
  have H := Lib.hid (gsplit s hs)
  go_enter Tryz.func82, Tryz.ntmps82
  go_wp2_with fail
  go_at_call 109
  refine (H.out _).mono ?_
  rintro e w1 ⟨rfl, rfl⟩
  go_wp2
  go_ret
  exact ⟨rfl, rfl⟩
/-- strings.Trim of digits -/
def digs : ByteArray := ⟨#[48, 49, 50, 51, 52, 53, 54, 55, 56, 57]⟩
theorem trim_any (s : ByteArray) (hs : s.size ≤ 9223372036854775807) (w : World) : Calls Tryz.prog 110 #[.string s, .string ⟨#[48, 49, 50, 51, 52, 53, 54, 55, 56, 57]⟩] w fun e w' =>
    e = .returned (.string ⟨(Lib.trimS s.data.toList [48, 49, 50, 51, 52, 53, 54, 55, 56, 57]).toArray⟩) ∧ Bel w w' :=
  Any.strings_Trim_laid Tryz.lays160 (by kernel_rfl) s ⟨#[48, 49, 50, 51, 52, 53, 54, 55, 56, 57]⟩ w hs (by decide) (ascii_of_all (by decide))
end Go.Proofs.YtpbnabibnkohdaaGreatDoor.Rt
namespace Go.Proofs.YtpbnabibnkohdaaGreatDoor.Rt
open Go.ChangeShapes Go.WideShapes Go.RowKit Wo Un Rg
open Rm (Rp tm vl)
set_option linter.unusedVariables false
def dg : List UInt8 := [48, 49, 50, 51, 52, 53, 54, 55, 56, 57]
set_option maxRecDepth 100000 in
theorem dg_all : ∀ n : Fin 256, dg.contains (UInt8.ofNat n.val) = (decide (48 ≤ (UInt8.ofNat n.val).toNat) && decide ((UInt8.ofNat n.val).toNat ≤ 57)) := by decide
theorem dg_is (c : UInt8) : dg.contains c = (decide (48 ≤ c.toNat) && decide (c.toNat ≤ 57)) := by
  have h := dg_all ⟨c.toNat, UInt8.toNat_lt c⟩
  rwa [show UInt8.ofNat c.toNat = c from UInt8.ofNat_toNat] at h
theorem dw_nil (p : UInt8 → Bool) : ∀ l : List UInt8, l.dropWhile p = [] ↔ l.all p = true
  | [] => by simp
  | c :: l => by
    have ih := dw_nil p l
    rw [List.dropWhile_cons, List.all_cons]
    cases hc : p c
    · simp
    · simpa using ih
theorem trim_nil (l : List UInt8) : Lib.trimS l dg = [] ↔ l.all (fun c => decide (48 ≤ c.toNat) && decide (c.toNat ≤ 57)) = true := by
  have e : (fun c => decide (48 ≤ c.toNat) && decide (c.toNat ≤ 57)) = (fun c : UInt8 => dg.contains c) := by funext c; exact (dg_is c).symm
  rw [e]
  unfold Lib.trimS Lib.trimLeftS Lib.trimRightS
  constructor
  · intro h
    have h1 := (dw_nil _ _).1 h
    rw [List.all_reverse] at h1
    -- what is left begins (from behind) with no digit
    rcases hq : l.reverse.dropWhile (dg.contains ·) with _ | ⟨c, r⟩
    · have := (dw_nil _ _).1 hq
      rwa [List.all_reverse] at this
    · exfalso
      have hc : dg.contains c = false := by
        have := List.head?_dropWhile_not (dg.contains ·) l.reverse
        rw [hq] at this
        simpa using this
      rw [hq, List.all_cons, hc] at h1
      simp at h1
  · intro h
    have h1 : l.reverse.dropWhile (dg.contains ·) = [] := (dw_nil _ _).2 (by rw [List.all_reverse]; exact h)
    rw [h1]; rfl
theorem tr_emp (l : List UInt8) : (Lib.trimS l [48, 49, 50, 51, 52, 53, 54, 55, 56, 57]).isEmpty = l.all (fun c => decide (48 ≤ c.toNat) && decide (c.toNat ≤ 57)) := by
  rw [Bool.eq_iff_iff, List.isEmpty_iff]
  exact trim_nil l
theorem isT_in (l : List UInt8) (h1 : 1 ≤ l.length) (h2 : l.length ≤ 13) : isT l = (!(l.head? == some 48 && l != [48]) && (Lib.trimS l [48, 49, 50, 51, 52, 53, 54, 55, 56, 57]).isEmpty) := by
  unfold isT
  rw [decide_eq_true h1, decide_eq_true h2, tr_emp, Bool.true_and, Bool.true_and]
set_option maxHeartbeats 2000000 in
theorem isTime_any (s : ByteArray) (hs : s.size ≤ 20000) (w : World) : Calls Tryz.prog 83 #[.string s] w fun e w' => e = .returned (.bool (isT s.data.toList)) ∧ Bel w w' := by
  have hle : s.data.toList.length = s.size := (Lib.size_eq s).symm
  have HT := Lib.hid (trim_any s (by omega))
  obtain ⟨r, hr⟩ : ∃ r, isT s.data.toList = r := ⟨_, rfl⟩
  rw [hr]
  have hu := hr
  unfold isT at hu
  rw [hle] at hu
  rcases Nat.lt_or_ge s.size 1 with h0 | h0
  · have hF : r = false := by rw [decide_eq_false (by omega)] at hu; simpa using hu.symm
    subst hF
    have s1 : (s.size : Int) < 1 := by omega
    clear hu hr hle HT
    go_enter Tryz.func83, Tryz.ntmps83
    go_wp2
    go_ret
    exact ⟨rfl, Bel.rf⟩
  · rcases Nat.lt_or_ge 13 s.size with h13 | h13
    · have hF : r = false := by rw [decide_eq_false (by omega : ¬ s.size ≤ 13)] at hu; simpa using hu.symm
      subst hF
      have s1 : ¬ (s.size : Int) < 1 := by omega
      have s2 : (13 : Int) < (s.size : Int) := by omega
      clear hu hr hle HT
      go_enter Tryz.func83, Tryz.ntmps83
      go_wp2
      go_ret
      exact ⟨rfl, Bel.rf⟩
    · have s1 : ¬ (s.size : Int) < 1 := by omega
      have s2 : ¬ (13 : Int) < (s.size : Int) := by omega
      have s3 : (0 : Int) < (s.size : Int) := by omega
      obtain ⟨c, rest, hl⟩ : ∃ c rest, s.data.toList = c :: rest := by
        rcases hq : s.data.toList with _ | ⟨c, rest⟩
        · rw [hq] at hle; simp at hle; omega
        · exact ⟨c, rest, rfl⟩
      have h00 : s[0] = c := by
        have : s.data.toList[0]? = some c := by rw [hl]; rfl
        have e2 : s.data.toList[0]? = some s[0] := by rw [Array.getElem?_toList]; exact Array.getElem?_eq_getElem _
        rw [e2] at this
        exact Option.some.inj this
      have hin := isT_in s.data.toList (by omega) (by omega)
      rw [hr, hl] at hin
      have htl : s.toList = c :: rest := by rw [Lib.toList_data]; exact hl
      rcases Classical.em (c.toNat = 48) with hc | hc
      · have c1 : ((c.toNat : Int) == 48) = true := by simpa using (by omega : (c.toNat : Int) = 48)
        have c2 : (c.toNat : Int) = 48 := by omega
        have c3 : c = 48 := u8_eq hc
        rcases Classical.em (rest = []) with hre | hre
        · have kq : (s.toList == [48]) = true := by rw [htl, c3, hre]; rfl
          have HR : Hid (r = (Lib.trimS (c :: rest) [48, 49, 50, 51, 52, 53, 54, 55, 56, 57]).isEmpty) := by
            unfold Hid
            rw [hin, c3, hre]; rfl
          clear hu hr hin htl c3 hre
          go_enter Tryz.func83, Tryz.ntmps83
          go_wp2_with fail
          go_at_call 110
          refine (HT.out _).mono ?_
          rintro e w1 ⟨rfl, hb⟩
          go_wp2
          exact bodyPost_ret (v := .bool r) (by rw [HR.out]; simp [results, Tryz.results83, go_sem]) rfl ⟨rfl, hb⟩
        · have kq : (s.toList == [48]) = false := by
            rw [htl, c3]
            simpa using hre
          have hF : r = false := by
            have : ((48 :: rest) != ([48] : List UInt8)) = true := by simpa using hre
            rw [hin, c3, this]; rfl
          subst hF
          clear hu hr hin htl c3 HT
          go_enter Tryz.func83, Tryz.ntmps83
          go_wp2
          go_ret
          exact ⟨rfl, Bel.rf⟩
      · have c1 : ((c.toNat : Int) == 48) = false := by simpa using (by omega : ¬ (c.toNat : Int) = 48)
        have c2 : ¬ (c.toNat : Int) = 48 := by omega
        have HR : Hid (r = (Lib.trimS (c :: rest) [48, 49, 50, 51, 52, 53, 54, 55, 56, 57]).isEmpty) := by
          unfold Hid
          have : (some c == some (48 : UInt8)) = false := by
            simp
            intro e; rw [e] at hc; exact hc rfl
          rw [hin, List.head?_cons, this]; rfl
        clear hu hr hin htl
        go_enter Tryz.func83, Tryz.ntmps83
        go_wp2_with fail
        go_at_call 110
        refine (HT.out _).mono ?_
        rintro e w1 ⟨rfl, hb⟩
        go_wp2
        exact bodyPost_ret (v := .bool r) (by rw [HR.out]; simp [results, Tryz.results83, go_sem]) rfl ⟨rfl, hb⟩
end Go.Proofs.YtpbnabibnkohdaaGreatDoor.Rt
namespace Go.Proofs.YtpbnabibnkohdaaGreatDoor.Rt
open Go.ChangeShapes Go.WideShapes Go.RowKit Wo Un Rg Go.MapKept
open Rm (Rp tm vl)
set_option linter.unusedVariables false
/-- a unit as a value -/
def uv (u : Ut) : Value := .agg #[.string ⟨u.nm.toArray⟩, .int .i64 u.mul, .int .i64 u.add, .int .i64 u.div]
def ents : List Ut → Nat → List MapEntry
  | [], _ => []
  | u :: us, k => ⟨.string ⟨u.nm.toArray⟩, uv u, k⟩ :: ents us (k + 1)
/-- the map of the units -/
def Mp (w : World) (r : Nat) (US : List Ut) : Prop := w.heap[r]? = some (.map (ents US 0).toArray US.length)
theorem Mp.lt {w : World} {r : Nat} {US : List Ut} (h : Mp w r US) : r < w.heap.size := by
  rcases Nat.lt_or_ge r w.heap.size with h1 | h1
  · exact h1
  · unfold Mp at h; rw [Array.getElem?_eq_none h1] at h; cases h
theorem Mp.bel {w w' : World} {r : Nat} {US : List Ut} (h : Mp w r US) (hb : Bel w w') : Mp w' r US := (Below.block hb r h.lt).trans h
theorem ba_mk (l : List UInt8) : (⟨l.toArray⟩ : ByteArray).data.toList = l := rfl
theorem ba_beq (a b : List UInt8) : ((⟨a.toArray⟩ : ByteArray) == ⟨b.toArray⟩) = (a == b) := by
  rw [Bool.eq_iff_iff, bytes_beq, beq_iff_eq]
  constructor
  · intro h
    have := congrArg (fun x : ByteArray => x.data.toList) h
    simpa using this
  · intro h; rw [h]
theorem find_ents (n : List UInt8) : ∀ (US : List Ut) (k i : Nat), (look US n = none → Instr.findNow .string (.string ⟨n.toArray⟩) (ents US k) i = some none) ∧
    (∀ u, look US n = some u → ∃ j, Instr.findNow .string (.string ⟨n.toArray⟩) (ents US k) i = some (some (j, uv u)))
  | [], k, i => ⟨fun _ => rfl, fun u h => by cases h⟩
  | u :: us, k, i => by
    have ih := find_ents n us (k + 1) (i + 1)
    have hs : Instr.sameNow .string (.string ⟨n.toArray⟩) (.string ⟨u.nm.toArray⟩) = some (n == u.nm) := by
      show some ((⟨n.toArray⟩ : ByteArray) == ⟨u.nm.toArray⟩) = _
      rw [ba_beq]
    have hc : (u.nm == n) = (n == u.nm) := by rw [Bool.eq_iff_iff, beq_iff_eq, beq_iff_eq]; exact eq_comm
    have hf : Instr.findNow .string (.string ⟨n.toArray⟩) (ents (u :: us) k) i = if (n == u.nm) = true then some (some (i, uv u)) else Instr.findNow .string (.string ⟨n.toArray⟩) (ents us (k + 1)) (i + 1) := by
      show (match Instr.sameNow .string (.string ⟨n.toArray⟩) (.string ⟨u.nm.toArray⟩) with | some true => some (some (i, uv u)) | some false => Instr.findNow .string (.string ⟨n.toArray⟩) (ents us (k + 1)) (i + 1) | none => none) = _
      rw [hs]
      cases (n == u.nm) <;> rfl
    unfold look at ih ⊢
    rw [List.find?_cons, hc, hf]
    cases (n == u.nm)
    · exact ih
    · exact ⟨fun h => (by cases h), fun v h => ⟨i, by cases h; rfl⟩⟩
theorem run_lookS {P : Program} {T K E : TypeId} (ht : P.underlying T = some (.map K E)) (hkk : P.underlying K = some .string) (w : World) (r clock : Nat) (es : Array MapEntry) (s : ByteArray) (i : Nat) (u : Value) (hb : w.heap[r]? = some (.map es clock)) (hn : Instr.findNow .string (.string s) es.toList 0 = some (some (i, u))) :
    (Instr.lookup T (.map (some r)) (.string s) true).run P w = .ok (.tuple #[u, .bool true]) w := by
  unfold Instr.lookup
  simp [Sem.run_bind, run_underlying ht, Result.andThen, Go.MapKept.run_getObj_map hb, run_checkKey hkk (show IsKey .string (.string s) from trivial), run_findKey hkk hn]
theorem run_missS {P : Program} {T K E : TypeId} (ht : P.underlying T = some (.map K E)) (hkk : P.underlying K = some .string) (w : World) (r clock : Nat) (es : Array MapEntry) (s : ByteArray) (z : Value) (hz : (zeroValue E).run P w = .ok z w) (hb : w.heap[r]? = some (.map es clock)) (hn : Instr.findNow .string (.string s) es.toList 0 = some none) :
    (Instr.lookup T (.map (some r)) (.string s) true).run P w = .ok (.tuple #[z, .bool false]) w := by
  unfold Instr.lookup
  simp [Sem.run_bind, run_underlying ht, Result.andThen, Go.MapKept.run_getObj_map hb, run_checkKey hkk (show IsKey .string (.string s) from trivial), run_findKey hkk hn, hz]
theorem zero_unit (w : World) : (zeroValue 65).run Tryz.prog w = .ok (.agg #[.string ⟨#[]⟩, .int .i64 0, .int .i64 0, .int .i64 0]) w := by
  simp [zeroValue, go_sem]
  rfl
theorem look_hit {w : World} {r : Nat} {US : List Ut} (h : Mp w r US) (s : ByteArray) (u : Ut) (hu : look US s.data.toList = some u) : (Instr.lookup 94 (.map (some r)) (.string s) true).run Tryz.prog w = .ok (.tuple #[uv u, .bool true]) w := by
  obtain ⟨j, hj⟩ := (find_ents s.data.toList US 0 0).2 u hu
  rw [Lib.mk_data] at hj
  exact run_lookS Tryz.underlying94 Tryz.underlying9 w r _ _ s j _ h hj
theorem look_miss {w : World} {r : Nat} {US : List Ut} (h : Mp w r US) (s : ByteArray) (hu : look US s.data.toList = none) : (Instr.lookup 94 (.map (some r)) (.string s) true).run Tryz.prog w = .ok (.tuple #[.agg #[.string ⟨#[]⟩, .int .i64 0, .int .i64 0, .int .i64 0], .bool false]) w := by
  have hj := (find_ents s.data.toList US 0 0).1 hu
  rw [Lib.mk_data] at hj
  exact run_missS Tryz.underlying94 Tryz.underlying9 w r _ _ s _ (zero_unit w) h hj
/-- a valid unit -/
def GoodU (u : Ut) : Prop := Low ⟨u.nm.toArray⟩ ∧ 1 ≤ u.mul ∧ u.mul ≤ 1000000 ∧ -1000000000 ≤ u.add ∧ u.add ≤ 1000000000 ∧ 1 ≤ u.div ∧ u.div ≤ 1000000
end Go.Proofs.YtpbnabibnkohdaaGreatDoor.Rt
namespace Go.Proofs.YtpbnabibnkohdaaGreatDoor.Rt
open Go.ChangeShapes Go.WideShapes Go.RowKit Wo Un Rg Go.MapKept
open Rm (Rp tm vl)
set_option linter.unusedVariables false
def LineR (US : List Ut) (s : ByteArray) (w : World) (e : Ending) (w' : World) : Prop := e = .returned (.tuple #[.agg #[.int .i64 (lineS US s.data.toList).1.1, .int .i64 (lineS US s.data.toList).1.2], .int .i64 (lineS US s.data.toList).2]) ∧ Bel w w'
theorem lineR_of {US : List Ut} {s : ByteArray} {w : World} {t v er : Int} (h : lineS US s.data.toList = ((t, v), er)) {e : Ending} {w' : World} (he : e = .returned (.tuple #[.agg #[.int .i64 t, .int .i64 v], .int .i64 er])) (hb : Bel w w') : LineR US s w e w' := by
  unfold LineR; rw [h]; exact ⟨he, hb⟩
theorem line_ne3 (US : List Ut) (c : List UInt8) (h : (Lib.split c [32]).length ≠ 3) : lineS US c = ((0, 0), 3) := by
  unfold lineS
  split
  · rename_i a b n hq
    rw [hq] at h; exact absurd rfl h
  · rfl
set_option maxHeartbeats 2000000 in
theorem line_short (s : ByteArray) (hs : s.size ≤ 20000) (US : List Ut) (h3 : (wds s).length ≠ 3) (r : Nat) (w : World) :
    Calls Tryz.prog 59 #[.string s, .map (some r)] w (LineR US s w) := by
  have HS := Lib.hid (split_any s (by omega))
  have HR := Lib.hid (line_ne3 US s.data.toList (by rw [← wds_data, List.length_map]; exact h3))
  have kn : (((wds s).length : Int) != 3) = true := by simp; omega
  have kn2 : ¬ ((wds s).length : Int) = 3 := by omega
  go_enter Tryz.func59, Tryz.ntmps59
  go_wp2_with fail
  go_at_call 82
  refine (HS.out _).mono ?_
  rintro e w1 ⟨rfl, rfl⟩
  go_wp2
  exact bodyPost_ret (v := .tuple #[.agg #[.int .i64 0, .int .i64 0], .int .i64 3]) (by simp [results, Tryz.results59, go_sem]) rfl (lineR_of HR.out rfl (by repeat (first | exact Bel.rf | exact hb | (with_reducible refine Bel.drwN ?_ _) | (with_reducible refine Bel.drw ?_) | (with_reducible refine Bel.al ?_ _) | ((with_reducible refine Bel.st2 ?_ ?_ _); (show _ ≤ _); (simp only []; omega)) | refine Bel.tr ?_ (by assumption))))
-- GEN
theorem results_ctR {fn : Func} {p u : Tmp} (h : fn.results = #[.cell p 100, .tmp u]) (tmps : Array Value) (w : World) (g : Nat) (a b : Value)
    (hp : tmps.getD p undef = .pointer (some ⟨g, 0, none⟩)) (hg : Bk w g 100 #[a, b]) :
    (results fn tmps).run Tryz.prog w = .ok (.tuple #[.agg #[a, b], tmps.getD u undef]) w := by
  have hp' : tmps[p]?.getD undef = .pointer (some ⟨g, 0, none⟩) := by simpa using hp
  have hl := run_loadVar_row (P := Tryz.prog) w g 100 100 #[a, b] (0, 0) _ hg Tryz.underlying100 rfl (by kernel_rfl)
  simp [results, h, hp', asAddr, hl]
set_option maxHeartbeats 4000000 in
set_option maxRecDepth 100000 in
theorem line_en (s a b n : ByteArray) (hs : s.size ≤ 20000) (US : List Ut) (hW : wds s = [a, b, n]) (ha : a.size ≤ 20000) (hn : n.data.toList = []) (r : Nat) (w : World) (hr : lineS US s.data.toList = ((0, 0), 3)) :
    Calls Tryz.prog 59 #[.string s, .map (some r)] w (LineR US s w) := by
  have HS : Hid (∀ w, Calls Tryz.prog 82 #[.string s, .string ⟨#[32]⟩] w fun e w' => e = .returned (.slice (some ⟨w.heap.size, 0, none⟩) 3 3) ∧ w' = w.alloc (.cells #[.string a, .string b, .string n] 9)) := fun w => by
    have := split_any s (by omega) w
    unfold Spl at this
    rw [hW] at this
    exact this
  have HR := Lib.hid hr
  clear hr hW
  have e0 : n.toList = [] := by rw [Lib.toList_data]; exact hn
  have e1 : n.toList.isEmpty = true := by rw [e0]; rfl
  go_enter Tryz.func59, Tryz.ntmps59
  go_wp2_with fail
  go_at_call 82
  refine (HS.out _).mono ?_
  rintro e w1 ⟨rfl, rfl⟩
  go_wp2
  exact bodyPost_ret (v := .tuple #[.agg #[.int .i64 0, .int .i64 0], .int .i64 3]) (by simp [results, Tryz.results59, go_sem]) rfl (lineR_of HR.out rfl (by repeat (first | exact Bel.rf | exact hb | (with_reducible refine Bel.drwN ?_ _) | (with_reducible refine Bel.drw ?_) | (with_reducible refine Bel.al ?_ _) | ((with_reducible refine Bel.st2 ?_ ?_ _); (show _ ≤ _); (simp only []; omega)) | refine Bel.tr ?_ (by assumption))))
set_option maxHeartbeats 4000000 in
set_option maxRecDepth 100000 in
theorem line_nt (s a b n : ByteArray) (hs : s.size ≤ 20000) (US : List Ut) (hW : wds s = [a, b, n]) (ha : a.size ≤ 20000) (hn : n.data.toList ≠ []) (hT : isT a.data.toList = false) (r : Nat) (w : World) (hr : lineS US s.data.toList = ((0, 0), 3)) :
    Calls Tryz.prog 59 #[.string s, .map (some r)] w (LineR US s w) := by
  have HS : Hid (∀ w, Calls Tryz.prog 82 #[.string s, .string ⟨#[32]⟩] w fun e w' => e = .returned (.slice (some ⟨w.heap.size, 0, none⟩) 3 3) ∧ w' = w.alloc (.cells #[.string a, .string b, .string n] 9)) := fun w => by
    have := split_any s (by omega) w
    unfold Spl at this
    rw [hW] at this
    exact this
  have HR := Lib.hid hr
  clear hr hW
  have e0 : n.toList.isEmpty = false := by rw [Lib.toList_data]; cases hq : n.data.toList with | nil => exact absurd hq hn | cons c l => rfl
  have e1 : (n.toList == []) = false := by rw [Lib.toList_data]; cases hq : n.data.toList with | nil => exact absurd hq hn | cons c l => rfl
  have HI : Hid (∀ w, Calls Tryz.prog 83 #[.string a] w fun e w' => e = .returned (.bool false) ∧ Bel w w') := fun w => by have := isTime_any a ha w; rw [hT] at this; exact this
  go_enter Tryz.func59, Tryz.ntmps59
  go_wp2_with fail
  go_at_call 82
  refine (HS.out _).mono ?_
  rintro e w1 ⟨rfl, rfl⟩
  go_wp2_with fail
  go_at_call 83
  refine (HI.out _).mono ?_
  rintro e w2 ⟨rfl, hb⟩
  have kB : Bk w2 (w.heap.size + 1) 9 #[.string a, .string b, .string n] := Bk.bel (Bk.nq (w.alloc (.cells #[.int .i64 0, .int .i64 0] 100)) _ _ (by simp)) hb
  have kR : Bk w2 w.heap.size 100 #[.int .i64 0, .int .i64 0] := Bk.bel ((Bk.nw w 100 #[.int .i64 0, .int .i64 0]).al _) hb
  have hb2 : Bel w w2 := ((Bel.rf.al _).al _).tr hb
  have c0 : w2.cell? ⟨w.heap.size + 1, 0, none⟩ = some (.string a) := by rw [kB.cell]; rfl
  have c1 : w2.cell? ⟨w.heap.size + 1, 1, none⟩ = some (.string b) := by rw [kB.cell]; rfl
  have c2 : w2.cell? ⟨w.heap.size + 1, 2, none⟩ = some (.string n) := by rw [kB.cell]; rfl
  have r0 : w2.cell? ⟨w.heap.size, 0, none⟩ = some (.int .i64 0) := by rw [kR.cell]; rfl
  have r1 : w2.cell? ⟨w.heap.size, 1, none⟩ = some (.int .i64 0) := by rw [kR.cell]; rfl
  have f0 := kR.fr 0
  have f1 := kR.fr 1
  have lt1 := kR.lt
  have lt2 := kB.lt
  have g0 : ∀ o, (w2.alloc o).frozen? ⟨w.heap.size, 0, none⟩ = false := fun o => (kR.al o).fr 0
  have g1 : ∀ o, (w2.alloc o).frozen? ⟨w.heap.size, 1, none⟩ = false := fun o => (kR.al o).fr 1
  have HK := Lib.hid kR
  have HB2 := Lib.hid (And.intro kB hb2)
  go_wp2
  exact bodyPost_ret (v := .tuple #[.agg #[.int .i64 0, .int .i64 0], .int .i64 3]) (results_ctR Tryz.results59 _ _ w.heap.size (.int .i64 0) (.int .i64 0) rfl ((HK.out.st 0 _).st 1 _)) rfl (lineR_of HR.out rfl (by repeat (first | exact Bel.rf | exact hb | (with_reducible refine Bel.drwN ?_ _) | (with_reducible refine Bel.drw ?_) | (with_reducible refine Bel.al ?_ _) | ((with_reducible refine Bel.st2 ?_ ?_ _); (show _ ≤ _); (simp only []; omega)) | refine Bel.tr ?_ (by assumption))))
set_option maxHeartbeats 4000000 in
set_option maxRecDepth 100000 in
theorem line_pf (s a b n : ByteArray) (hs : s.size ≤ 20000) (US : List Ut) (hW : wds s = [a, b, n]) (ha : a.size ≤ 20000) (hn : n.data.toList ≠ []) (hT : isT a.data.toList = true) (hbs : (⟨(Lib.trimPrefix b.data.toList [45]).toArray⟩ : ByteArray).size ≤ 4611686018427387904) (X P er : Int) (hp : prs (rn (Lib.trimPrefix b.data.toList [45])) (Lib.hasPrefix b.data.toList [45]) = .tuple #[.agg #[.int .i64 X, .int .i64 P], .int .i64 er]) (her : er = 3) (r : Nat) (w : World) (hr : lineS US s.data.toList = ((0, 0), 3)) :
    Calls Tryz.prog 59 #[.string s, .map (some r)] w (LineR US s w) := by
  have HS : Hid (∀ w, Calls Tryz.prog 82 #[.string s, .string ⟨#[32]⟩] w fun e w' => e = .returned (.slice (some ⟨w.heap.size, 0, none⟩) 3 3) ∧ w' = w.alloc (.cells #[.string a, .string b, .string n] 9)) := fun w => by
    have := split_any s (by omega) w
    unfold Spl at this
    rw [hW] at this
    exact this
  have HR := Lib.hid hr
  clear hr hW
  have e0 : n.toList.isEmpty = false := by rw [Lib.toList_data]; cases hq : n.data.toList with | nil => exact absurd hq hn | cons c l => rfl
  have e1 : (n.toList == []) = false := by rw [Lib.toList_data]; cases hq : n.data.toList with | nil => exact absurd hq hn | cons c l => rfl
  have HI : Hid (∀ w, Calls Tryz.prog 83 #[.string a] w fun e w' => e = .returned (.bool true) ∧ Bel w w') := fun w => by have := isTime_any a ha w; rw [hT] at this; exact this
  have HP : Hid (∀ w, Calls Tryz.prog 84 #[.string b] w fun e w' => e = .returned (.tuple #[.agg #[.int .i64 X, .int .i64 P], .int .i64 er]) ∧ Bel w w') := fun w => by rw [← hp]; exact parse_any b ⟨(Lib.trimPrefix b.data.toList [45]).toArray⟩ (Lib.hasPrefix b.data.toList [45]) hbs rfl rfl w
  subst her
  go_enter Tryz.func59, Tryz.ntmps59
  go_wp2_with fail
  go_at_call 82
  refine (HS.out _).mono ?_
  rintro e w1 ⟨rfl, rfl⟩
  go_wp2_with fail
  go_at_call 83
  refine (HI.out _).mono ?_
  rintro e w2 ⟨rfl, hb⟩
  have kB : Bk w2 (w.heap.size + 1) 9 #[.string a, .string b, .string n] := Bk.bel (Bk.nq (w.alloc (.cells #[.int .i64 0, .int .i64 0] 100)) _ _ (by simp)) hb
  have kR : Bk w2 w.heap.size 100 #[.int .i64 0, .int .i64 0] := Bk.bel ((Bk.nw w 100 #[.int .i64 0, .int .i64 0]).al _) hb
  have hb2 : Bel w w2 := ((Bel.rf.al _).al _).tr hb
  have c0 : w2.cell? ⟨w.heap.size + 1, 0, none⟩ = some (.string a) := by rw [kB.cell]; rfl
  have c1 : w2.cell? ⟨w.heap.size + 1, 1, none⟩ = some (.string b) := by rw [kB.cell]; rfl
  have c2 : w2.cell? ⟨w.heap.size + 1, 2, none⟩ = some (.string n) := by rw [kB.cell]; rfl
  have r0 : w2.cell? ⟨w.heap.size, 0, none⟩ = some (.int .i64 0) := by rw [kR.cell]; rfl
  have r1 : w2.cell? ⟨w.heap.size, 1, none⟩ = some (.int .i64 0) := by rw [kR.cell]; rfl
  have f0 := kR.fr 0
  have f1 := kR.fr 1
  have lt1 := kR.lt
  have lt2 := kB.lt
  have g0 : ∀ o, (w2.alloc o).frozen? ⟨w.heap.size, 0, none⟩ = false := fun o => (kR.al o).fr 0
  have g1 : ∀ o, (w2.alloc o).frozen? ⟨w.heap.size, 1, none⟩ = false := fun o => (kR.al o).fr 1
  have HK := Lib.hid kR
  have HB2 := Lib.hid (And.intro kB hb2)
  go_wp2_with fail
  go_at_call 84
  refine (HP.out _).mono ?_
  rintro e w3 ⟨rfl, hb3⟩
  have kB3 := (HB2.out.1).bel hb3
  have kR3 := (HK.out).bel hb3
  have hbw3 := (HB2.out.2).tr hb3
  clear c0 c1 c2 r0 r1 f0 f1 HB2 HK
  clear lt1 lt2 g0 g1
  have c0 : w3.cell? ⟨w.heap.size + 1, 0, none⟩ = some (.string a) := by rw [kB3.cell]; rfl
  have c1 : w3.cell? ⟨w.heap.size + 1, 1, none⟩ = some (.string b) := by rw [kB3.cell]; rfl
  have c2 : w3.cell? ⟨w.heap.size + 1, 2, none⟩ = some (.string n) := by rw [kB3.cell]; rfl
  have r0 : w3.cell? ⟨w.heap.size, 0, none⟩ = some (.int .i64 0) := by rw [kR3.cell]; rfl
  have r1 : w3.cell? ⟨w.heap.size, 1, none⟩ = some (.int .i64 0) := by rw [kR3.cell]; rfl
  have f0 := kR3.fr 0
  have f1 := kR3.fr 1
  have lt1 := kR3.lt
  have lt2 := kB3.lt
  have g0 : ∀ o, (w3.alloc o).frozen? ⟨w.heap.size, 0, none⟩ = false := fun o => (kR3.al o).fr 0
  have g1 : ∀ o, (w3.alloc o).frozen? ⟨w.heap.size, 1, none⟩ = false := fun o => (kR3.al o).fr 1
  have HK := Lib.hid kR3
  have HB2 := Lib.hid (And.intro kB3 hbw3)
  go_wp2
  exact bodyPost_ret (v := .tuple #[.agg #[.int .i64 0, .int .i64 0], .int .i64 3]) (results_ctR Tryz.results59 _ _ w.heap.size (.int .i64 0) (.int .i64 0) rfl (((HK.out.st 0 _).st 1 _).al _)) rfl (lineR_of HR.out rfl (by repeat (first | exact Bel.rf | exact hb | (with_reducible refine Bel.drwN ?_ _) | (with_reducible refine Bel.drw ?_) | (with_reducible refine Bel.al ?_ _) | ((with_reducible refine Bel.st2 ?_ ?_ _); (show _ ≤ _); (simp only []; omega)) | refine Bel.tr ?_ (by assumption))))
set_option maxHeartbeats 4000000 in
set_option maxRecDepth 100000 in
theorem line_late (s a b n : ByteArray) (hs : s.size ≤ 20000) (US : List Ut) (hW : wds s = [a, b, n]) (ha : a.size ≤ 20000) (hn : n.data.toList ≠ []) (hT : isT a.data.toList = true) (hbs : (⟨(Lib.trimPrefix b.data.toList [45]).toArray⟩ : ByteArray).size ≤ 4611686018427387904) (X P er tv : Int) (hp : prs (rn (Lib.trimPrefix b.data.toList [45])) (Lib.hasPrefix b.data.toList [45]) = .tuple #[.agg #[.int .i64 X, .int .i64 P], .int .i64 er]) (HA : Hid (∀ w, Calls Tryz.prog 85 #[.string a] w fun e w' => e = .returned (.tuple #[.int .i64 tv, .nilIface]) ∧ Bel w w')) (her : er ≠ 3) (ht : 1099511627776 < tv) (r : Nat) (w : World) (hr : lineS US s.data.toList = ((0, 0), 1)) :
    Calls Tryz.prog 59 #[.string s, .map (some r)] w (LineR US s w) := by
  have HS : Hid (∀ w, Calls Tryz.prog 82 #[.string s, .string ⟨#[32]⟩] w fun e w' => e = .returned (.slice (some ⟨w.heap.size, 0, none⟩) 3 3) ∧ w' = w.alloc (.cells #[.string a, .string b, .string n] 9)) := fun w => by
    have := split_any s (by omega) w
    unfold Spl at this
    rw [hW] at this
    exact this
  have HR := Lib.hid hr
  clear hr hW
  have e0 : n.toList.isEmpty = false := by rw [Lib.toList_data]; cases hq : n.data.toList with | nil => exact absurd hq hn | cons c l => rfl
  have e1 : (n.toList == []) = false := by rw [Lib.toList_data]; cases hq : n.data.toList with | nil => exact absurd hq hn | cons c l => rfl
  have HI : Hid (∀ w, Calls Tryz.prog 83 #[.string a] w fun e w' => e = .returned (.bool true) ∧ Bel w w') := fun w => by have := isTime_any a ha w; rw [hT] at this; exact this
  have HP : Hid (∀ w, Calls Tryz.prog 84 #[.string b] w fun e w' => e = .returned (.tuple #[.agg #[.int .i64 X, .int .i64 P], .int .i64 er]) ∧ Bel w w') := fun w => by rw [← hp]; exact parse_any b ⟨(Lib.trimPrefix b.data.toList [45]).toArray⟩ (Lib.hasPrefix b.data.toList [45]) hbs rfl rfl w
  have k1 : (er == 3) = false := by simpa using her
  have k2 : ¬ er = 3 := her
  clear hp
  go_enter Tryz.func59, Tryz.ntmps59
  go_wp2_with fail
  go_at_call 82
  refine (HS.out _).mono ?_
  rintro e w1 ⟨rfl, rfl⟩
  go_wp2_with fail
  go_at_call 83
  refine (HI.out _).mono ?_
  rintro e w2 ⟨rfl, hb⟩
  have kB : Bk w2 (w.heap.size + 1) 9 #[.string a, .string b, .string n] := Bk.bel (Bk.nq (w.alloc (.cells #[.int .i64 0, .int .i64 0] 100)) _ _ (by simp)) hb
  have kR : Bk w2 w.heap.size 100 #[.int .i64 0, .int .i64 0] := Bk.bel ((Bk.nw w 100 #[.int .i64 0, .int .i64 0]).al _) hb
  have hb2 : Bel w w2 := ((Bel.rf.al _).al _).tr hb
  have c0 : w2.cell? ⟨w.heap.size + 1, 0, none⟩ = some (.string a) := by rw [kB.cell]; rfl
  have c1 : w2.cell? ⟨w.heap.size + 1, 1, none⟩ = some (.string b) := by rw [kB.cell]; rfl
  have c2 : w2.cell? ⟨w.heap.size + 1, 2, none⟩ = some (.string n) := by rw [kB.cell]; rfl
  have r0 : w2.cell? ⟨w.heap.size, 0, none⟩ = some (.int .i64 0) := by rw [kR.cell]; rfl
  have r1 : w2.cell? ⟨w.heap.size, 1, none⟩ = some (.int .i64 0) := by rw [kR.cell]; rfl
  have f0 := kR.fr 0
  have f1 := kR.fr 1
  have lt1 := kR.lt
  have lt2 := kB.lt
  have g0 : ∀ o, (w2.alloc o).frozen? ⟨w.heap.size, 0, none⟩ = false := fun o => (kR.al o).fr 0
  have g1 : ∀ o, (w2.alloc o).frozen? ⟨w.heap.size, 1, none⟩ = false := fun o => (kR.al o).fr 1
  have HK := Lib.hid kR
  have HB2 := Lib.hid (And.intro kB hb2)
  go_wp2_with fail
  go_at_call 84
  refine (HP.out _).mono ?_
  rintro e w3 ⟨rfl, hb3⟩
  have kB3 := (HB2.out.1).bel hb3
  have kR3 := (HK.out).bel hb3
  have hbw3 := (HB2.out.2).tr hb3
  clear c0 c1 c2 r0 r1 f0 f1 HB2 HK
  clear lt1 lt2 g0 g1
  have c0 : w3.cell? ⟨w.heap.size + 1, 0, none⟩ = some (.string a) := by rw [kB3.cell]; rfl
  have c1 : w3.cell? ⟨w.heap.size + 1, 1, none⟩ = some (.string b) := by rw [kB3.cell]; rfl
  have c2 : w3.cell? ⟨w.heap.size + 1, 2, none⟩ = some (.string n) := by rw [kB3.cell]; rfl
  have r0 : w3.cell? ⟨w.heap.size, 0, none⟩ = some (.int .i64 0) := by rw [kR3.cell]; rfl
  have r1 : w3.cell? ⟨w.heap.size, 1, none⟩ = some (.int .i64 0) := by rw [kR3.cell]; rfl
  have f0 := kR3.fr 0
  have f1 := kR3.fr 1
  have lt1 := kR3.lt
  have lt2 := kB3.lt
  have g0 : ∀ o, (w3.alloc o).frozen? ⟨w.heap.size, 0, none⟩ = false := fun o => (kR3.al o).fr 0
  have g1 : ∀ o, (w3.alloc o).frozen? ⟨w.heap.size, 1, none⟩ = false := fun o => (kR3.al o).fr 1
  have HK := Lib.hid kR3
  have HB2 := Lib.hid (And.intro kB3 hbw3)
  go_wp2_with fail
  go_at_call 85
  refine (HA.out _).mono ?_
  rintro e w4 ⟨rfl, hb4⟩
  have kB4 := (HB2.out.1.al _).bel hb4
  have kR4 := (HK.out.al _).bel hb4
  have hbw4 := (HB2.out.2.al _).tr hb4
  clear c0 c1 c2 r0 r1 f0 f1 HB2 HK
  clear lt1 lt2 g0 g1
  have c0 : w4.cell? ⟨w.heap.size + 1, 0, none⟩ = some (.string a) := by rw [kB4.cell]; rfl
  have c1 : w4.cell? ⟨w.heap.size + 1, 1, none⟩ = some (.string b) := by rw [kB4.cell]; rfl
  have c2 : w4.cell? ⟨w.heap.size + 1, 2, none⟩ = some (.string n) := by rw [kB4.cell]; rfl
  have r0 : w4.cell? ⟨w.heap.size, 0, none⟩ = some (.int .i64 0) := by rw [kR4.cell]; rfl
  have r1 : w4.cell? ⟨w.heap.size, 1, none⟩ = some (.int .i64 0) := by rw [kR4.cell]; rfl
  have f0 := kR4.fr 0
  have f1 := kR4.fr 1
  have lt1 := kR4.lt
  have lt2 := kB4.lt
  have g0 : ∀ o, (w4.alloc o).frozen? ⟨w.heap.size, 0, none⟩ = false := fun o => (kR4.al o).fr 0
  have g1 : ∀ o, (w4.alloc o).frozen? ⟨w.heap.size, 1, none⟩ = false := fun o => (kR4.al o).fr 1
  have HK := Lib.hid kR4
  have HB2 := Lib.hid (And.intro kB4 hbw4)
  go_wp2
  exact bodyPost_ret (v := .tuple #[.agg #[.int .i64 0, .int .i64 0], .int .i64 1]) (results_ctR Tryz.results59 _ _ w.heap.size (.int .i64 0) (.int .i64 0) rfl ((HK.out.st 0 _).st 1 _)) rfl (lineR_of HR.out rfl (by repeat (first | exact Bel.rf | exact hb | (with_reducible refine Bel.drwN ?_ _) | (with_reducible refine Bel.drw ?_) | (with_reducible refine Bel.al ?_ _) | ((with_reducible refine Bel.st2 ?_ ?_ _); (show _ ≤ _); (simp only []; omega)) | refine Bel.tr ?_ (by assumption))))
set_option maxHeartbeats 4000000 in
set_option maxRecDepth 100000 in
theorem line_range (s a b n : ByteArray) (hs : s.size ≤ 20000) (US : List Ut) (hW : wds s = [a, b, n]) (ha : a.size ≤ 20000) (hn : n.data.toList ≠ []) (hT : isT a.data.toList = true) (hbs : (⟨(Lib.trimPrefix b.data.toList [45]).toArray⟩ : ByteArray).size ≤ 4611686018427387904) (X P er tv : Int) (hp : prs (rn (Lib.trimPrefix b.data.toList [45])) (Lib.hasPrefix b.data.toList [45]) = .tuple #[.agg #[.int .i64 X, .int .i64 P], .int .i64 er]) (HA : Hid (∀ w, Calls Tryz.prog 85 #[.string a] w fun e w' => e = .returned (.tuple #[.int .i64 tv, .nilIface]) ∧ Bel w w')) (her : er = 1) (ht : ¬ 1099511627776 < tv) (r : Nat) (w : World) (hr : lineS US s.data.toList = ((0, 0), 1)) :
    Calls Tryz.prog 59 #[.string s, .map (some r)] w (LineR US s w) := by
  have HS : Hid (∀ w, Calls Tryz.prog 82 #[.string s, .string ⟨#[32]⟩] w fun e w' => e = .returned (.slice (some ⟨w.heap.size, 0, none⟩) 3 3) ∧ w' = w.alloc (.cells #[.string a, .string b, .string n] 9)) := fun w => by
    have := split_any s (by omega) w
    unfold Spl at this
    rw [hW] at this
    exact this
  have HR := Lib.hid hr
  clear hr hW
  have e0 : n.toList.isEmpty = false := by rw [Lib.toList_data]; cases hq : n.data.toList with | nil => exact absurd hq hn | cons c l => rfl
  have e1 : (n.toList == []) = false := by rw [Lib.toList_data]; cases hq : n.data.toList with | nil => exact absurd hq hn | cons c l => rfl
  have HI : Hid (∀ w, Calls Tryz.prog 83 #[.string a] w fun e w' => e = .returned (.bool true) ∧ Bel w w') := fun w => by have := isTime_any a ha w; rw [hT] at this; exact this
  have HP : Hid (∀ w, Calls Tryz.prog 84 #[.string b] w fun e w' => e = .returned (.tuple #[.agg #[.int .i64 X, .int .i64 P], .int .i64 er]) ∧ Bel w w') := fun w => by rw [← hp]; exact parse_any b ⟨(Lib.trimPrefix b.data.toList [45]).toArray⟩ (Lib.hasPrefix b.data.toList [45]) hbs rfl rfl w
  subst her
  clear hp
  go_enter Tryz.func59, Tryz.ntmps59
  go_wp2_with fail
  go_at_call 82
  refine (HS.out _).mono ?_
  rintro e w1 ⟨rfl, rfl⟩
  go_wp2_with fail
  go_at_call 83
  refine (HI.out _).mono ?_
  rintro e w2 ⟨rfl, hb⟩
  have kB : Bk w2 (w.heap.size + 1) 9 #[.string a, .string b, .string n] := Bk.bel (Bk.nq (w.alloc (.cells #[.int .i64 0, .int .i64 0] 100)) _ _ (by simp)) hb
  have kR : Bk w2 w.heap.size 100 #[.int .i64 0, .int .i64 0] := Bk.bel ((Bk.nw w 100 #[.int .i64 0, .int .i64 0]).al _) hb
  have hb2 : Bel w w2 := ((Bel.rf.al _).al _).tr hb
  have c0 : w2.cell? ⟨w.heap.size + 1, 0, none⟩ = some (.string a) := by rw [kB.cell]; rfl
  have c1 : w2.cell? ⟨w.heap.size + 1, 1, none⟩ = some (.string b) := by rw [kB.cell]; rfl
  have c2 : w2.cell? ⟨w.heap.size + 1, 2, none⟩ = some (.string n) := by rw [kB.cell]; rfl
  have r0 : w2.cell? ⟨w.heap.size, 0, none⟩ = some (.int .i64 0) := by rw [kR.cell]; rfl
  have r1 : w2.cell? ⟨w.heap.size, 1, none⟩ = some (.int .i64 0) := by rw [kR.cell]; rfl
  have f0 := kR.fr 0
  have f1 := kR.fr 1
  have lt1 := kR.lt
  have lt2 := kB.lt
  have g0 : ∀ o, (w2.alloc o).frozen? ⟨w.heap.size, 0, none⟩ = false := fun o => (kR.al o).fr 0
  have g1 : ∀ o, (w2.alloc o).frozen? ⟨w.heap.size, 1, none⟩ = false := fun o => (kR.al o).fr 1
  have HK := Lib.hid kR
  have HB2 := Lib.hid (And.intro kB hb2)
  go_wp2_with fail
  go_at_call 84
  refine (HP.out _).mono ?_
  rintro e w3 ⟨rfl, hb3⟩
  have kB3 := (HB2.out.1).bel hb3
  have kR3 := (HK.out).bel hb3
  have hbw3 := (HB2.out.2).tr hb3
  clear c0 c1 c2 r0 r1 f0 f1 HB2 HK
  clear lt1 lt2 g0 g1
  have c0 : w3.cell? ⟨w.heap.size + 1, 0, none⟩ = some (.string a) := by rw [kB3.cell]; rfl
  have c1 : w3.cell? ⟨w.heap.size + 1, 1, none⟩ = some (.string b) := by rw [kB3.cell]; rfl
  have c2 : w3.cell? ⟨w.heap.size + 1, 2, none⟩ = some (.string n) := by rw [kB3.cell]; rfl
  have r0 : w3.cell? ⟨w.heap.size, 0, none⟩ = some (.int .i64 0) := by rw [kR3.cell]; rfl
  have r1 : w3.cell? ⟨w.heap.size, 1, none⟩ = some (.int .i64 0) := by rw [kR3.cell]; rfl
  have f0 := kR3.fr 0
  have f1 := kR3.fr 1
  have lt1 := kR3.lt
  have lt2 := kB3.lt
  have g0 : ∀ o, (w3.alloc o).frozen? ⟨w.heap.size, 0, none⟩ = false := fun o => (kR3.al o).fr 0
  have g1 : ∀ o, (w3.alloc o).frozen? ⟨w.heap.size, 1, none⟩ = false := fun o => (kR3.al o).fr 1
  have HK := Lib.hid kR3
  have HB2 := Lib.hid (And.intro kB3 hbw3)
  go_wp2_with fail
  go_at_call 85
  refine (HA.out _).mono ?_
  rintro e w4 ⟨rfl, hb4⟩
  have kB4 := (HB2.out.1.al _).bel hb4
  have kR4 := (HK.out.al _).bel hb4
  have hbw4 := (HB2.out.2.al _).tr hb4
  clear c0 c1 c2 r0 r1 f0 f1 HB2 HK
  clear lt1 lt2 g0 g1
  have c0 : w4.cell? ⟨w.heap.size + 1, 0, none⟩ = some (.string a) := by rw [kB4.cell]; rfl
  have c1 : w4.cell? ⟨w.heap.size + 1, 1, none⟩ = some (.string b) := by rw [kB4.cell]; rfl
  have c2 : w4.cell? ⟨w.heap.size + 1, 2, none⟩ = some (.string n) := by rw [kB4.cell]; rfl
  have r0 : w4.cell? ⟨w.heap.size, 0, none⟩ = some (.int .i64 0) := by rw [kR4.cell]; rfl
  have r1 : w4.cell? ⟨w.heap.size, 1, none⟩ = some (.int .i64 0) := by rw [kR4.cell]; rfl
  have f0 := kR4.fr 0
  have f1 := kR4.fr 1
  have lt1 := kR4.lt
  have lt2 := kB4.lt
  have g0 : ∀ o, (w4.alloc o).frozen? ⟨w.heap.size, 0, none⟩ = false := fun o => (kR4.al o).fr 0
  have g1 : ∀ o, (w4.alloc o).frozen? ⟨w.heap.size, 1, none⟩ = false := fun o => (kR4.al o).fr 1
  have HK := Lib.hid kR4
  have HB2 := Lib.hid (And.intro kB4 hbw4)
  go_wp2
  exact bodyPost_ret (v := .tuple #[.agg #[.int .i64 0, .int .i64 0], .int .i64 1]) (results_ctR Tryz.results59 _ _ w.heap.size (.int .i64 0) (.int .i64 0) rfl ((HK.out.st 0 _).st 1 _)) rfl (lineR_of HR.out rfl (by repeat (first | exact Bel.rf | exact hb | (with_reducible refine Bel.drwN ?_ _) | (with_reducible refine Bel.drw ?_) | (with_reducible refine Bel.al ?_ _) | ((with_reducible refine Bel.st2 ?_ ?_ _); (show _ ≤ _); (simp only []; omega)) | refine Bel.tr ?_ (by assumption))))
set_option maxHeartbeats 4000000 in
set_option maxRecDepth 100000 in
theorem line_unit (s a b n : ByteArray) (hs : s.size ≤ 20000) (US : List Ut) (hW : wds s = [a, b, n]) (ha : a.size ≤ 20000) (hn : n.data.toList ≠ []) (hT : isT a.data.toList = true) (hbs : (⟨(Lib.trimPrefix b.data.toList [45]).toArray⟩ : ByteArray).size ≤ 4611686018427387904) (X P er tv : Int) (hp : prs (rn (Lib.trimPrefix b.data.toList [45])) (Lib.hasPrefix b.data.toList [45]) = .tuple #[.agg #[.int .i64 X, .int .i64 P], .int .i64 er]) (HA : Hid (∀ w, Calls Tryz.prog 85 #[.string a] w fun e w' => e = .returned (.tuple #[.int .i64 tv, .nilIface]) ∧ Bel w w')) (her : er = 0) (ht : ¬ 1099511627776 < tv) (hl : look US n.data.toList = none) (r : Nat) (w : World) (hM : Mp w r US) (hr : lineS US s.data.toList = ((0, 0), 7)) :
    Calls Tryz.prog 59 #[.string s, .map (some r)] w (LineR US s w) := by
  have HS : Hid (∀ w, Calls Tryz.prog 82 #[.string s, .string ⟨#[32]⟩] w fun e w' => e = .returned (.slice (some ⟨w.heap.size, 0, none⟩) 3 3) ∧ w' = w.alloc (.cells #[.string a, .string b, .string n] 9)) := fun w => by
    have := split_any s (by omega) w
    unfold Spl at this
    rw [hW] at this
    exact this
  have HM := Lib.hid hM
  clear hM
  have HR := Lib.hid hr
  clear hr hW
  have e0 : n.toList.isEmpty = false := by rw [Lib.toList_data]; cases hq : n.data.toList with | nil => exact absurd hq hn | cons c l => rfl
  have e1 : (n.toList == []) = false := by rw [Lib.toList_data]; cases hq : n.data.toList with | nil => exact absurd hq hn | cons c l => rfl
  have HI : Hid (∀ w, Calls Tryz.prog 83 #[.string a] w fun e w' => e = .returned (.bool true) ∧ Bel w w') := fun w => by have := isTime_any a ha w; rw [hT] at this; exact this
  have HP : Hid (∀ w, Calls Tryz.prog 84 #[.string b] w fun e w' => e = .returned (.tuple #[.agg #[.int .i64 X, .int .i64 P], .int .i64 er]) ∧ Bel w w') := fun w => by rw [← hp]; exact parse_any b ⟨(Lib.trimPrefix b.data.toList [45]).toArray⟩ (Lib.hasPrefix b.data.toList [45]) hbs rfl rfl w
  subst her
  clear hp
  go_enter Tryz.func59, Tryz.ntmps59
  go_wp2_with fail
  go_at_call 82
  refine (HS.out _).mono ?_
  rintro e w1 ⟨rfl, rfl⟩
  go_wp2_with fail
  go_at_call 83
  refine (HI.out _).mono ?_
  rintro e w2 ⟨rfl, hb⟩
  have kB : Bk w2 (w.heap.size + 1) 9 #[.string a, .string b, .string n] := Bk.bel (Bk.nq (w.alloc (.cells #[.int .i64 0, .int .i64 0] 100)) _ _ (by simp)) hb
  have kR : Bk w2 w.heap.size 100 #[.int .i64 0, .int .i64 0] := Bk.bel ((Bk.nw w 100 #[.int .i64 0, .int .i64 0]).al _) hb
  have hb2 : Bel w w2 := ((Bel.rf.al _).al _).tr hb
  have c0 : w2.cell? ⟨w.heap.size + 1, 0, none⟩ = some (.string a) := by rw [kB.cell]; rfl
  have c1 : w2.cell? ⟨w.heap.size + 1, 1, none⟩ = some (.string b) := by rw [kB.cell]; rfl
  have c2 : w2.cell? ⟨w.heap.size + 1, 2, none⟩ = some (.string n) := by rw [kB.cell]; rfl
  have r0 : w2.cell? ⟨w.heap.size, 0, none⟩ = some (.int .i64 0) := by rw [kR.cell]; rfl
  have r1 : w2.cell? ⟨w.heap.size, 1, none⟩ = some (.int .i64 0) := by rw [kR.cell]; rfl
  have f0 := kR.fr 0
  have f1 := kR.fr 1
  have lt1 := kR.lt
  have lt2 := kB.lt
  have g0 : ∀ o, (w2.alloc o).frozen? ⟨w.heap.size, 0, none⟩ = false := fun o => (kR.al o).fr 0
  have g1 : ∀ o, (w2.alloc o).frozen? ⟨w.heap.size, 1, none⟩ = false := fun o => (kR.al o).fr 1
  have HK := Lib.hid kR
  have HB2 := Lib.hid (And.intro kB hb2)
  go_wp2_with fail
  go_at_call 84
  refine (HP.out _).mono ?_
  rintro e w3 ⟨rfl, hb3⟩
  have kB3 := (HB2.out.1).bel hb3
  have kR3 := (HK.out).bel hb3
  have hbw3 := (HB2.out.2).tr hb3
  clear c0 c1 c2 r0 r1 f0 f1 HB2 HK
  clear lt1 lt2 g0 g1
  have c0 : w3.cell? ⟨w.heap.size + 1, 0, none⟩ = some (.string a) := by rw [kB3.cell]; rfl
  have c1 : w3.cell? ⟨w.heap.size + 1, 1, none⟩ = some (.string b) := by rw [kB3.cell]; rfl
  have c2 : w3.cell? ⟨w.heap.size + 1, 2, none⟩ = some (.string n) := by rw [kB3.cell]; rfl
  have r0 : w3.cell? ⟨w.heap.size, 0, none⟩ = some (.int .i64 0) := by rw [kR3.cell]; rfl
  have r1 : w3.cell? ⟨w.heap.size, 1, none⟩ = some (.int .i64 0) := by rw [kR3.cell]; rfl
  have f0 := kR3.fr 0
  have f1 := kR3.fr 1
  have lt1 := kR3.lt
  have lt2 := kB3.lt
  have g0 : ∀ o, (w3.alloc o).frozen? ⟨w.heap.size, 0, none⟩ = false := fun o => (kR3.al o).fr 0
  have g1 : ∀ o, (w3.alloc o).frozen? ⟨w.heap.size, 1, none⟩ = false := fun o => (kR3.al o).fr 1
  have HK := Lib.hid kR3
  have HB2 := Lib.hid (And.intro kB3 hbw3)
  go_wp2_with fail
  go_at_call 85
  refine (HA.out _).mono ?_
  rintro e w4 ⟨rfl, hb4⟩
  have kB4 := (HB2.out.1.al _).bel hb4
  have kR4 := (HK.out.al _).bel hb4
  have hbw4 := (HB2.out.2.al _).tr hb4
  clear c0 c1 c2 r0 r1 f0 f1 HB2 HK
  clear lt1 lt2 g0 g1
  have c0 : w4.cell? ⟨w.heap.size + 1, 0, none⟩ = some (.string a) := by rw [kB4.cell]; rfl
  have c1 : w4.cell? ⟨w.heap.size + 1, 1, none⟩ = some (.string b) := by rw [kB4.cell]; rfl
  have c2 : w4.cell? ⟨w.heap.size + 1, 2, none⟩ = some (.string n) := by rw [kB4.cell]; rfl
  have r0 : w4.cell? ⟨w.heap.size, 0, none⟩ = some (.int .i64 0) := by rw [kR4.cell]; rfl
  have r1 : w4.cell? ⟨w.heap.size, 1, none⟩ = some (.int .i64 0) := by rw [kR4.cell]; rfl
  have f0 := kR4.fr 0
  have f1 := kR4.fr 1
  have lt1 := kR4.lt
  have lt2 := kB4.lt
  have g0 : ∀ o, (w4.alloc o).frozen? ⟨w.heap.size, 0, none⟩ = false := fun o => (kR4.al o).fr 0
  have g1 : ∀ o, (w4.alloc o).frozen? ⟨w.heap.size, 1, none⟩ = false := fun o => (kR4.al o).fr 1
  have HK := Lib.hid kR4
  have HB2 := Lib.hid (And.intro kB4 hbw4)
  have hlk : (Instr.lookup 94 (.map (some r)) (.string n) true).run Tryz.prog w4 = .ok (.tuple #[.agg #[.string ⟨#[]⟩, .int .i64 0, .int .i64 0, .int .i64 0], .bool false]) w4 := look_miss (HM.out.bel hbw4) n hl
  go_wp2
  exact bodyPost_ret (v := .tuple #[.agg #[.int .i64 0, .int .i64 0], .int .i64 7]) (results_ctR Tryz.results59 _ _ w.heap.size (.int .i64 0) (.int .i64 0) rfl (((HK.out.st 0 _).st 1 _).al _)) rfl (lineR_of HR.out rfl (by repeat (first | exact Bel.rf | exact hb | (with_reducible refine Bel.drwN ?_ _) | (with_reducible refine Bel.drw ?_) | (with_reducible refine Bel.al ?_ _) | ((with_reducible refine Bel.st2 ?_ ?_ _); (show _ ≤ _); (simp only []; omega)) | refine Bel.tr ?_ (by assumption))))
set_option maxHeartbeats 4000000 in
set_option maxRecDepth 100000 in
theorem line_conv (s a b n : ByteArray) (hs : s.size ≤ 20000) (US : List Ut) (hW : wds s = [a, b, n]) (ha : a.size ≤ 20000) (hn : n.data.toList ≠ []) (hT : isT a.data.toList = true) (hbs : (⟨(Lib.trimPrefix b.data.toList [45]).toArray⟩ : ByteArray).size ≤ 4611686018427387904) (X P er tv : Int) (hp : prs (rn (Lib.trimPrefix b.data.toList [45])) (Lib.hasPrefix b.data.toList [45]) = .tuple #[.agg #[.int .i64 X, .int .i64 P], .int .i64 er]) (HA : Hid (∀ w, Calls Tryz.prog 85 #[.string a] w fun e w' => e = .returned (.tuple #[.int .i64 tv, .nilIface]) ∧ Bel w w')) (nm : List UInt8) (mul add div cvv ce : Int) (hC : ∀ w, Pows w → Calls Tryz.prog 86 #[.agg #[.int .i64 X, .int .i64 P], .agg #[.string ⟨nm.toArray⟩, .int .i64 mul, .int .i64 add, .int .i64 div]] w fun e w' => e = .returned (.tuple #[.int .i64 cvv, .int .i64 ce]) ∧ Bel w w') (her : er = 0) (ht : ¬ 1099511627776 < tv) (hl : look US n.data.toList = some ⟨nm, mul, add, div⟩) (r : Nat) (w : World) (hM : Mp w r US) (hPW : Pows w) (hr : lineS US s.data.toList = ((tv, cvv), ce)) :
    Calls Tryz.prog 59 #[.string s, .map (some r)] w (LineR US s w) := by
  have HS : Hid (∀ w, Calls Tryz.prog 82 #[.string s, .string ⟨#[32]⟩] w fun e w' => e = .returned (.slice (some ⟨w.heap.size, 0, none⟩) 3 3) ∧ w' = w.alloc (.cells #[.string a, .string b, .string n] 9)) := fun w => by
    have := split_any s (by omega) w
    unfold Spl at this
    rw [hW] at this
    exact this
  have HM := Lib.hid hM
  have HPW := Lib.hid hPW
  clear hM hPW
  have HR := Lib.hid hr
  clear hr hW
  have e0 : n.toList.isEmpty = false := by rw [Lib.toList_data]; cases hq : n.data.toList with | nil => exact absurd hq hn | cons c l => rfl
  have e1 : (n.toList == []) = false := by rw [Lib.toList_data]; cases hq : n.data.toList with | nil => exact absurd hq hn | cons c l => rfl
  have HI : Hid (∀ w, Calls Tryz.prog 83 #[.string a] w fun e w' => e = .returned (.bool true) ∧ Bel w w') := fun w => by have := isTime_any a ha w; rw [hT] at this; exact this
  have HP : Hid (∀ w, Calls Tryz.prog 84 #[.string b] w fun e w' => e = .returned (.tuple #[.agg #[.int .i64 X, .int .i64 P], .int .i64 er]) ∧ Bel w w') := fun w => by rw [← hp]; exact parse_any b ⟨(Lib.trimPrefix b.data.toList [45]).toArray⟩ (Lib.hasPrefix b.data.toList [45]) hbs rfl rfl w
  subst her
  have HC := Lib.hid hC
  clear hp hC
  go_enter Tryz.func59, Tryz.ntmps59
  go_wp2_with fail
  go_at_call 82
  refine (HS.out _).mono ?_
  rintro e w1 ⟨rfl, rfl⟩
  go_wp2_with fail
  go_at_call 83
  refine (HI.out _).mono ?_
  rintro e w2 ⟨rfl, hb⟩
  have kB : Bk w2 (w.heap.size + 1) 9 #[.string a, .string b, .string n] := Bk.bel (Bk.nq (w.alloc (.cells #[.int .i64 0, .int .i64 0] 100)) _ _ (by simp)) hb
  have kR : Bk w2 w.heap.size 100 #[.int .i64 0, .int .i64 0] := Bk.bel ((Bk.nw w 100 #[.int .i64 0, .int .i64 0]).al _) hb
  have hb2 : Bel w w2 := ((Bel.rf.al _).al _).tr hb
  have c0 : w2.cell? ⟨w.heap.size + 1, 0, none⟩ = some (.string a) := by rw [kB.cell]; rfl
  have c1 : w2.cell? ⟨w.heap.size + 1, 1, none⟩ = some (.string b) := by rw [kB.cell]; rfl
  have c2 : w2.cell? ⟨w.heap.size + 1, 2, none⟩ = some (.string n) := by rw [kB.cell]; rfl
  have r0 : w2.cell? ⟨w.heap.size, 0, none⟩ = some (.int .i64 0) := by rw [kR.cell]; rfl
  have r1 : w2.cell? ⟨w.heap.size, 1, none⟩ = some (.int .i64 0) := by rw [kR.cell]; rfl
  have f0 := kR.fr 0
  have f1 := kR.fr 1
  have lt1 := kR.lt
  have lt2 := kB.lt
  have g0 : ∀ o, (w2.alloc o).frozen? ⟨w.heap.size, 0, none⟩ = false := fun o => (kR.al o).fr 0
  have g1 : ∀ o, (w2.alloc o).frozen? ⟨w.heap.size, 1, none⟩ = false := fun o => (kR.al o).fr 1
  have HK := Lib.hid kR
  have HB2 := Lib.hid (And.intro kB hb2)
  go_wp2_with fail
  go_at_call 84
  refine (HP.out _).mono ?_
  rintro e w3 ⟨rfl, hb3⟩
  have kB3 := (HB2.out.1).bel hb3
  have kR3 := (HK.out).bel hb3
  have hbw3 := (HB2.out.2).tr hb3
  clear c0 c1 c2 r0 r1 f0 f1 HB2 HK
  clear lt1 lt2 g0 g1
  have c0 : w3.cell? ⟨w.heap.size + 1, 0, none⟩ = some (.string a) := by rw [kB3.cell]; rfl
  have c1 : w3.cell? ⟨w.heap.size + 1, 1, none⟩ = some (.string b) := by rw [kB3.cell]; rfl
  have c2 : w3.cell? ⟨w.heap.size + 1, 2, none⟩ = some (.string n) := by rw [kB3.cell]; rfl
  have r0 : w3.cell? ⟨w.heap.size, 0, none⟩ = some (.int .i64 0) := by rw [kR3.cell]; rfl
  have r1 : w3.cell? ⟨w.heap.size, 1, none⟩ = some (.int .i64 0) := by rw [kR3.cell]; rfl
  have f0 := kR3.fr 0
  have f1 := kR3.fr 1
  have lt1 := kR3.lt
  have lt2 := kB3.lt
  have g0 : ∀ o, (w3.alloc o).frozen? ⟨w.heap.size, 0, none⟩ = false := fun o => (kR3.al o).fr 0
  have g1 : ∀ o, (w3.alloc o).frozen? ⟨w.heap.size, 1, none⟩ = false := fun o => (kR3.al o).fr 1
  have HK := Lib.hid kR3
  have HB2 := Lib.hid (And.intro kB3 hbw3)
  go_wp2_with fail
  go_at_call 85
  refine (HA.out _).mono ?_
  rintro e w4 ⟨rfl, hb4⟩
  have kB4 := (HB2.out.1.al _).bel hb4
  have kR4 := (HK.out.al _).bel hb4
  have hbw4 := (HB2.out.2.al _).tr hb4
  clear c0 c1 c2 r0 r1 f0 f1 HB2 HK
  clear lt1 lt2 g0 g1
  have c0 : w4.cell? ⟨w.heap.size + 1, 0, none⟩ = some (.string a) := by rw [kB4.cell]; rfl
  have c1 : w4.cell? ⟨w.heap.size + 1, 1, none⟩ = some (.string b) := by rw [kB4.cell]; rfl
  have c2 : w4.cell? ⟨w.heap.size + 1, 2, none⟩ = some (.string n) := by rw [kB4.cell]; rfl
  have r0 : w4.cell? ⟨w.heap.size, 0, none⟩ = some (.int .i64 0) := by rw [kR4.cell]; rfl
  have r1 : w4.cell? ⟨w.heap.size, 1, none⟩ = some (.int .i64 0) := by rw [kR4.cell]; rfl
  have f0 := kR4.fr 0
  have f1 := kR4.fr 1
  have lt1 := kR4.lt
  have lt2 := kB4.lt
  have g0 : ∀ o, (w4.alloc o).frozen? ⟨w.heap.size, 0, none⟩ = false := fun o => (kR4.al o).fr 0
  have g1 : ∀ o, (w4.alloc o).frozen? ⟨w.heap.size, 1, none⟩ = false := fun o => (kR4.al o).fr 1
  have HK := Lib.hid kR4
  have HB2 := Lib.hid (And.intro kB4 hbw4)
  have hlk : (Instr.lookup 94 (.map (some r)) (.string n) true).run Tryz.prog w4 = .ok (.tuple #[.agg #[.string ⟨nm.toArray⟩, .int .i64 mul, .int .i64 add, .int .i64 div], .bool true]) w4 := look_hit (HM.out.bel hbw4) n _ hl
  have kD : Bk w4 w3.heap.size 128 #[.int .i64 X, .int .i64 P] := (Bk.nw w3 _ _).bel hb4
  have d0 : w4.cell? ⟨w3.heap.size, 0, none⟩ = some (.int .i64 X) := by rw [kD.cell]; rfl
  have d1 : w4.cell? ⟨w3.heap.size, 1, none⟩ = some (.int .i64 P) := by rw [kD.cell]; rfl
  have d2 : ∀ o, (w4.alloc o).cell? ⟨w3.heap.size, 0, none⟩ = some (.int .i64 X) := fun o => kp_al d0 o
  have d3 : ∀ o, (w4.alloc o).cell? ⟨w3.heap.size, 1, none⟩ = some (.int .i64 P) := fun o => kp_al d1 o
  have d4 := kD.lt
  go_wp2_with fail
  go_at_call 86
  refine (HC.out _ (HPW.out.bel (hbw4.al _))).mono ?_
  rintro e w5 ⟨rfl, hb5⟩
  have kB5 := (HB2.out.1.al _).bel hb5
  have kR5 := (HK.out.al _).bel hb5
  have hbw5 := (HB2.out.2.al _).tr hb5
  clear c0 c1 c2 r0 r1 f0 f1 HB2 HK
  clear lt1 lt2 g0 g1
  have c0 : w5.cell? ⟨w.heap.size + 1, 0, none⟩ = some (.string a) := by rw [kB5.cell]; rfl
  have c1 : w5.cell? ⟨w.heap.size + 1, 1, none⟩ = some (.string b) := by rw [kB5.cell]; rfl
  have c2 : w5.cell? ⟨w.heap.size + 1, 2, none⟩ = some (.string n) := by rw [kB5.cell]; rfl
  have r0 : w5.cell? ⟨w.heap.size, 0, none⟩ = some (.int .i64 0) := by rw [kR5.cell]; rfl
  have r1 : w5.cell? ⟨w.heap.size, 1, none⟩ = some (.int .i64 0) := by rw [kR5.cell]; rfl
  have f0 := kR5.fr 0
  have f1 := kR5.fr 1
  have lt1 := kR5.lt
  have lt2 := kB5.lt
  have g0 : ∀ o, (w5.alloc o).frozen? ⟨w.heap.size, 0, none⟩ = false := fun o => (kR5.al o).fr 0
  have g1 : ∀ o, (w5.alloc o).frozen? ⟨w.heap.size, 1, none⟩ = false := fun o => (kR5.al o).fr 1
  have HK := Lib.hid kR5
  have HB2 := Lib.hid (And.intro kB5 hbw5)
  go_wp2
  exact bodyPost_ret (v := .tuple #[.agg #[.int .i64 tv, .int .i64 cvv], .int .i64 ce]) (results_ctR Tryz.results59 _ _ w.heap.size (.int .i64 tv) (.int .i64 cvv) rfl ((HK.out.st 0 _).st 1 _)) rfl (lineR_of HR.out rfl (by repeat (first | exact Bel.rf | exact hb | (with_reducible refine Bel.drwN ?_ _) | (with_reducible refine Bel.drw ?_) | (with_reducible refine Bel.al ?_ _) | ((with_reducible refine Bel.st2 ?_ ?_ _); (show _ ≤ _); (simp only []; omega)) | refine Bel.tr ?_ (by assumption))))
end Go.Proofs.YtpbnabibnkohdaaGreatDoor.Rt
namespace Go.Proofs.YtpbnabibnkohdaaGreatDoor.Rt
open Go.ChangeShapes Go.WideShapes Go.RowKit Wo Un Rg Go.MapKept
open Rm (Rp tm vl)
set_option linter.unusedVariables false
theorem splitK_len (sep : List UInt8) : ∀ (k : Nat) (l x : List UInt8), x ∈ Lib.splitK sep 0 k l → x.length ≤ l.length
  | 0, l, x, h => by
    have : x = l := by simpa [Lib.splitK] using h
    rw [this]; exact Nat.le_refl _
  | k + 1, l, x, h => by
    unfold Lib.splitK at h
    split at h
    · have : x = l := by simpa using h
      rw [this]; exact Nat.le_refl _
    · rcases List.mem_cons.1 h with h | h
      · rw [h, List.length_take]; omega
      · have := splitK_len sep k _ x h
        simp only [List.length_drop] at this; omega
theorem dec_val : ∀ (l : List UInt8) (acc : Nat), allD l → Lib.decFrom acc l = some (l.foldl (fun v c => 10 * v + (c.toNat - 48)) acc)
  | [], acc, _ => rfl
  | c :: l, acc, h => by
    have hc := h c (by simp)
    unfold Lib.decFrom Lib.digitVal
    rw [if_pos ⟨hc.1, hc.2⟩]
    show Lib.decFrom (acc * 10 + (c.toNat - 48)) l = _
    rw [dec_val l _ (fun x hx => h x (by simp [hx])), List.foldl_cons, Nat.mul_comm]
theorem atoi_val (l : List UInt8) (h : allD l) (hn : l ≠ []) : Lib.atoi l = some ((val l : Nat) : Int) := by
  rcases l with _ | ⟨c, l⟩
  · exact absurd rfl hn
  · have hc := h c (by simp)
    have n1 : (c == 45) = false := by
      rw [beq_eq_false_iff_ne]; intro e; rw [e] at hc; exact absurd hc (by unfold isD; decide)
    have n2 : (c == 43) = false := by
      rw [beq_eq_false_iff_ne]; intro e; rw [e] at hc; exact absurd hc (by unfold isD; decide)
    show (if (c == 45) = true then _ else if (c == 43) = true then _ else (Lib.decNat (c :: l)).map fun (m : Nat) => (m : Int)) = _
    rw [n1, n2]
    show (Lib.decNat (c :: l)).map (fun (m : Nat) => (m : Int)) = _
    unfold Lib.decNat
    rw [if_neg (by simp), dec_val _ _ h]; rfl
theorem isT_facts {l : List UInt8} (h : isT l = true) : allD l ∧ l ≠ [] ∧ l.length ≤ 13 := by
  unfold isT at h
  simp only [Bool.and_eq_true, decide_eq_true_eq, List.all_eq_true] at h
  obtain ⟨h1, h2, _, h3⟩ := h
  exact ⟨fun c hc => ⟨by simpa using (h3 c hc).1, by simpa using (h3 c hc).2⟩, fun e => by rw [e] at h1; simp at h1, h2⟩
theorem look_mem {US : List Ut} {n : List UInt8} {u : Ut} (h : look US n = some u) : u ∈ US ∧ u.nm = n := by
  have := List.find?_some h
  exact ⟨List.mem_of_find?_eq_some h, by simpa using this⟩
theorem three {α : Type} {l : List α} (h : l.length = 3) : ∃ a b c, l = [a, b, c] := by
  rcases l with _ | ⟨a, _ | ⟨b, _ | ⟨c, _ | ⟨d, l⟩⟩⟩⟩
  all_goals first | exact ⟨_, _, _, rfl⟩ | (simp at h)
theorem line_any (s : ByteArray) (hs : s.size ≤ 20000) (US : List Ut) (hU : ∀ u ∈ US, GoodU u) (r : Nat) (w : World) (hM : Mp w r US) (hPW : Pows w) :
    Calls Tryz.prog 59 #[.string s, .map (some r)] w (LineR US s w) := by
  by_cases h3 : (wds s).length = 3
  · obtain ⟨a, b, n, hW⟩ := three h3
    have hd := wds_data s
    rw [hW] at hd
    have hsp : Lib.split s.data.toList [32] = [a.data.toList, b.data.toList, n.data.toList] := hd.symm
    have hlen : ∀ x : ByteArray, x.data.toList ∈ Lib.split s.data.toList [32] → x.size ≤ s.size := fun x hx => by
      have := splitK_len [32] _ _ _ hx
      rw [Lib.size_eq x, Lib.size_eq s]; exact this
    have ha := hlen a (by rw [hsp]; simp)
    have hb := hlen b (by rw [hsp]; simp)
    have htl : (⟨(Lib.trimPrefix b.data.toList [45]).toArray⟩ : ByteArray).size ≤ 4611686018427387904 := by
      have h1 : (Lib.trimPrefix b.data.toList [45]).length ≤ b.data.toList.length := by
        unfold Lib.trimPrefix
        split
        · simp
        · exact Nat.le_refl _
      rw [Lib.size_eq]
      have h2 := Lib.size_eq b
      show (Lib.trimPrefix b.data.toList [45]).length ≤ _
      omega
    have hL : lineS US s.data.toList = line3 US a.data.toList b.data.toList n.data.toList := by
      unfold lineS
      rw [hsp]
    unfold line3 at hL
    by_cases hn : n.data.toList = []
    · exact line_en s a b n hs US hW (by omega) hn r w (by rw [hL, if_pos (.inl hn)])
    cases hT : isT a.data.toList
    · exact line_nt s a b n hs US hW (by omega) hn hT r w (by rw [hL, if_pos (.inr hT)])
    rw [if_neg (by rw [hT]; simp [hn])] at hL
    obtain ⟨hAD, hne, h13⟩ := isT_facts hT
    have HA : Hid (∀ w, Calls Tryz.prog 85 #[.string a] w fun e w' => e = .returned (.tuple #[.int .i64 ((val a.data.toList : Nat) : Int), .nilIface]) ∧ Bel w w') := fun w =>
      (Tryz.strconv_Atoi a _ (by rw [Lib.size_eq]; omega) (atoi_val _ hAD hne) w).mono fun e w' ⟨he, t, hw⟩ => ⟨he, by rw [hw]; exact Lib.bytesWorld_below _ _ _⟩
    have hok := rn_ok (Lib.trimPrefix b.data.toList [45])
    generalize hS : rn (Lib.trimPrefix b.data.toList [45]) = S at hL hok
    generalize hm : Lib.hasPrefix b.data.toList [45] = m at hL
    by_cases hrej : rej S m = true
    · rw [if_pos hrej] at hL
      exact line_pf s a b n hs US hW (by omega) hn hT htl 0 0 3 (by rw [hS, hm]; unfold prs; rw [if_pos hrej]) rfl r w hL
    rw [if_neg hrej] at hL
    by_cases hdg : 1000000000 < S.digits
    · have hp : prs (rn (Lib.trimPrefix b.data.toList [45])) (Lib.hasPrefix b.data.toList [45]) = .tuple #[.agg #[.int .i64 0, .int .i64 0], .int .i64 1] := by
        rw [hS, hm]; unfold prs; rw [if_neg hrej, if_pos hdg]
      rw [if_pos hdg] at hL
      by_cases htm : 1099511627776 < ((val a.data.toList : Nat) : Int)
      · rw [if_pos htm] at hL
        exact line_late s a b n hs US hW (by omega) hn hT htl 0 0 1 _ hp HA (by decide) htm r w hL
      · rw [if_neg htm] at hL
        exact line_range s a b n hs US hW (by omega) hn hT htl 0 0 1 _ hp HA rfl htm r w hL
    · rw [if_neg hdg] at hL
      have hrf : rej S m = false := by simpa using hrej
      have hpl : S.places ≤ 6 := by
        unfold rej at hrf
        simp only [Bool.or_eq_false_iff, decide_eq_false_iff_not] at hrf
        omega
      obtain ⟨p, hpp⟩ := Int.eq_ofNat_of_zero_le hok.2.2.2.2.1
      have hp : prs (rn (Lib.trimPrefix b.data.toList [45])) (Lib.hasPrefix b.data.toList [45]) = .tuple #[.agg #[.int .i64 (if m = true then -S.digits else S.digits), .int .i64 (p : Int)], .int .i64 0] := by
        rw [hS, hm]; unfold prs; rw [if_neg hrej, if_neg hdg, hpp]
      by_cases htm : 1099511627776 < ((val a.data.toList : Nat) : Int)
      · rw [if_pos htm] at hL
        exact line_late s a b n hs US hW (by omega) hn hT htl _ _ 0 _ hp HA (by decide) htm r w hL
      rw [if_neg htm] at hL
      rcases hlk : look US n.data.toList with _ | u
      · rw [hlk] at hL
        exact line_unit s a b n hs US hW (by omega) hn hT htl _ _ 0 _ hp HA rfl htm hlk r w hM hL
      · rw [hlk] at hL
        obtain ⟨hmem, _⟩ := look_mem hlk
        obtain ⟨g1, g2, g3, g4, g5, g6, g7⟩ := hU u hmem
        have d0 := hok.1
        have hX : -1000000000 ≤ (if m = true then -S.digits else S.digits) ∧ (if m = true then -S.digits else S.digits) ≤ 1000000000 := by split <;> omega
        generalize (if m = true then -S.digits else S.digits) = X at hp hX hL
        have hpv : cv X S.places u = hup (X * u.mul + u.add * 10 ^ p) (u.div * 10 ^ p) := by
          unfold cv p10; rw [hpp]; rfl
        simp only at hL
        rw [hpv] at hL
        by_cases hsm : smp (hup (X * u.mul + u.add * 10 ^ p) (u.div * 10 ^ p)) = true
        · rw [if_pos hsm] at hL
          exact line_conv s a b n hs US hW (by omega) hn hT htl _ _ 0 _ hp HA u.nm u.mul u.add u.div _ 0
            (fun w hw => conv_as X p _ _ _ _ _ hX.1 hX.2 (by omega) g1 g2 g3 g4 g5 g6 g7 (by unfold cvt; rw [if_pos hsm]) w hw) rfl htm hlk r w hM hPW hL
        · rw [if_neg hsm] at hL
          exact line_conv s a b n hs US hW (by omega) hn hT htl _ _ 0 _ hp HA u.nm u.mul u.add u.div 0 12
            (fun w hw => conv_as X p _ _ _ _ _ hX.1 hX.2 (by omega) g1 g2 g3 g4 g5 g6 g7 (by unfold cvt; rw [if_neg hsm]) w hw) rfl htm hlk r w hM hPW hL
  · exact line_short s hs US h3 r w
end Go.Proofs.YtpbnabibnkohdaaGreatDoor.Rt
namespace Go.Proofs.YtpbnabibnkohdaaGreatDoor.Rt
open Go.ChangeShapes Go.WideShapes Go.RowKit Wo Un Rg Go.MapKept Sr
open Rm (Rp tm vl)
set_option linter.unusedVariables false
theorem run_insertS {P : Program} {T K E : TypeId} (ht : P.underlying T = some (.map K E)) (hkk : P.underlying K = some .string) (w : World) (r clock : Nat) (es : Array MapEntry) (k : ByteArray) (u : Value) (hb : w.heap[r]? = some (.map es clock)) (hn : Instr.findNow .string (.string k) es.toList 0 = some none) :
    (Instr.mapUpdate T (.map (some r)) (.string k) u).run P w = .ok () { w with heap := w.heap.setIfInBounds r (.map (es.push ⟨.string k, u, clock⟩) (clock + 1)) } := by
  unfold Instr.mapUpdate
  simp only [Sem.run_bind, run_underlying ht, Result.andThen, Go.MapKept.run_getObj_map hb, run_checkKey hkk (show IsKey .string (.string k) from trivial), run_findKey hkk hn, run_setObj_map _ hb]
theorem wpList_insertS {P : Program} (w : World) {ops : Array Oper} {rest : List Oper} {o : Oper} {a : Act} {Q : Exit → Act → World → Prop}
    (hg : o.guard = none) (T K E : TypeId) (ht : P.underlying T = some (.map K E)) (hkk : P.underlying K = some .string) (m x v : Operand) (hop : o.op = Op.mapUpdate T m x v) (r clock : Nat) (es : Array MapEntry) (k : ByteArray) (u : Value)
    (hm : a.eval m = .map (some r)) (hx : a.eval x = .string k) (hv : a.eval v = u) (hb : w.heap[r]? = some (.map es clock)) (hn : Instr.findNow .string (.string k) es.toList 0 = some none)
    (hK : ∀ w', w'.heap[r]? = some (.map (es.push ⟨.string k, u, clock⟩) (clock + 1)) → Ch r w w' → wpList P ops Q rest (a.put o.dst undef) w') : wpList P ops Q (o :: rest) a w := by
  refine wpList_plain hg fun K' hK' => ?_
  have hrun := run_insertS (P := P) ht hkk w r clock es k u hb hn
  unfold Oper.wp
  simp [execOp, hop, hm, hx, hv, hrun, Result.andThen]
  refine hK' _ _ (hK _ (heap_set hb).1 ⟨rfl, rfl, rfl, by simp, fun j hj hne => ?_⟩)
  exact (heap_set hb).2 j (fun e => hne (by rw [e]))
theorem ents_snoc (u : Ut) : ∀ (US : List Ut) (k : Nat), ents (US ++ [u]) k = ents US k ++ [⟨.string ⟨u.nm.toArray⟩, uv u, k + US.length⟩]
  | [], k => rfl
  | v :: us, k => by
    show _ :: ents (us ++ [u]) (k + 1) = _ :: (ents us (k + 1) ++ _)
    rw [ents_snoc u us (k + 1), List.length_cons, show k + 1 + us.length = k + (us.length + 1) by omega]
theorem ents_len : ∀ (US : List Ut) (k : Nat), (ents US k).length = US.length
  | [], k => rfl
  | v :: us, k => by show (ents us (k + 1)).length + 1 = us.length + 1; rw [ents_len us (k + 1)]
theorem mp_snoc {w : World} {r : Nat} {US : List Ut} (u : Ut) (h : w.heap[r]? = some (.map ((ents US 0).toArray.push ⟨.string ⟨u.nm.toArray⟩, uv u, US.length⟩) (US.length + 1))) : Mp w r (US ++ [u]) := by
  unfold Mp
  rw [ents_snoc, h, Nat.zero_add]
  simp
theorem run_lenM {P : Program} {t K E : TypeId} (ht : P.underlying t = some (.map K E)) (ty : TypeId) (w : World) (r clock : Nat) (es : Array MapEntry) (hb : w.heap[r]? = some (.map es clock)) : (Builtin.len_ #[t] ty #[.map (some r)]).run P w = .ok (.int .i64 es.size) w := by
  unfold Builtin.len_
  simp [Sem.run_bind, run_underlying ht, Result.andThen, Go.MapKept.run_getObj_map hb, goInt]
/-- a row of units -/
def Zu (w : World) (g : Nat) (US : List Ut) : Prop := g < w.heap.size ∧ ∀ (j : Nat) (u : Ut), US[j]? = some u →
  w.cell? ⟨g, j * 4, none⟩ = some (.string ⟨u.nm.toArray⟩) ∧ w.cell? ⟨g, j * 4 + 1, none⟩ = some (.int .i64 u.mul) ∧ w.cell? ⟨g, j * 4 + 2, none⟩ = some (.int .i64 u.add) ∧ w.cell? ⟨g, j * 4 + 3, none⟩ = some (.int .i64 u.div)
theorem Zu.bel {w w' : World} {g : Nat} {US : List Ut} (h : Zu w g US) (hb : Bel w w') : Zu w' g US :=
  ⟨by have := hb.size; have := h.1; omega, fun j u hu => by
    obtain ⟨a, b, c, d⟩ := h.2 j u hu
    exact ⟨hb.kp a, hb.kp b, hb.kp c, hb.kp d⟩⟩
theorem look_none {US : List Ut} {n : List UInt8} (h : n ∉ US.map (·.nm)) : look US n = none := by
  unfold look
  rw [List.find?_eq_none]
  intro u hu e
  exact h (by rw [← beq_iff_eq.1 e]; exact List.mem_map_of_mem hu)
def IdxR (US : List Ut) (w : World) (e : Ending) (w' : World) : Prop := ∃ r, e = .returned (.tuple #[.map (some r), .int .i64 0]) ∧ w.heap.size ≤ r ∧ Mp w' r US ∧ Bel w w'
set_option maxHeartbeats 4000000 in
set_option maxRecDepth 100000 in
theorem index_any (s : ByteArray) (hs : s.size ≤ 16384) (US : List Ut) (hU : ∀ u ∈ US, GoodU u) (hN : (US.map (·.nm)).Nodup) (n c g : Nat) (hn : US.length = n) (h16 : n ≤ 16) (w : World) (hZ : Zu w g US) :
    Calls Tryz.prog 57 #[.string s, .slice (some ⟨g, 0, none⟩) n c] w (IdxR US w) := by
  have s1 : ¬ (16384 : Int) < (s.size : Int) := by omega
  have n1 : ¬ (16 : Int) < (n : Int) := by omega
  have n2 : (n : Int) ≤ 16 := by omega
  have hmm := @run_makeMap Tryz.prog
  have HZ := Lib.hid hZ
  have HL := Lib.hid hn
  have HG := Lib.hid hU
  have HN := Lib.hid hN
  clear hZ hn hU hN
  go_enter Tryz.func57, Tryz.ntmps57
  go_wp2
  go_loopw [20] (fun s20 wr => ∃ (k : Nat) (V : World), V = wr ∧ k ≤ n ∧ s20 = .int .i64 (k : Int) ∧ Mp wr w.heap.size (US.take k) ∧ Bel w wr) (fun s20 _ => n - (intOf s20).toNat)
  case atStart => exact ⟨0, _, rfl, by omega, rfl, (Go.MapKept.heap_alloc w (.map #[] 0)).1, Bel.rf.al _⟩
  case round =>
    obtain ⟨k, wr, hwr, hk, rfl, hM, hb⟩ := hrel
    subst hwr
    rcases Nat.lt_or_ge k n with hlt | hge
    · obtain ⟨u, hu⟩ : ∃ u, US[k]? = some u := ⟨_, List.getElem?_eq_getElem (by rw [HL.out]; exact hlt)⟩
      have ht : US.take (k + 1) = US.take k ++ [u] := by rw [List.take_add_one, hu]; rfl
      have hfresh : u.nm ∉ (US.take k).map (·.nm) := by
        have h1 : ((US.take (k + 1)).map (·.nm)).Nodup := by
          rw [List.map_take]
          exact List.Nodup.sublist (List.take_sublist _ _) HN.out
        rw [ht, List.map_append, List.map_cons, List.map_nil] at h1
        have := (List.nodup_append.1 h1).2.2
        intro hm
        exact this _ hm _ (by simp) rfl
      have hlen : (US.take k).length = k := by rw [List.length_take, HL.out]; omega
      obtain ⟨c1, c2, c3, c4⟩ := (HZ.out.bel hb).2 k u hu
      obtain ⟨g1, g2, g3, g4, g5, g6, g7⟩ := HG.out u (List.mem_of_getElem? hu)
      have hfd := (find_ents u.nm (US.take k) 0 0).1 (look_none hfresh)
      have HFD := Lib.hid hfd
      have HT := Lib.hid ht
      have HLN := Lib.hid hlen
      obtain ⟨nm, mul, add, div⟩ := u
      have HV : Hid (∀ w, Calls Tryz.prog 80 #[.agg #[.string ⟨nm.toArray⟩, .int .i64 mul, .int .i64 add, .int .i64 div]] w fun e w' => e = .returned (.bool true) ∧ Bel w w') := fun w => unit_yes _ _ _ _ g1 g2 g3 g4 g5 g6 g7 w
      have HM := Lib.hid hM
      have HB := Lib.hid hb
      have ki : (k : Int) < (n : Int) := by omega
      have sz := hb.size
      have hlw := HM.out.lt
      clear hfd ht hlen hfresh hu g1 g2 g3 g4 g5 g6 g7 hM hb
      go_wp2_with fail
      go_at_call 80
      refine (HV.out _).mono ?_
      rintro e w2 ⟨rfl, hb2⟩
      have kU : Bk w2 wr.heap.size 65 #[.string ⟨nm.toArray⟩, .int .i64 mul, .int .i64 add, .int .i64 div] := (Bk.nw wr _ _).bel hb2
      have d0 : w2.cell? ⟨wr.heap.size, 0, none⟩ = some (.string ⟨nm.toArray⟩) := by rw [kU.cell]; rfl
      have d1 : w2.cell? ⟨wr.heap.size, 1, none⟩ = some (.int .i64 mul) := by rw [kU.cell]; rfl
      have d2 : w2.cell? ⟨wr.heap.size, 2, none⟩ = some (.int .i64 add) := by rw [kU.cell]; rfl
      have d3 : w2.cell? ⟨wr.heap.size, 3, none⟩ = some (.int .i64 div) := by rw [kU.cell]; rfl
      have hM2 := Lib.hid ((HM.out.bel (Bel.rf.al _)).bel hb2)
      go_wp2_with (refine wpList_insertS _ rfl 94 9 65 Tryz.underlying94 Tryz.underlying9 _ _ _ rfl w.heap.size _ _ ⟨nm.toArray⟩ (uv ⟨nm, mul, add, div⟩) rfl rfl rfl hM2.out HFD.out ?_; intro w3 hp3 hc3)
      go_roundw
      case rel => exact ⟨k + 1, _, rfl, by omega, by go_num, by rw [HT.out]; exact mp_snoc _ hp3, Bel.ch ((HB.out.al _).tr hb2) hc3 (Nat.le_refl _)⟩
      case measure => simp [intOf]; omega
    · obtain rfl : k = n := by omega
      have hM' : Mp wr w.heap.size US := by rwa [List.take_of_length_le (by rw [HL.out]; exact Nat.le_refl _)] at hM
      have hM2 := hM'
      unfold Mp at hM2
      have hln := run_lenM Tryz.underlying94 3 wr w.heap.size _ _ hM2
      rw [show (ents US 0).toArray.size = k by rw [List.size_toArray, ents_len, HL.out]] at hln
      have HM := Lib.hid (And.intro hM' hb)
      clear hM hM' hb
      go_wp2
      go_ret2
      exact ⟨w.heap.size, rfl, Nat.le_refl _, HM.out.1, HM.out.2⟩
end Go.Proofs.YtpbnabibnkohdaaGreatDoor.Rt
namespace Go.Proofs.YtpbnabibnkohdaaGreatDoor.Rt
open Go.ChangeShapes Go.WideShapes Go.RowKit Wo Un Rg Go.MapKept Sr
open Rm (Rp tm vl)
set_option linter.unusedVariables false
def thrown (n er : Int) (r : Bool) : PanicEntry := { v := .iface 92 (.agg #[.int .i64 n, .int .i64 er]), recovered := r }
theorem assert_fault (v : Value) (w : World) : (Instr.typeAssert (.iface 92 v) 20 92 true).run Tryz.prog w = .ok (.tuple #[v, .bool true]) w := by
  unfold Instr.typeAssert
  simp [Sem.run_bind, run_underlying Tryz.underlying92, Result.andThen]
def CW (b : Nat) (n er : Int) (v0 l0 e0 : Value) (w : World) (x1 x2 x3 : Bool) (W : World) : Prop :=
  Bk W b 61 #[if x1 = true then .slice none 0 0 else v0] ∧ Bk W (b + 1) 3 #[if x2 = true then .int .i64 n else l0] ∧ Bk W (b + 2) 28 #[if x3 = true then .int .i64 er else e0] ∧ Below b w W
variable {b : Nat} {n er : Int} {v0 l0 e0 : Value} {w W : World} {x1 x2 x3 : Bool}
theorem cw_in (h1 : Bk w b 61 #[v0]) (h2 : Bk w (b + 1) 3 #[l0]) (h3 : Bk w (b + 2) 28 #[e0]) : CW b n er v0 l0 e0 w false false false w := ⟨h1, h2, h3, Below.refl _ _⟩
theorem cw_out (h : CW b n er v0 l0 e0 w true true true W) : Bk W b 61 #[.slice none 0 0] ∧ Bk W (b + 1) 3 #[.int .i64 n] ∧ Bk W (b + 2) 28 #[.int .i64 er] ∧ Below b w W := h
theorem cw_drw (h : CW b n er v0 l0 e0 w x1 x2 x3 W) : CW b n er v0 l0 e0 w x1 x2 x3 W.drew := ⟨h.1.drw, h.2.1.drw, h.2.2.1.drw, Below.drew h.2.2.2⟩
theorem cw_al {o : Obj} (h : CW b n er v0 l0 e0 w x1 x2 x3 W) : CW b n er v0 l0 e0 w x1 x2 x3 (W.alloc o) := ⟨h.1.al _, h.2.1.al _, h.2.2.1.al _, Below.alloc h.2.2.2 (by have := h.1.lt; omega) _⟩
theorem cw_1 (h : CW b n er v0 l0 e0 w x1 x2 x3 W) : CW b n er v0 l0 e0 w true x2 x3 (W.setCell ⟨b, 0, none⟩ (.slice none 0 0)) := ⟨h.1.st 0 _, h.2.1.far (by show b + 1 ≠ b; omega) _, h.2.2.1.far (by show b + 2 ≠ b; omega) _, Below.setCell h.2.2.2 (by show b ≤ b; omega) _⟩
theorem cw_2 (h : CW b n er v0 l0 e0 w x1 x2 x3 W) : CW b n er v0 l0 e0 w x1 true x3 (W.setCell ⟨b + 1, 0, none⟩ (.int .i64 n)) := ⟨h.1.far (by show b ≠ b + 1; omega) _, h.2.1.st 0 _, h.2.2.1.far (by show b + 2 ≠ b + 1; omega) _, Below.setCell h.2.2.2 (by show b ≤ b + 1; omega) _⟩
theorem cw_3 (h : CW b n er v0 l0 e0 w x1 x2 x3 W) : CW b n er v0 l0 e0 w x1 x2 true (W.setCell ⟨b + 2, 0, none⟩ (.int .i64 er)) := ⟨h.1.far (by show b ≠ b + 2; omega) _, h.2.1.far (by show b + 1 ≠ b + 2; omega) _, h.2.2.1.st 0 _, Below.setCell h.2.2.2 (by show b ≤ b + 2; omega) _⟩
theorem st1 {w : World} {g : Nat} {t : TypeId} {a u : Value} (h : Bk w g t #[a]) : Bk (w.setCell ⟨g, 0, none⟩ u) g t #[u] := h.st 0 u
theorem wpS_by {P : Program} {c : Code} {Q : Exit → Act → List Frame → World → Prop} {a : Act} {cs : List Frame} {w : World} (K : Exit → Act → World → Prop) (h : ∀ K', K' = K → c.wp P K' a w) (hK : ∀ e a' w', K e a' w' → Q e a' cs w') : c.wpS P Q a cs w :=
  fun b k _ _ => let ⟨e, a', w', q, r⟩ := h K rfl b k cs; ⟨e, a', cs, w', hK _ _ _ q, r⟩
theorem catch_idle (p q r : Option Addr) (w : World) :
    CallsD Tryz.prog 56 #[.pointer p, .pointer q, .pointer r] .returning w fun e u' w' => e = .returned (.tuple #[]) ∧ u' = .returning ∧ w' = w := by
  refine callsD_of_wpS Tryz.func56 rfl fun c₀ cs hu => ?_
  apply wpS_seq
  apply wpS_region
  simp [wpOpsS, go_sem, recoverD, hu, Tryz.ntmps56, Exit.thenS]
  apply wpS_seq
  apply wpS_region
  simp [wpOpsS, go_sem, recoverD, hu, Exit.thenS]
  refine wpS_cond (t := false) (by simp [Act.eval, Array.replicate]) ?_
  simp only [Bool.false_eq_true, if_false]
  refine wpS_of_wp (wp_skip ?_)
  cases c₀
  simp_all [bodyPostS, results, Tryz.results56]
set_option maxHeartbeats 1000000 in
theorem catch_thrown (h1 : Bk w b 61 #[v0]) (h2 : Bk w (b + 1) 3 #[l0]) (h3 : Bk w (b + 2) 28 #[e0]) :
    CallsD Tryz.prog 56 #[.pointer (some ⟨b, 0, none⟩), .pointer (some ⟨b + 1, 0, none⟩), .pointer (some ⟨b + 2, 0, none⟩)] (.panicking (thrown n er false :: [])) w fun e u' w' =>
      e = .returned (.tuple #[]) ∧ u' = .panicking (thrown n er true :: []) ∧ Bk w' b 61 #[.slice none 0 0] ∧ Bk w' (b + 1) 3 #[.int .i64 n] ∧ Bk w' (b + 2) 28 #[.int .i64 er] ∧ Below b w w' := by
  refine callsD_of_wpS Tryz.func56 rfl fun c₀ cs hu => ?_
  apply wpS_seq
  apply wpS_region
  simp [wpOpsS, go_sem, recoverD, hu, thrown, Tryz.ntmps56, Exit.thenS]
  have kta := assert_fault (.agg #[.int .i64 n, .int .i64 er]) w
  apply wpS_seq
  apply wpS_region
  simp [wpOpsS, go_sem, Exit.thenS]
  refine wpS_cond (t := true) (by simp [Act.eval, Array.replicate]) ?_
  simp only [if_true]
  apply wpS_seq
  apply wpS_region
  simp [wpOpsS, go_sem, kta, Exit.thenS]
  apply wpS_seq
  apply wpS_seq
  apply wpS_region
  simp [wpOpsS, go_sem, Exit.thenS]
  refine wpS_cond (t := false) (by simp [Act.eval, Array.replicate]) ?_
  simp only [Bool.false_eq_true, if_false]
  refine wpS_of_wp (wp_skip ?_)
  simp only [Exit.thenS]
  refine wpS_by (fun e a' w' => (e = .normal ∨ e = .ret) ∧ a'.defers = [] ∧ Bk w' b 61 #[.slice none 0 0] ∧ Bk w' (b + 1) 3 #[.int .i64 n] ∧ Bk w' (b + 2) 28 #[.int .i64 er] ∧ Below b w w') ?_ ?_
  · intro K' hK'
    subst hK'
    clear hu kta
    have s1 := h1.lt
    have s2 := h2.lt
    have s3 := h3.lt
    have HCW : Hid (CW b n er v0 l0 e0 w false false false w) := cw_in h1 h2 h3
    have c1 : w.cell? ⟨b, 0, none⟩ = some v0 := by rw [h1.cell]; rfl
    have c2 : w.cell? ⟨b + 1, 0, none⟩ = some l0 := by rw [h2.cell]; rfl
    have c3 : w.cell? ⟨b + 2, 0, none⟩ = some e0 := by rw [h3.cell]; rfl
    have f1 := h1.fr 0
    have f2 := h2.fr 0
    have f3 := h3.fr 0
    clear h1 h2 h3
    go_region
    all_goals
      refine ⟨.inl rfl, rfl, cw_out (v0 := v0) (l0 := l0) (e0 := e0) ?_⟩
      repeat (first | (with_reducible refine cw_drw ?_) | (with_reducible refine cw_al ?_))
      first
        | exact cw_3 (cw_2 (cw_1 HCW.out))
        | exact cw_3 (cw_1 (cw_2 HCW.out))
        | exact cw_2 (cw_3 (cw_1 HCW.out))
        | exact cw_2 (cw_1 (cw_3 HCW.out))
        | exact cw_1 (cw_3 (cw_2 HCW.out))
        | exact cw_1 (cw_2 (cw_3 HCW.out))
  · rintro e a' w' ⟨he, hd, hx⟩
    rcases he with rfl | rfl
    · exact ⟨hd, _, rfl, .tuple #[], by simp [results, Tryz.results56], rfl, rfl, hx⟩
    · exact ⟨hd, _, rfl, .tuple #[], by simp [results, Tryz.results56], rfl, rfl, hx⟩
end Go.Proofs.YtpbnabibnkohdaaGreatDoor.Rt
namespace Go.Proofs.YtpbnabibnkohdaaGreatDoor.Rt
open Go.ChangeShapes Go.WideShapes Go.RowKit Wo Un Rg Go.MapKept Sr
open Rm (Rp tm vl)
set_option linter.unusedVariables false
/-- what Parse returns: the readings and no error, or nothing, a line and its error -/
def ParR (US : List Ut) (s : ByteArray) (w : World) (e : Ending) (w' : World) : Prop :=
  ∃ (l : List Rp) (k : Nat) (er : Int) (v : Value), run US (lns s.data.toList) 1 [] = (l, k, er) ∧ e = .returned (.tuple #[v, .int .i64 (k : Int), .int .i64 er]) ∧ w'.ownsRow w.heap.size 100 2 v l.length (rs l) ∧ Bel w w'
theorem own_base {w : World} {b1 b2 n s : Nat} {e : TypeId} {v : Value} {xs : List Value} (h : w.ownsRow b1 e s v n xs) (hb : b2 ≤ b1) : w.ownsRow b2 e s v n xs := by
  refine ⟨h.1, ?_⟩
  rcases h.2 with h' | ⟨g, c, cur, h1, h2, h3⟩
  · exact .inl h'
  · exact .inr ⟨g, c, cur, h1, Nat.le_trans hb h2, h3⟩
theorem own_st {w : World} {b1 n s : Nat} {e : TypeId} {v : Value} {xs : List Value} (h : w.ownsRow b1 e s v n xs) {p : Addr} (hp : p.block < b1) (u : Value) : (w.setCell p u).ownsRow b1 e s v n xs := by
  refine ⟨h.1, ?_⟩
  rcases h.2 with h' | ⟨g, c, cur, h1, h2, h3, h4⟩
  · exact .inl h'
  · exact .inr ⟨g, c, cur, h1, h2, (Below.heap_setCell w p u g (by omega)).trans h3, h4⟩
theorem own_bel {w w' : World} {b1 n s : Nat} {e : TypeId} {v : Value} {xs : List Value} (h : w.ownsRow b1 e s v n xs) (hb : Bel w w') : w'.ownsRow b1 e s v n xs := by
  refine ⟨h.1, ?_⟩
  rcases h.2 with h' | ⟨g, c, cur, h1, h2, h3, h4⟩
  · exact .inl h'
  · refine .inr ⟨g, c, cur, h1, h2, (Below.block hb g ?_).trans h3, h4⟩
    rcases Nat.lt_or_ge g w.heap.size with h5 | h5
    · exact h5
    · rw [Array.getElem?_eq_none h5] at h3; cases h3
theorem own_cells {w : World} {b1 n s : Nat} {e : TypeId} {v : Value} {xs : List Value} (h : w.ownsRow b1 e s v n xs) (g : Nat) (hg : v.ownBlock = some g) : ∃ cs fz, w.heap[g]? = some (.cells cs e fz) := by
  rcases h.2 with ⟨rfl, _⟩ | ⟨g', c, cur, rfl, h2, h3, _⟩
  · cases hg
  · cases hg
    exact ⟨_, _, h3⟩
theorem grown_bk {a c : World} {B n s k : Nat} {e t : TypeId} {v : Value} {xs : List Value} {cs : Array Value} (hg : a.grownBy c v.ownBlock) (ho : a.ownsRow B e s v n xs) (h : Bk a k t cs) (hk : k < B) : Bk c k t cs :=
  (hg.block k h.lt (fun e => by have := (ho.lt k e.symm).1; omega)).trans h
theorem grown_mp {a c : World} {B n s r : Nat} {e : TypeId} {v : Value} {xs : List Value} {US : List Ut} (hg : a.grownBy c v.ownBlock) (ho : a.ownsRow B e s v n xs) (h : Mp a r US) : Mp c r US :=
  (hg.block r h.lt (fun e => by
    obtain ⟨cs, fz, h1⟩ := own_cells ho r e.symm
    unfold Mp at h
    rw [h1] at h; cases h)).trans h
theorem grown_bel {w a c : World} {B n s : Nat} {e : TypeId} {v : Value} {xs : List Value} (hb : Bel w a) (hg : a.grownBy c v.ownBlock) (ho : a.ownsRow B e s v n xs) (hB : w.heap.size ≤ B) : Bel w c :=
  Below.grown hb hg hb.size (fun k hk => by have := (ho.lt k hk).1; omega)
theorem results_par (tmps : Array Value) (w : World) (b : Nat) (v : Value) (k er : Int) (h4 : tmps.getD 4 undef = .pointer (some ⟨b, 0, none⟩)) (h5 : tmps.getD 5 undef = .pointer (some ⟨b + 1, 0, none⟩)) (h6 : tmps.getD 6 undef = .pointer (some ⟨b + 1 + 1, 0, none⟩))
    (h1 : Bk w b 61 #[v]) (h2 : Bk w (b + 1) 3 #[.int .i64 k]) (h3 : Bk w (b + 2) 28 #[.int .i64 er]) :
    (results Tryz.f34 tmps).run Tryz.prog w = .ok (.tuple #[v, .int .i64 k, .int .i64 er]) w := by
  have c1 : w.cell? ⟨b, 0, none⟩ = some v := by rw [h1.cell]; rfl
  have c2 : w.cell? ⟨b + 1, 0, none⟩ = some (.int .i64 k) := by rw [h2.cell]; rfl
  have c3 : w.cell? ⟨b + 1 + 1, 0, none⟩ = some (.int .i64 er) := by rw [show b + 1 + 1 = b + 2 from rfl, h3.cell]; rfl
  have e4 : tmps[4]?.getD undef = .pointer (some ⟨b, 0, none⟩) := by simpa using h4
  have e5 : tmps[5]?.getD undef = .pointer (some ⟨b + 1, 0, none⟩) := by simpa using h5
  have e6 : tmps[6]?.getD undef = .pointer (some ⟨b + 1 + 1, 0, none⟩) := by simpa using h6
  simp [results, Tryz.results34, e4, e5, e6, go_sem, c1, c2, c3]
def szOf : Value → Nat
  | .string x => x.size
  | _ => 0
/-- the loop -/
def LoopR (US : List Ut) (s : ByteArray) (FIN : List Rp × Nat × Int) (r b : Nat) (w : World) (s0 s8 : Value) (wr : World) : Prop :=
  ∃ (x : ByteArray) (k : Nat) (acc : List Rp) (v : Value) (V : World), V = wr ∧ s0 = .string x ∧ s8 = .int .i64 (k : Int) ∧ x.size ≤ 16384 ∧ k + x.size ≤ 16385 ∧ acc.length < k ∧ acc.length ≤ 2000 ∧ run US (lns x.data.toList) k acc = FIN ∧ wr.ownsRow (b + 3) 100 2 v acc.length (rs acc) ∧
    Bk wr b 61 #[v] ∧ Bk wr (b + 1) 3 #[.int .i64 0] ∧ Bk wr (b + 2) 28 #[.int .i64 0] ∧ Mp wr r US ∧ Bel w wr ∧ b + 3 ≤ wr.heap.size
set_option maxHeartbeats 4000000 in
set_option maxRecDepth 100000 in
theorem parse_go (s : ByteArray) (hs : s.size ≤ 16384) (US : List Ut) (hU : ∀ u ∈ US, GoodU u) (hN : (US.map (·.nm)).Nodup) (n c g : Nat) (hn : US.length = n) (h16 : n ≤ 16) (w : World) (hZ : Zu w g US) (hPW : Pows w) :
    Calls Tryz.prog 34 #[.string s, .slice (some ⟨g, 0, none⟩) n c] w (ParR US s w) := by
  have hmf : ∀ (fn : Fn) (first cap : Array Value) (w : World), (Instr.makeFunc fn first cap).run Tryz.prog w = .ok (.func fn first cap) w := fun _ _ _ _ => rfl
  obtain ⟨FIN, hF⟩ : ∃ F, run US (lns s.data.toList) 1 [] = F := ⟨_, rfl⟩
  have HF := Lib.hid hF
  have HX := Lib.hid (index_any s hs US hU hN n c g hn h16)
  have HL := Lib.hid (fun (C : ByteArray) (hC : C.size ≤ 20000) (r : Nat) (W : World) (hM : Mp W r US) (hp : Pows W) => line_any C hC US hU r W hM hp)
  have HZ := Lib.hid hZ
  have HP := Lib.hid hPW
  clear hF hU hN hn hZ hPW
  go_enter_defers Tryz.func34, Tryz.ntmps34
  go_wp2_with fail
  go_at_call 57
  refine (HX.out _ (((HZ.out.bel (Bel.rf.al _)).bel (Bel.rf.al _)).bel (Bel.rf.al _))).mono ?_
  rintro e w1 ⟨r, rfl, hr, hM, hb⟩
  have hbw : Bel w w1 := (((Bel.rf.al _).al _).al _).tr hb
  have b0 : Bk w1 w.heap.size 61 #[.slice none 0 0] := Bk.bel (((Bk.nw w _ _).al _).al _) hb
  have b1 : Bk w1 (w.heap.size + 1) 3 #[.int .i64 0] := Bk.bel ((Bk.nq (w.alloc _) _ _ (by simp)).al _) hb
  have b2 : Bk w1 (w.heap.size + 1 + 1) 28 #[.int .i64 0] := Bk.bel (Bk.nq ((w.alloc _).alloc _) _ _ (by simp)) hb
  have c2 : w1.cell? ⟨w.heap.size + 1 + 1, 0, none⟩ = some (.int .i64 0) := by rw [b2.cell]; rfl
  have f2 := b2.fr 0
  have lt2 := b2.lt
  have HS : Hid (LoopR US s FIN r w.heap.size w (.string s) (.int .i64 1) (w1.setCell ⟨w.heap.size + 1 + 1, 0, none⟩ (.int .i64 0))) :=
    ⟨s, 1, [], .slice none 0 0, _, rfl, rfl, rfl, hs, by omega, by simp, by simp, HF.out, World.ownsRow_nil _ _ _ _, b0.far (by show w.heap.size ≠ w.heap.size + 1 + 1; omega) _, b1.far (by show w.heap.size + 1 ≠ w.heap.size + 1 + 1; omega) _, b2.st 0 _, (Below.heap_setCell w1 ⟨w.heap.size + 1 + 1, 0, none⟩ _ r (by show r ≠ w.heap.size + 1 + 1; simp at hr; omega)).trans hM, hbw.st (by show _ ≤ w.heap.size + 1 + 1; omega) _, by simp; omega⟩
  have HRS : Hid (w.heap.size + 3 ≤ r) := by simp at hr; exact hr
  clear hM hb hbw b0 b1 b2 hr
  go_wp2
  go_loopw [0, 8] (fun s0 s8 wr => LoopR US s FIN r w.heap.size w s0 s8 wr) (fun s0 _ _ => szOf s0)
  case atStart => exact HS.out
  case round =>
    clear HS
    obtain ⟨x, k, acc, v, wr, hwr, rfl, rfl, hx, hkx, hak, ha2, hrun, hown, b0, b1, b2, hM, hb, hsz⟩ := hrel
    subst hwr
    obtain ⟨A, cc, rfl, hZr⟩ := own_zr hown rfl
    obtain ⟨q, hq⟩ : ∃ q, acc.length = q := ⟨_, rfl⟩
    rw [hq] at hown b0 hak ha2 hZr
    have c0 : wr.cell? ⟨w.heap.size, 0, none⟩ = some (.slice A q cc) := by rw [b0.cell]; rfl
    have c1 : wr.cell? ⟨w.heap.size + 1, 0, none⟩ = some (.int .i64 0) := by rw [b1.cell]; rfl
    have c2 : wr.cell? ⟨w.heap.size + 1 + 1, 0, none⟩ = some (.int .i64 0) := by rw [show w.heap.size + 1 + 1 = w.heap.size + 2 from rfl, b2.cell]; rfl
    have f0 := b0.fr 0
    have f1 := b1.fr 0
    have f2 : wr.frozen? ⟨w.heap.size + 1 + 1, 0, none⟩ = false := b2.fr 0
    have lt0 := b0.lt
    have lt1 := b1.lt
    have lt2 : w.heap.size + 1 + 1 < wr.heap.size := b2.lt
    have HQ := Lib.hid hq
    have HO := Lib.hid hown
    have HB0 := Lib.hid b0
    have HB1 := Lib.hid b1
    have HB2 := Lib.hid b2
    have HM := Lib.hid hM
    have HB := Lib.hid hb
    have HRN := Lib.hid hrun
    clear hq hown b0 b1 b2 hM hb hrun hZr
    rcases Nat.eq_zero_or_pos x.size with h0 | h0
    · have xl : x.data.toList = [] := List.length_eq_zero_iff.1 (by rw [← Lib.size_eq]; exact h0)
      have HFIN : Hid (FIN = (acc, 0, 0)) := by
        have := HRN.out
        rw [xl, lns_nil] at this
        exact this.symm
      have e0 : x.toList = [] := by rw [Lib.toList_data]; exact xl
      have e1 : x.toList.isEmpty = true := by rw [e0]; rfl
      clear xl
      go_wp2
      refine leaves_cons (f := 56) (args := #[.pointer (some ⟨w.heap.size, 0, none⟩), .pointer (some ⟨w.heap.size + 1, 0, none⟩), .pointer (some ⟨w.heap.size + 1 + 1, 0, none⟩)]) (by simp) (by simp [go_sem]) ?_
      refine (catch_idle _ _ _ _).mono ?_
      rintro e u' w'' ⟨rfl, rfl, rfl⟩
      exact ⟨_, results_par _ _ w.heap.size (.slice A q cc) 0 0 rfl rfl rfl (((HB0.out.st 0 _).far (by show w.heap.size ≠ w.heap.size + 1; omega) _).far (by show w.heap.size ≠ w.heap.size + 1 + 1; omega) _) (((HB1.out.far (by show w.heap.size + 1 ≠ w.heap.size; omega) _).st 0 _).far (by show w.heap.size + 1 ≠ w.heap.size + 1 + 1; omega) _) (((HB2.out.far (by show w.heap.size + 2 ≠ w.heap.size; omega) _).far (by show w.heap.size + 2 ≠ w.heap.size + 1; omega) _).st 0 _),
        acc, 0, 0, .slice A q cc, HF.out.trans HFIN.out, rfl, by rw [HQ.out]; exact own_base (own_st (own_st (own_st HO.out (by show w.heap.size < w.heap.size + 3; omega) _) (by show w.heap.size + 1 < w.heap.size + 3; omega) _) (by show w.heap.size + 1 + 1 < w.heap.size + 3; omega) _) (by omega),
        ((HB.out.st (by show w.heap.size ≤ w.heap.size; omega) _).st (by show w.heap.size ≤ w.heap.size + 1; omega) _).st (by show w.heap.size ≤ w.heap.size + 1 + 1; omega) _⟩
    · have xne : x.data.toList ≠ [] := fun e => by rw [Lib.size_eq, e] at h0; simp at h0
      have e0 : x.toList.isEmpty = false := by rw [Lib.toList_data]; cases hq : x.data.toList with | nil => exact absurd hq xne | cons c l => rfl
      have e1 : (x.toList == []) = false := by rw [Lib.toList_data]; cases hq : x.data.toList with | nil => exact absurd hq xne | cons c l => rfl
      obtain ⟨bf, hcut⟩ := cutN_any x (by omega)
      have hCs := cutN_le x.data.toList
      have hDs := cutN_lt x.data.toList xne
      have hln := HRN.out
      rw [lns_ne _ xne] at hln
      obtain ⟨C, hC⟩ : ∃ C : ByteArray, (⟨(cutN x.data.toList).1.toArray⟩ : ByteArray) = C := ⟨_, rfl⟩
      obtain ⟨D, hD⟩ : ∃ D : ByteArray, (⟨(cutN x.data.toList).2.toArray⟩ : ByteArray) = D := ⟨_, rfl⟩
      rw [hC, hD] at hcut
      have hCd : C.data.toList = (cutN x.data.toList).1 := by rw [← hC]
      have hDd : D.data.toList = (cutN x.data.toList).2 := by rw [← hD]
      rw [← hCd, ← hDd] at hln
      rw [← hCd] at hCs
      rw [← hDd] at hDs
      rw [← Lib.size_eq, ← Lib.size_eq] at hCs hDs
      have HC := Lib.hid hcut
      have ksz : (k : Int) ≤ 16385 := by omega
      clear hcut hC hD hCd hDd xne HRN
      go_wp2_with fail
      go_at_call 58
      refine (HC.out _).mono ?_
      rintro e w2 ⟨rfl, hb2⟩
      have HO2 := Lib.hid (own_bel HO.out hb2)
      have HB02 := Lib.hid (HB0.out.bel hb2)
      have HB12 := Lib.hid (HB1.out.bel hb2)
      have HB22 := Lib.hid (HB2.out.bel hb2)
      have HM2 := Lib.hid (HM.out.bel hb2)
      have HBB2 := Lib.hid (HB.out.tr hb2)
      clear HO HB0 HB1 HB2 HM HB c0 c1 c2 f0 f1 f2 lt0 lt1 lt2 hb2
      have HO := HO2
      have HB0 := HB02
      have HB1 := HB12
      have HB2 := HB22
      have HM := HM2
      have HB := HBB2
      clear HO2 HB02 HB12 HB22 HM2 HBB2
      have c0 : w2.cell? ⟨w.heap.size, 0, none⟩ = some (.slice A q cc) := by rw [HB0.out.cell]; rfl
      have c1 : w2.cell? ⟨w.heap.size + 1, 0, none⟩ = some (.int .i64 0) := by rw [HB1.out.cell]; rfl
      have c2 : w2.cell? ⟨w.heap.size + 1 + 1, 0, none⟩ = some (.int .i64 0) := by rw [show w.heap.size + 1 + 1 = w.heap.size + 2 from rfl, HB2.out.cell]; rfl
      have f0 := HB0.out.fr 0
      have f1 := HB1.out.fr 0
      have f2 : w2.frozen? ⟨w.heap.size + 1 + 1, 0, none⟩ = false := HB2.out.fr 0
      have lt0 := HB0.out.lt
      have lt1 := HB1.out.lt
      have lt2 : w.heap.size + 1 + 1 < w2.heap.size := HB2.out.lt
      rcases Nat.eq_zero_or_pos C.size with g0 | g0
      · have cl : C.data.toList = [] := List.length_eq_zero_iff.1 (by rw [← Lib.size_eq]; exact g0)
        have HFN : Hid (run US (lns D.data.toList) (k + 1) acc = FIN) := by
          have := hln
          rw [run_skip US _ _ _ _ (.inl cl)] at this
          exact this
        have HS2 : Hid (LoopR US s FIN r w.heap.size w (.string D) (.int .i64 ((k + 1 : Nat) : Int)) w2) :=
          ⟨D, k + 1, acc, .slice A q cc, _, rfl, rfl, rfl, by omega, by omega, by have := HQ.out; omega, by have := HQ.out; omega, HFN.out, by rw [HQ.out]; exact HO.out, HB0.out, HB1.out, HB2.out, HM.out, HB.out, by have := HB2.out.lt; omega⟩
        have q0 : C.toList = [] := by rw [Lib.toList_data]; exact cl
        have q1 : C.toList.isEmpty = true := by rw [q0]; rfl
        clear cl hln
        go_wp2
        go_roundw
        case rel => exact HS2.out
        case measure => simp [szOf]; omega
      · obtain ⟨ch, rest, hl⟩ : ∃ c rest, C.data.toList = c :: rest := by
          rcases hq : C.data.toList with _ | ⟨c, rest⟩
          · rw [Lib.size_eq, hq] at g0; simp at g0
          · exact ⟨c, rest, rfl⟩
        have h00 : C[0] = ch := by
          have : C.data.toList[0]? = some ch := by rw [hl]; rfl
          have e2 : C.data.toList[0]? = some C[0] := by rw [Array.getElem?_toList]; exact Array.getElem?_eq_getElem _
          rw [e2] at this
          exact Option.some.inj this
        have q0 : C.toList.isEmpty = false := by rw [Lib.toList_data, hl]; rfl
        have q1 : (C.toList == []) = false := by rw [Lib.toList_data, hl]; rfl
        have q2 : (0 : Int) < (C.size : Int) := by omega
        rcases Classical.em (ch.toNat = 35) with h35 | h35
        · have c35 : ((ch.toNat : Int) == 35) = true := by simpa using (by omega : (ch.toNat : Int) = 35)
          have d35 : (ch.toNat : Int) = 35 := by omega
          have hch : ch = 35 := UInt8.toNat_inj.1 (by simpa using h35)
          have HFN : Hid (run US (lns D.data.toList) (k + 1) acc = FIN) := by
            have := hln
            rw [run_skip US _ _ _ _ (.inr (by rw [hl, hch]; rfl))] at this
            exact this
          have HS2 : Hid (LoopR US s FIN r w.heap.size w (.string D) (.int .i64 ((k + 1 : Nat) : Int)) w2) :=
            ⟨D, k + 1, acc, .slice A q cc, _, rfl, rfl, rfl, by omega, by omega, by have := HQ.out; omega, by have := HQ.out; omega, HFN.out, by rw [HQ.out]; exact HO.out, HB0.out, HB1.out, HB2.out, HM.out, HB.out, by have := HB2.out.lt; omega⟩
          clear hln hch
          go_wp2
          go_roundw
          case rel => exact HS2.out
          case measure => simp [szOf]; omega
        · have c35 : ((ch.toNat : Int) == 35) = false := by simpa using (by omega : ¬ (ch.toNat : Int) = 35)
          have d35 : ¬ (ch.toNat : Int) = 35 := by omega
          have hno : ¬ (C.data.toList = [] ∨ C.data.toList.head? = some 35) := by
            rw [hl]
            rintro (h | h)
            · cases h
            · cases h; exact h35 rfl
          obtain ⟨⟨⟨t, v⟩, er⟩, hls⟩ : ∃ p, lineS US C.data.toList = p := ⟨_, rfl⟩
          have HLC := Lib.hid (HL.out C (by omega) r w2 HM.out (HP.out.bel HB.out))
          have HLN := Lib.hid (And.intro hln (And.intro hno hls))
          clear hln hno
          go_wp2_with fail
          go_at_call 59
          refine HLC.out.mono ?_
          rintro e w3 ⟨he, hb3⟩
          rw [hls] at he
          have he2 : e = .returned (.tuple #[.agg #[.int .i64 t, .int .i64 v], .int .i64 er]) := he
          clear he
          subst he2
          clear hls HLC
          have HO3 := Lib.hid (own_bel HO.out hb3)
          have HB03 := Lib.hid (HB0.out.bel hb3)
          have HB13 := Lib.hid (HB1.out.bel hb3)
          have HB23 := Lib.hid (HB2.out.bel hb3)
          have HM3 := Lib.hid (HM.out.bel hb3)
          have HBB3 := Lib.hid (HB.out.tr hb3)
          clear HO HB0 HB1 HB2 HM HB c0 c1 c2 f0 f1 f2 lt0 lt1 lt2 hb3
          have HO := HO3
          have HB0 := HB03
          have HB1 := HB13
          have HB2 := HB23
          have HM := HM3
          have HB := HBB3
          clear HO3 HB03 HB13 HB23 HM3 HBB3
          have c0 : w3.cell? ⟨w.heap.size, 0, none⟩ = some (.slice A q cc) := by rw [HB0.out.cell]; rfl
          have c1 : w3.cell? ⟨w.heap.size + 1, 0, none⟩ = some (.int .i64 0) := by rw [HB1.out.cell]; rfl
          have c2 : w3.cell? ⟨w.heap.size + 1 + 1, 0, none⟩ = some (.int .i64 0) := by rw [show w.heap.size + 1 + 1 = w.heap.size + 2 from rfl, HB2.out.cell]; rfl
          have f0 := HB0.out.fr 0
          have f1 := HB1.out.fr 0
          have f2 : w3.frozen? ⟨w.heap.size + 1 + 1, 0, none⟩ = false := HB2.out.fr 0
          have lt0 := HB0.out.lt
          have lt1 := HB1.out.lt
          have lt2 : w.heap.size + 1 + 1 < w3.heap.size := HB2.out.lt
          rcases Classical.em (er = 0) with her | her
          · subst her
            rcases Classical.em (q = 2000) with h2 | h2
            · subst h2
              have HFIN : Hid (FIN = ([], k, 4)) := by
                have := HLN.out
                rw [run_full US _ _ _ _ this.2.1 (by rw [this.2.2]) HQ.out] at this
                exact this.1.symm
              go_wp2
              refine leaves_cons (f := 56) (args := #[.pointer (some ⟨w.heap.size, 0, none⟩), .pointer (some ⟨w.heap.size + 1, 0, none⟩), .pointer (some ⟨w.heap.size + 1 + 1, 0, none⟩)]) (by simp) (by simp [go_sem]) ?_
              refine (catch_thrown (n := (k : Int)) (er := 4) (HB0.out.al _) (HB1.out.al _) (HB2.out.al _)).mono ?_
              rintro e u' w'' ⟨rfl, rfl, k0, k1, k2, kb⟩
              exact ⟨_, results_par _ _ w.heap.size _ (k : Int) 4 rfl rfl rfl k0 k1 k2, [], k, 4, .slice none 0 0, HF.out.trans HFIN.out, rfl, World.ownsRow_nil _ _ _ _, Below.trans (HB.out.al _) kb⟩
            · have kq : ((q : Int) == 2000) = false := by simp; omega
              have kq2 : ¬ (q : Int) = 2000 := by omega
              have HFN : Hid (run US (lns D.data.toList) (k + 1) (acc ++ [(t, v)]) = FIN) := by
                have := HLN.out
                rw [run_good US _ _ _ _ this.2.1 (by rw [this.2.2]) (by rw [HQ.out]; exact h2), this.2.2] at this
                exact this.1
              have WA := Lib.hid (own_bel HO.out ((Bel.rf.al (.cells #[.int .i64 t, .int .i64 v] 100)).al (.cells #[.int .i64 t, .int .i64 v] 100)))
              have d0 : ∀ o, (w3.alloc o).cell? ⟨w.heap.size, 0, none⟩ = some (.slice A q cc) := fun o => kp_al c0 o
              clear HLN
              go_wp2_with (at_builtin; refine list_appr _ rfl (.tmp 58) (.tmp 60) rfl (w.heap.size + 3) (.slice A q cc) q acc rfl WA.out (w3.heap.size + 1) 1 (t, v) rfl (Bk.nq _ _ _ (by simp)) (by omega) (by simp; omega) ?_; intro v9 w9 h9 hg9 hat9; obtain ⟨A9, c9, rfl, hz9⟩ := own_zr h9 (by rw [List.length_append, HQ.out, List.length_singleton]); have B9 := grown_bk hg9 WA.out ((HB0.out.al _).al _) (by omega); have e9 : w9.cell? ⟨w.heap.size, 0, none⟩ = some (.slice A q cc) := (by rw [B9.cell]; rfl); have f9 := B9.fr 0; have l9 := B9.lt)
              have HS2 : Hid (LoopR US s FIN r w.heap.size w (.string D) (.int .i64 ((k + 1 : Nat) : Int)) (w9.setCell ⟨w.heap.size, 0, none⟩ (.slice A9 (q + 1) c9))) :=
                ⟨D, k + 1, acc ++ [(t, v)], .slice A9 (q + 1) c9, _, rfl, rfl, rfl, by omega, by omega, by rw [List.length_append, HQ.out, List.length_singleton]; omega, by rw [List.length_append, HQ.out, List.length_singleton]; omega, HFN.out, by rw [List.length_append, HQ.out, List.length_singleton]; exact own_st h9 (by show w.heap.size < w.heap.size + 3; omega) _, B9.st 0 _, (grown_bk hg9 WA.out ((HB1.out.al _).al _) (by omega)).far (by show w.heap.size + 1 ≠ w.heap.size; omega) _, (grown_bk hg9 WA.out ((HB2.out.al _).al _) (by omega)).far (by show w.heap.size + 2 ≠ w.heap.size; omega) _, (Below.heap_setCell w9 ⟨w.heap.size, 0, none⟩ _ r (by show r ≠ w.heap.size; have := HRS.out; omega)).trans (grown_mp hg9 WA.out ((HM.out.bel (Bel.rf.al _)).bel (Bel.rf.al _))), (grown_bel ((HB.out.al _).al _) hg9 WA.out (by omega)).st (by show _ ≤ w.heap.size; omega) _, by
                  have := hg9.size
                  simp at this ⊢
                  omega⟩
              go_wp2
              go_roundw
              case rel => exact HS2.out
              case measure => simp [szOf]; omega
          · have k1 : (er == 0) = false := by simpa using her
            have k2 : (er != 0) = true := by simpa using her
            have HFIN : Hid (FIN = ([], k, er)) := by
              have := HLN.out
              rw [run_bad US _ _ _ _ this.2.1 (by rw [this.2.2]; exact her), this.2.2] at this
              exact this.1.symm
            go_wp2
            refine leaves_cons (f := 56) (args := #[.pointer (some ⟨w.heap.size, 0, none⟩), .pointer (some ⟨w.heap.size + 1, 0, none⟩), .pointer (some ⟨w.heap.size + 1 + 1, 0, none⟩)]) (by simp) (by simp [go_sem]) ?_
            refine (catch_thrown (n := (k : Int)) (er := er) (HB0.out.al _) (HB1.out.al _) (HB2.out.al _)).mono ?_
            rintro e u' w'' ⟨rfl, rfl, k0, k1, k2, kb⟩
            exact ⟨_, results_par _ _ w.heap.size _ (k : Int) er rfl rfl rfl k0 k1 k2, [], k, er, .slice none 0 0, HF.out.trans HFIN.out, rfl, World.ownsRow_nil _ _ _ _, Below.trans (HB.out.al _) kb⟩
end Go.Proofs.YtpbnabibnkohdaaGreatDoor.Rt
namespace Go.Proofs.YtpbnabibnkohdaaGreatDoor.Cd
open Go.ChangeShapes Go.WideShapes Go.RowKit Wo Bm By
set_option linter.unusedVariables false
theorem fits_yes (n : Nat) (k : Nat) (hn : n < 2 ^ k) (hk : k ≤ 32) (w : World) : Calls Tryz.prog 213 #[.int .i64 (n : Int), .int .i64 (k : Int)] w fun e w' => e = .returned (.bool true) ∧ w = w' := by
  have hz : (n : Int) / 2 ^ k = 0 := by
    rw [show (2 : Int) ^ k = ((2 ^ k : Nat) : Int) by simp]
    have : n / 2 ^ k = 0 := Nat.div_eq_of_lt hn
    rw [← Int.natCast_ediv, this]; rfl
  have ki : (k : Int) ≤ 32 := by omega
  have k0 : (0 : Int) ≤ (k : Int) := by omega
  have n0 : (0 : Int) ≤ (n : Int) := by omega
  go_enter Tryz.func213, Tryz.ntmps213
  go_wp2
  go_ret
  exact ⟨rfl, rfl⟩
/-- the slice at A of length n reads as the numbers L -/
def Ri (w : World) (A : Option Addr) (n : Nat) (L : List Nat) : Prop := L.length = n ∧ (0 < n → ∃ ad : Addr, A = some ad ∧ ad.block < w.heap.size ∧ ∀ j, j < n → w.cell? (ad.add j) = some (.int .i64 (L.getD j 0 : Nat)))
def wd (L : List Nat) : Nat := L.foldl (fun m n => max m (Lib.bitLen n)) 0
theorem wd_snoc (L : List Nat) (n : Nat) : wd (L ++ [n]) = max (wd L) (Lib.bitLen n) := by simp [wd, List.foldl_append]
theorem bl_le (n : Nat) (h : n < 4294967296) : Lib.bitLen n ≤ 32 := by
  have hb := Lib.bitLenAux_bounds 64 n (by omega)
  rcases Nat.eq_zero_or_pos n with h0 | h0
  · subst h0; decide
  · obtain ⟨c1, c2, c3⟩ := hb (by omega)
    have e : Lib.bitLen n = Lib.bitLenAux 64 n := rfl
    rw [e]
    rcases Nat.lt_or_ge 32 (Lib.bitLenAux 64 n) with h1 | h1
    · have := Nat.pow_le_pow_right (n := 2) (by omega) (show 32 ≤ Lib.bitLenAux 64 n - 1 by omega)
      omega
    · exact h1
theorem wd_le (L : List Nat) (h : ∀ n ∈ L, n < 4294967296) : wd L ≤ 32 := by
  have : ∀ (L : List Nat) (m : Nat), m ≤ 32 → (∀ n ∈ L, n < 4294967296) → L.foldl (fun m n => max m (Lib.bitLen n)) m ≤ 32 := by
    intro L
    induction L with
    | nil => intro m hm _; exact hm
    | cons n L ih => intro m hm h; exact ih _ (Nat.max_le.2 ⟨hm, bl_le n (h n (by simp))⟩) (fun x hx => h x (by simp [hx]))
  exact this L 0 (by omega) h
set_option maxHeartbeats 8000000 in
set_option maxRecDepth 100000 in
theorem width_any (A : Option Addr) (c : Nat) (L : List Nat) (hL : L.length ≤ 1000000) (hl : ∀ n ∈ L, n < 4294967296) (w : World) (hr : Ri w A L.length L) :
    Calls Tryz.prog 210 #[.slice A L.length c] w fun e w' => e = .returned (.int .i64 (wd L : Int)) ∧ w = w' := by
  have HR := Lib.hid hr
  have HL := Lib.hid hl
  have li : (L.length : Int) ≤ 1000000 := by omega
  clear hr hl
  go_enter Tryz.func210, Tryz.ntmps210
  go_wp2
  go_loop [3, 8] (fun s3 s8 => ∃ k : Nat, k ≤ L.length ∧ s8 = .int .i64 (k : Int) ∧ s3 = .int .i64 (wd (L.take k) : Int)) (fun _ s8 => L.length - (intOf s8).toNat)
  case atStart => exact ⟨0, by omega, rfl, rfl⟩
  case round =>
    obtain ⟨k, hk, rfl, rfl⟩ := hrel
    have hw := wd_le (L.take k) (fun x hx => HL.out x (List.mem_of_mem_take hx))
    rcases Nat.lt_or_ge k L.length with hlt | hge
    · obtain ⟨ad, rfl, hab, hac⟩ := HR.out.2 (by omega)
      have hcell := hac k hlt
      have hsn : wd (L.take (k + 1)) = max (wd (L.take k)) (Lib.bitLen (L.getD k 0)) := by
        rw [← wd_snoc]
        congr 1
        rw [List.take_succ_eq_append_getElem hlt, List.getD_eq_getElem?_getD, List.getElem?_eq_getElem hlt]; rfl
      have hnl : L.getD k 0 < 4294967296 := HL.out _ (by rw [List.getD_eq_getElem?_getD, List.getElem?_eq_getElem hlt]; exact List.getElem_mem hlt)
      have hbl := bl_le _ hnl
      obtain ⟨n, hn⟩ : ∃ n, L.getD k 0 = n := ⟨_, rfl⟩
      rw [hn] at hcell hsn hnl hbl
      have HF : Hid (∀ w, Calls Tryz.prog 213 #[.int .i64 (n : Int), .int .i64 32] w fun e w' => e = .returned (.bool true) ∧ w = w') := fun w => fits_yes n 32 hnl (by omega) w
      obtain ⟨b, hb⟩ : ∃ b, Lib.bitLen n = b := ⟨_, rfl⟩
      have HLN : Hid (∀ w, Calls Tryz.prog 214 #[.int .u64 (n : Int)] w fun e w' => e = .returned (.int .i64 (b : Int)) ∧ w = w') := fun w => by
        refine (Tryz.bits_Len n w (by omega) (by omega)).mono fun e w' ⟨he, hw⟩ => ⟨?_, hw.symm⟩
        rw [he, Int.toNat_natCast, hb]
      rw [hb] at hsn hbl
      obtain ⟨m, hm⟩ : ∃ m, wd (L.take k) = m := ⟨_, rfl⟩
      rw [hm] at hsn hw ⊢
      have HN := Lib.hid hn
      have HM := Lib.hid hm
      have HB := Lib.hid hb
      have ni : (n : Int) < 4294967296 := by omega
      have ki : (k : Int) < (L.length : Int) := by omega
      rcases Nat.lt_trichotomy m b with h | h | h
      · have HS : Hid (wd (L.take (k + 1)) = b) := by show _ = _; rw [hsn]; omega
        clear hsn hn hm hb hac
        go_wp2_with (first | (go_at_call 213; refine (HF.out _).mono ?_; rintro e w' ⟨rfl, rfl⟩) | (go_at_call 214; refine (HLN.out _).mono ?_; rintro e w' ⟨rfl, rfl⟩))
        go_round
        case rel => exact ⟨k + 1, by omega, by go_num, by rw [HS.out]; first | done | (congr 1; omega)⟩
        case measure => simp [intOf]; omega
      · have HS : Hid (wd (L.take (k + 1)) = b) := by show _ = _; rw [hsn]; omega
        subst h
        clear hsn hn hb hac
        go_wp2_with (first | (go_at_call 213; refine (HF.out _).mono ?_; rintro e w' ⟨rfl, rfl⟩) | (go_at_call 214; refine (HLN.out _).mono ?_; rintro e w' ⟨rfl, rfl⟩))
        go_round
        case rel => exact ⟨k + 1, by omega, by go_num, by rw [HS.out]; first | done | (congr 1; omega)⟩
        case measure => simp [intOf]; omega
      · have HS : Hid (wd (L.take (k + 1)) = m) := by show _ = _; rw [hsn]; omega
        clear hsn hn hm hb hac
        go_wp2_with (first | (go_at_call 213; refine (HF.out _).mono ?_; rintro e w' ⟨rfl, rfl⟩) | (go_at_call 214; refine (HLN.out _).mono ?_; rintro e w' ⟨rfl, rfl⟩))
        go_round
        case rel => exact ⟨k + 1, by omega, by go_num, by rw [HS.out]; first | done | (congr 1; omega)⟩
        case measure => simp [intOf]; omega
    · obtain rfl : k = L.length := by omega
      have hall : L.take L.length = L := List.take_of_length_le (Nat.le_refl _)
      rw [hall] at hw ⊢
      obtain ⟨m, hm⟩ : ∃ m, wd L = m := ⟨_, rfl⟩
      rw [hm] at hw ⊢
      have HM := Lib.hid hm
      clear hall hm
      go_wp2
      go_ret
      exact ⟨by rw [← HM.out]; rfl, rfl⟩
end Go.Proofs.YtpbnabibnkohdaaGreatDoor.Cd
