/- Merged: UnitAwake RtC RtD RtP RtQ RtR RtI RtX RtY CodecWidth CodecPack CodecUnpack PackBack SgMath. -/
import Derived.Test.YtpbnabibnkohdaaGreatDoorShelf
import Derived.Test.YtpbnabibnkohdaaGreatDoorGc1
import Derived.Test.YtpbnabibnkohdaaGreatDoorGc2
import Derived.Test.YtpbnabibnkohdaaGreatDoorGc3
import Derived.Test.YtpbnabibnkohdaaGreatDoorGc4
import Derived.Test.YtpbnabibnkohdaaGreatDoorGc5
import Derived.MakeChecks
import Derived.Lib.LaidTab
import Derived.Shelf.Strings.SplitCore
import Derived.Shelf.Strings.SlTrimAscii
import Derived.WalkKit
import Derived.WalkLawsBesides
import Derived.WalkSpells
import Derived.Outline
import Derived.Lib.Hide
import Derived.IntWalk
import Derived.WalkMore
import Derived.Deep.QuietTactic
import Derived.BigQuiet
import Derived.Laws.ResultCell
import Derived.Deep.DeepCutAuto
import Derived.Deep.RegionHeld3
import Derived.Lib.IndexLaws
import Derived.Lib.IndexBytes
import Derived.MapKept
import Derived.Carry
import Derived.Tactics2
import Derived.Defers
import Derived.Recover
import Derived.Laws.Pointers
import Derived.RegionTactic
import Derived.Lib.ItoaNum
import Derived.Deep.AppendLies
import Derived.Lib.Slices
namespace Go.Proofs.YtpbnabibnkohdaaGreatDoor.Un
open Go.ChangeShapes Go.WideShapes Go.RowKit Wo
set_option linter.unusedVariables false
/-- the table of the powers of ten, as it is laid -/
def Pows (w : World) : Prop := ∀ i : Nat, i ≤ 6 → w.cell? ⟨0, i, none⟩ = some (.int .i64 (10 ^ i))
theorem pows_of {W : World} (h : laidMetH Tryz.prog [("shapesearch/unit.powers", Rows.laid_shapesearch_unit_powers)] W) : Pows W := by
  rw [MakeChecks.laidMetH_plain _ _ _ (by kernel_rfl)] at h
  have t : Lib.TabIs Tryz.prog W "shapesearch/unit.powers" .i64 [1, 10, 100, 1000, 10000, 100000, 1000000] :=
    Lib.tabIs_of_head (g := 0) (t := 173) (e := 3) (n := 7) (by kernel_rfl) (by kernel_rfl) Tryz.underlying173 Tryz.underlying3 (by kernel_rfl) (by kernel_rfl) h
  intro i hi
  have := t.cell (g := 0) (by kernel_rfl) i (by simp; omega)
  rw [this]
  match i, hi with
  | 0, _ => rfl
  | 1, _ => rfl
  | 2, _ => rfl
  | 3, _ => rfl
  | 4, _ => rfl
  | 5, _ => rfl
  | 6, _ => rfl
theorem Pows.bel {w w' : World} (h : Pows w) (hb : Bel w w') : Pows w' := fun i hi => hb.kp (h i hi)
theorem parse_any (s : ByteArray) (body : ByteArray) (m : Bool) (hs : body.size ≤ 4611686018427387904) (h1 : (⟨(Lib.trimPrefix s.data.toList [45]).toArray⟩ : ByteArray) = body) (h2 : Lib.hasPrefix s.data.toList [45] = m) (w : World) :
    Calls Tryz.prog 84 #[.string s] w fun e w' => e = .returned (prs (rn body.data.toList) m) ∧ Bel w w' :=
  parse_core s body m hs w fun w => (Tryz.strings_CutPrefix s ⟨#[45]⟩ w).mono fun e w' ⟨he, hw⟩ => ⟨by rw [he, ← h1, ← h2], hw.symm⟩
theorem parse_ex (w : World) : Calls Tryz.prog 84 #[.string ⟨#[45, 49, 50, 46, 53, 48]⟩] w fun e w' => e = .returned (.tuple #[.agg #[.int .i64 (-1250), .int .i64 2], .int .i64 0]) ∧ Bel w w' :=
  (parse_any ⟨#[45, 49, 50, 46, 53, 48]⟩ ⟨#[49, 50, 46, 53, 48]⟩ true (by decide) (by rfl) (by rfl) w).mono fun e w' ⟨he, hw⟩ => ⟨by rw [he]; rfl, hw⟩
theorem low_lit {a : Array UInt8} (h1 : 1 ≤ a.size) (h2 : a.size ≤ 12) (h3 : ∀ c ∈ a.toList, 97 ≤ c.toNat ∧ c.toNat ≤ 122) : Low ⟨a⟩ :=
  ⟨h1, h2, fun i h => h3 _ (by show a[i] ∈ a.toList; simp)⟩
theorem low_raw : Low ⟨#[114, 97, 119]⟩ := low_lit (by decide) (by decide) (by decide)
theorem low_f : Low ⟨#[102]⟩ := low_lit (by decide) (by decide) (by decide)
/-- Convert, with the table -/
theorem conv_as (x : Int) (p : Nat) (s : ByteArray) (m a d : Int) (R : Value) (x1 : -1000000000 ≤ x) (x2 : x ≤ 1000000000) (hp : p ≤ 6) (hs : Low s) (m1 : 1 ≤ m) (m2 : m ≤ 1000000) (a1 : -1000000000 ≤ a) (a2 : a ≤ 1000000000) (d1 : 1 ≤ d) (d2 : d ≤ 1000000)
    (hR : cvt (x * m + a * 10 ^ p) (d * 10 ^ p) = R) (w : World) (hw : Pows w) :
    Calls Tryz.prog 86 #[.agg #[.int .i64 x, .int .i64 (p : Int)], .agg #[.string s, .int .i64 m, .int .i64 a, .int .i64 d]] w fun e w' => e = .returned R ∧ Bel w w' := by
  have h1 : (1 : Int) ≤ 10 ^ p ∧ (10 : Int) ^ p ≤ 1000000 := by
    match p, hp with
    | 0, _ => decide
    | 1, _ => decide
    | 2, _ => decide
    | 3, _ => decide
    | 4, _ => decide
    | 5, _ => decide
    | 6, _ => decide
  have := convert_any x p (10 ^ p) s m a d x1 x2 hp h1.1 h1.2 hs m1 m2 a1 a2 d1 d2 w (hw p hp)
  rwa [hR] at this
theorem conv_25 (w : World) (hw : Pows w) : Calls Tryz.prog 86 #[.agg #[.int .i64 (-25), .int .i64 1], .agg #[.string ⟨#[114, 97, 119]⟩, .int .i64 1, .int .i64 0, .int .i64 1]] w fun e w' => e = .returned (.tuple #[.int .i64 (-2), .int .i64 0]) ∧ Bel w w' :=
  conv_as (-25) 1 _ 1 0 1 _ (by decide) (by decide) (by decide) low_raw (by decide) (by decide) (by decide) (by decide) (by decide) (by decide) (by rfl) w hw
theorem conv_366 (w : World) (hw : Pows w) : Calls Tryz.prog 86 #[.agg #[.int .i64 366, .int .i64 1], .agg #[.string ⟨#[102]⟩, .int .i64 9, .int .i64 160, .int .i64 5]] w fun e w' => e = .returned (.tuple #[.int .i64 98, .int .i64 0]) ∧ Bel w w' :=
  conv_as 366 1 _ 9 160 5 _ (by decide) (by decide) (by decide) low_f (by decide) (by decide) (by decide) (by decide) (by decide) (by decide) (by rfl) w hw
end Go.Proofs.YtpbnabibnkohdaaGreatDoor.Un
namespace Go.Proofs.YtpbnabibnkohdaaGreatDoor.Rt
open Go.ChangeShapes Go.WideShapes Go.RowKit Wo Un Rg
open Rm (Rp tm vl)
set_option linter.unusedVariables false
theorem ba_of (x : ByteArray) (l : List UInt8) (h : x.data.toList = l) : x = ⟨l.toArray⟩ := by
  subst h
  exact (Lib.mk_data x).symm
/-- strings.Cut at a line feed -/
def cut10 (l : List UInt8) : List UInt8 × List UInt8 × Bool := if 0 ≤ Lib.indexByte l 10 then (l.take (Lib.indexByte l 10).toNat, l.drop ((Lib.indexByte l 10).toNat + 1), true) else (l, [], false)
set_option maxHeartbeats 2000000 in
theorem scut10 (s : ByteArray) (hs : s.size ≤ 281474976710656) (w : World) : Calls Tryz.prog 81 #[.string s, .string ⟨#[10]⟩] w fun e w' =>
    e = .returned (.tuple #[.string ⟨(cut10 s.data.toList).1.toArray⟩, .string ⟨(cut10 s.data.toList).2.1.toArray⟩, .bool (cut10 s.data.toList).2.2]) ∧ Bel w w' := by
  obtain ⟨v, hv⟩ : ∃ v, Lib.indexByte s.data.toList 10 = v := ⟨_, rfl⟩
  have HI : Hid (∀ W, Calls Tryz.prog 108 #[.string s, .string ⟨#[10]⟩] W fun e w' => e = .returned (.int .i64 v) ∧ w' = W) := fun W => by
    have := Tryz.stringslite_Index_one s 10 W
    rw [hv] at this
    exact this
  have hge := Lib.indexByte_ge s.data.toList 10
  rw [hv] at hge
  rcases Int.lt_or_le v 0 with h0 | h0
  · have e : v = -1 := by omega
    subst e
    have HC : Hid (cut10 s.data.toList = (s.data.toList, [], false)) := by
      unfold cut10; rw [hv]; rfl
    clear hv hge h0
    go_enter Tryz.func81, Tryz.ntmps81
    go_wp2_with fail
    go_at_call 108
    refine (HI.out _).mono ?_
    rintro e w1 ⟨rfl, rfl⟩
    go_wp2
    exact bodyPost_ret (v := .tuple #[.string s, .string ⟨#[]⟩, .bool false]) (by simp [results, Tryz.results81, go_sem]) rfl ⟨by rw [HC.out, Lib.mk_data], Bel.rf⟩
  · obtain ⟨i, rfl⟩ := Int.eq_ofNat_of_zero_le h0
    have hi := (Lib.indexByte_some hv).1
    have hlt : i < s.size := by
      rw [Lib.size_eq]
      exact (List.getElem?_eq_some_iff.1 hi).1
    have b0 : (0 : Int) ≤ (i : Int) := by omega
    have b1 : (i : Int) ≤ (s.size : Int) := by omega
    have b2 : (i : Int) + 1 ≤ (s.size : Int) := by omega
    have b3 : (s.size : Int) ≤ 281474976710656 := by omega
    have b4 : ((i : Int) + 1).toNat = i + 1 := by omega
    have HC : Hid (cut10 s.data.toList = ((s.extract 0 i).data.toList, (s.extract (i + 1) s.size).data.toList, true)) := by
      unfold cut10
      rw [hv, if_pos h0, Int.toNat_natCast, Lib.extract_data, Lib.extract_to_end, List.drop_zero, Nat.sub_zero]; exact Lib.hid rfl
    clear hv hge h0 hi
    go_enter Tryz.func81, Tryz.ntmps81
    go_wp2_with fail
    go_at_call 108
    refine (HI.out _).mono ?_
    rintro e w1 ⟨rfl, rfl⟩
    go_wp2
    go_quiet (fail)
    go_wp2
    exact bodyPost_ret (v := .tuple #[.string (s.extract 0 i), .string (s.extract (i + 1) s.size), .bool true]) (by simp [results, Tryz.results81, go_sem]) rfl ⟨by rw [HC.out, Lib.mk_data, Lib.mk_data], Bel.rf.drwN _⟩
theorem cut10_any (s : ByteArray) (hs : s.size ≤ 281474976710656) (w : World) : Calls Tryz.prog 58 #[.string s, .string ⟨#[10]⟩] w fun e w' =>
    e = .returned (.tuple #[.string ⟨(cut10 s.data.toList).1.toArray⟩, .string ⟨(cut10 s.data.toList).2.1.toArray⟩, .bool (cut10 s.data.toList).2.2]) ∧ Bel w w' := by
  have H := Lib.hid (scut10 s hs)
  generalize cut10 s.data.toList = c at H ⊢
  obtain ⟨c1, c2, c3⟩ := c
  go_enter Tryz.func58, Tryz.ntmps58
  go_wp2_with fail
  go_at_call 81
  refine (H.out _).mono ?_
  rintro e w1 ⟨rfl, hb⟩
  go_wp2
  exact bodyPost_ret (v := .tuple #[.string ⟨c1.toArray⟩, .string ⟨c2.toArray⟩, .bool c3]) (by simp [results, Tryz.results58, go_sem]) rfl ⟨rfl, hb⟩

theorem cut10_is (l : List UInt8) : (cut10 l).1 = (cutN l).1 ∧ (cut10 l).2.1 = (cutN l).2 := by
  unfold cut10 cutN
  split
  · exact ⟨rfl, rfl⟩
  · exact ⟨rfl, rfl⟩
theorem cutN_any (s : ByteArray) (hs : s.size ≤ 281474976710656) : ∃ b : Bool, ∀ w, Calls Tryz.prog 58 #[.string s, .string ⟨#[10]⟩] w fun e w' =>
    e = .returned (.tuple #[.string ⟨(cutN s.data.toList).1.toArray⟩, .string ⟨(cutN s.data.toList).2.toArray⟩, .bool b]) ∧ Bel w w' := by
  refine ⟨(cut10 s.data.toList).2.2, fun w => ?_⟩
  have := cut10_any s hs w
  rw [(cut10_is _).1, (cut10_is _).2] at this
  exact this
/-- strings.Split at a blank -/
def wds (s : ByteArray) : List ByteArray := Lib.splitB ⟨#[32]⟩ 0 (Lib.countB s ⟨#[32]⟩) s
theorem wds_data (s : ByteArray) : (wds s).map (·.data.toList) = Lib.split s.data.toList [32] := Lib.splitB_data _ _ _ _
def Spl (s : ByteArray) (w : World) (e : Ending) (w' : World) : Prop := e = .returned (.slice (some ⟨w.heap.size, 0, none⟩) (wds s).length (wds s).length) ∧ w' = w.alloc (.cells ((wds s).map Value.string).toArray 9)
set_option maxHeartbeats 1000000 in
theorem gsplit (s : ByteArray) (hs : s.size < 4294967281) (w : World) : Calls Tryz.prog 109 #[.string s, .string ⟨#[32]⟩, .int .i64 0, .int .i64 (-1)] w (Spl s w) := by
  have hlen := Lib.splitB_all ⟨#[32]⟩ (by decide) 0 _ s rfl
  have hle := Lib.countB_le ⟨#[32]⟩ (by decide) s.size s (Nat.le_refl _)
  have c := Any.strings_genSplit_core Tryz.lays221 (by kernel_rfl) s ⟨#[32]⟩ 0 (-1) (Lib.countB s ⟨#[32]⟩ + 1) w hs (by decide) (by decide)
    (fun x c hx => by
      have h := Tryz.strings_Index_one x 32 (w.alloc (.cells c 9))
      refine h.mono ?_
      rintro e w' ⟨he, hw⟩
      refine ⟨?_, hw⟩
      rw [he]
      show Ending.returned (Value.int .i64 (Lib.indexByte x.data.toList 32)) = Ending.returned (Value.int .i64 (Lib.index x.data.toList [32]))
      rw [Lib.index_one])
    (by
      refine (Tryz.strings_Count_one s 32 w).mono ?_
      rintro e w' ⟨he, hw⟩
      refine ⟨?_, hw⟩
      rw [he]
      show _ = Ending.returned (Value.int .i64 ((Lib.count s.data.toList [32] : Nat) : Int))
      rw [Lib.count_one]
      rfl)
    (by decide) (by decide) (by rw [if_pos (by decide)]; omega)
  rw [Nat.add_sub_cancel, hlen] at c
  refine c.mono ?_
  rintro e w' ⟨he, hw⟩
  unfold Spl wds
  refine ⟨?_, ?_⟩
  · rw [he, hlen]
  · have e2 : Lib.cellsOf (Lib.splitB ⟨#[32]⟩ 0 (Lib.countB s ⟨#[32]⟩) s) (Lib.countB s ⟨#[32]⟩ + 1) = ((Lib.splitB ⟨#[32]⟩ 0 (Lib.countB s ⟨#[32]⟩) s).map Value.string).toArray := by rw [← hlen]; exact Lib.cellsOf_full _
    rw [hw, e2]; rfl
theorem split_any (s : ByteArray) (hs : s.size < 4294967281) (w : World) : Calls Tryz.prog 82 #[.string s, .string ⟨#[32]⟩] w (Spl s w) := by
  have H := Lib.hid (gsplit s hs)
  go_enter Tryz.func82, Tryz.ntmps82
  go_wp2_with fail
  go_at_call 109
  refine (H.out _).mono ?_
  rintro e w1 ⟨rfl, rfl⟩
  go_wp2
  go_ret
  exact ⟨rfl, rfl⟩
/-- strings.Trim of digits -/
def digs : ByteArray := ⟨#[48, 49, 50, 51, 52, 53, 54, 55, 56, 57]⟩
theorem trim_any (s : ByteArray) (hs : s.size ≤ 9223372036854775807) (w : World) : Calls Tryz.prog 110 #[.string s, .string ⟨#[48, 49, 50, 51, 52, 53, 54, 55, 56, 57]⟩] w fun e w' =>
    e = .returned (.string ⟨(Lib.trimS s.data.toList [48, 49, 50, 51, 52, 53, 54, 55, 56, 57]).toArray⟩) ∧ Bel w w' :=
  Any.strings_Trim_laid Tryz.lays160 (by kernel_rfl) s ⟨#[48, 49, 50, 51, 52, 53, 54, 55, 56, 57]⟩ w hs (by decide) (ascii_of_all (by decide))
end Go.Proofs.YtpbnabibnkohdaaGreatDoor.Rt
namespace Go.Proofs.YtpbnabibnkohdaaGreatDoor.Rt
open Go.ChangeShapes Go.WideShapes Go.RowKit Wo Un Rg
open Rm (Rp tm vl)
set_option linter.unusedVariables false
def dg : List UInt8 := [48, 49, 50, 51, 52, 53, 54, 55, 56, 57]
set_option maxRecDepth 100000 in
theorem dg_all : ∀ n : Fin 256, dg.contains (UInt8.ofNat n.val) = (decide (48 ≤ (UInt8.ofNat n.val).toNat) && decide ((UInt8.ofNat n.val).toNat ≤ 57)) := by decide
theorem dg_is (c : UInt8) : dg.contains c = (decide (48 ≤ c.toNat) && decide (c.toNat ≤ 57)) := by
  have h := dg_all ⟨c.toNat, UInt8.toNat_lt c⟩
  rwa [show UInt8.ofNat c.toNat = c from UInt8.ofNat_toNat] at h
theorem dw_nil (p : UInt8 → Bool) : ∀ l : List UInt8, l.dropWhile p = [] ↔ l.all p = true
  | [] => by simp
  | c :: l => by
    have ih := dw_nil p l
    rw [List.dropWhile_cons, List.all_cons]
    cases hc : p c
    · simp
    · simpa using ih
theorem trim_nil (l : List UInt8) : Lib.trimS l dg = [] ↔ l.all (fun c => decide (48 ≤ c.toNat) && decide (c.toNat ≤ 57)) = true := by
  have e : (fun c => decide (48 ≤ c.toNat) && decide (c.toNat ≤ 57)) = (fun c : UInt8 => dg.contains c) := by funext c; exact (dg_is c).symm
  rw [e]
  unfold Lib.trimS Lib.trimLeftS Lib.trimRightS
  constructor
  · intro h
    have h1 := (dw_nil _ _).1 h
    rw [List.all_reverse] at h1
    -- what is left begins (from behind) with no digit
    rcases hq : l.reverse.dropWhile (dg.contains ·) with _ | ⟨c, r⟩
    · have := (dw_nil _ _).1 hq
      rwa [List.all_reverse] at this
    · exfalso
      have hc : dg.contains c = false := by
        have := List.head?_dropWhile_not (dg.contains ·) l.reverse
        rw [hq] at this
        simpa using this
      rw [hq, List.all_cons, hc] at h1
      simp at h1
  · intro h
    have h1 : l.reverse.dropWhile (dg.contains ·) = [] := (dw_nil _ _).2 (by rw [List.all_reverse]; exact h)
    rw [h1]; rfl
theorem tr_emp (l : List UInt8) : (Lib.trimS l [48, 49, 50, 51, 52, 53, 54, 55, 56, 57]).isEmpty = l.all (fun c => decide (48 ≤ c.toNat) && decide (c.toNat ≤ 57)) := by
  rw [Bool.eq_iff_iff, List.isEmpty_iff]
  exact trim_nil l
theorem isT_in (l : List UInt8) (h1 : 1 ≤ l.length) (h2 : l.length ≤ 13) : isT l = (!(l.head? == some 48 && l != [48]) && (Lib.trimS l [48, 49, 50, 51, 52, 53, 54, 55, 56, 57]).isEmpty) := by
  unfold isT
  rw [decide_eq_true h1, decide_eq_true h2, tr_emp, Bool.true_and, Bool.true_and]
set_option maxHeartbeats 2000000 in
theorem isTime_any (s : ByteArray) (hs : s.size ≤ 20000) (w : World) : Calls Tryz.prog 83 #[.string s] w fun e w' => e = .returned (.bool (isT s.data.toList)) ∧ Bel w w' := by
  have hle : s.data.toList.length = s.size := (Lib.size_eq s).symm
  have HT := Lib.hid (trim_any s (by omega))
  obtain ⟨r, hr⟩ : ∃ r, isT s.data.toList = r := ⟨_, rfl⟩
  rw [hr]
  have hu := hr
  unfold isT at hu
  rw [hle] at hu
  rcases Nat.lt_or_ge s.size 1 with h0 | h0
  · have hF : r = false := by rw [decide_eq_false (by omega)] at hu; simpa using hu.symm
    subst hF
    have s1 : (s.size : Int) < 1 := by omega
    clear hu hr hle HT
    go_enter Tryz.func83, Tryz.ntmps83
    go_wp2
    go_ret
    exact ⟨rfl, Bel.rf⟩
  · rcases Nat.lt_or_ge 13 s.size with h13 | h13
    · have hF : r = false := by rw [decide_eq_false (by omega : ¬ s.size ≤ 13)] at hu; simpa using hu.symm
      subst hF
      have s1 : ¬ (s.size : Int) < 1 := by omega
      have s2 : (13 : Int) < (s.size : Int) := by omega
      clear hu hr hle HT
      go_enter Tryz.func83, Tryz.ntmps83
      go_wp2
      go_ret
      exact ⟨rfl, Bel.rf⟩
    · have s1 : ¬ (s.size : Int) < 1 := by omega
      have s2 : ¬ (13 : Int) < (s.size : Int) := by omega
      have s3 : (0 : Int) < (s.size : Int) := by omega
      obtain ⟨c, rest, hl⟩ : ∃ c rest, s.data.toList = c :: rest := by
        rcases hq : s.data.toList with _ | ⟨c, rest⟩
        · rw [hq] at hle; simp at hle; omega
        · exact ⟨c, rest, rfl⟩
      have h00 : s[0] = c := by
        have : s.data.toList[0]? = some c := by rw [hl]; rfl
        have e2 : s.data.toList[0]? = some s[0] := by rw [Array.getElem?_toList]; exact Array.getElem?_eq_getElem _
        rw [e2] at this
        exact Option.some.inj this
      have hin := isT_in s.data.toList (by omega) (by omega)
      rw [hr, hl] at hin
      have htl : s.toList = c :: rest := by rw [Lib.toList_data]; exact hl
      rcases Classical.em (c.toNat = 48) with hc | hc
      · have c1 : ((c.toNat : Int) == 48) = true := by simpa using (by omega : (c.toNat : Int) = 48)
        have c2 : (c.toNat : Int) = 48 := by omega
        have c3 : c = 48 := u8_eq hc
        rcases Classical.em (rest = []) with hre | hre
        · have kq : (s.toList == [48]) = true := by rw [htl, c3, hre]; rfl
          have HR : Hid (r = (Lib.trimS (c :: rest) [48, 49, 50, 51, 52, 53, 54, 55, 56, 57]).isEmpty) := by
            unfold Hid
            rw [hin, c3, hre]; rfl
          clear hu hr hin htl c3 hre
          go_enter Tryz.func83, Tryz.ntmps83
          go_wp2_with fail
          go_at_call 110
          refine (HT.out _).mono ?_
          rintro e w1 ⟨rfl, hb⟩
          go_wp2
          exact bodyPost_ret (v := .bool r) (by rw [HR.out]; simp [results, Tryz.results83, go_sem]) rfl ⟨rfl, hb⟩
        · have kq : (s.toList == [48]) = false := by
            rw [htl, c3]
            simpa using hre
          have hF : r = false := by
            have : ((48 :: rest) != ([48] : List UInt8)) = true := by simpa using hre
            rw [hin, c3, this]; rfl
          subst hF
          clear hu hr hin htl c3 HT
          go_enter Tryz.func83, Tryz.ntmps83
          go_wp2
          go_ret
          exact ⟨rfl, Bel.rf⟩
      · have c1 : ((c.toNat : Int) == 48) = false := by simpa using (by omega : ¬ (c.toNat : Int) = 48)
        have c2 : ¬ (c.toNat : Int) = 48 := by omega
        have HR : Hid (r = (Lib.trimS (c :: rest) [48, 49, 50, 51, 52, 53, 54, 55, 56, 57]).isEmpty) := by
          unfold Hid
          have : (some c == some (48 : UInt8)) = false := by
            simp
            intro e; rw [e] at hc; exact hc rfl
          rw [hin, List.head?_cons, this]; rfl
        clear hu hr hin htl
        go_enter Tryz.func83, Tryz.ntmps83
        go_wp2_with fail
        go_at_call 110
        refine (HT.out _).mono ?_
        rintro e w1 ⟨rfl, hb⟩
        go_wp2
        exact bodyPost_ret (v := .bool r) (by rw [HR.out]; simp [results, Tryz.results83, go_sem]) rfl ⟨rfl, hb⟩
end Go.Proofs.YtpbnabibnkohdaaGreatDoor.Rt
namespace Go.Proofs.YtpbnabibnkohdaaGreatDoor.Rt
open Go.ChangeShapes Go.WideShapes Go.RowKit Wo Un Rg Go.MapKept
open Rm (Rp tm vl)
set_option linter.unusedVariables false
/-- a unit as a value -/
def uv (u : Ut) : Value := .agg #[.string ⟨u.nm.toArray⟩, .int .i64 u.mul, .int .i64 u.add, .int .i64 u.div]
def ents : List Ut → Nat → List MapEntry
  | [], _ => []
  | u :: us, k => ⟨.string ⟨u.nm.toArray⟩, uv u, k⟩ :: ents us (k + 1)
/-- the map of the units -/
def Mp (w : World) (r : Nat) (US : List Ut) : Prop := w.heap[r]? = some (.map (ents US 0).toArray US.length)
theorem Mp.lt {w : World} {r : Nat} {US : List Ut} (h : Mp w r US) : r < w.heap.size := by
  rcases Nat.lt_or_ge r w.heap.size with h1 | h1
  · exact h1
  · unfold Mp at h; rw [Array.getElem?_eq_none h1] at h; cases h
theorem Mp.bel {w w' : World} {r : Nat} {US : List Ut} (h : Mp w r US) (hb : Bel w w') : Mp w' r US := (Below.block hb r h.lt).trans h
theorem ba_mk (l : List UInt8) : (⟨l.toArray⟩ : ByteArray).data.toList = l := rfl
theorem ba_beq (a b : List UInt8) : ((⟨a.toArray⟩ : ByteArray) == ⟨b.toArray⟩) = (a == b) := by
  rw [Bool.eq_iff_iff, bytes_beq, beq_iff_eq]
  constructor
  · intro h
    have := congrArg (fun x : ByteArray => x.data.toList) h
    simpa using this
  · intro h; rw [h]
theorem find_ents (n : List UInt8) : ∀ (US : List Ut) (k i : Nat), (look US n = none → Instr.findNow .string (.string ⟨n.toArray⟩) (ents US k) i = some none) ∧
    (∀ u, look US n = some u → ∃ j, Instr.findNow .string (.string ⟨n.toArray⟩) (ents US k) i = some (some (j, uv u)))
  | [], k, i => ⟨fun _ => rfl, fun u h => by cases h⟩
  | u :: us, k, i => by
    have ih := find_ents n us (k + 1) (i + 1)
    have hs : Instr.sameNow .string (.string ⟨n.toArray⟩) (.string ⟨u.nm.toArray⟩) = some (n == u.nm) := by
      show some ((⟨n.toArray⟩ : ByteArray) == ⟨u.nm.toArray⟩) = _
      rw [ba_beq]
    have hc : (u.nm == n) = (n == u.nm) := by rw [Bool.eq_iff_iff, beq_iff_eq, beq_iff_eq]; exact eq_comm
    have hf : Instr.findNow .string (.string ⟨n.toArray⟩) (ents (u :: us) k) i = if (n == u.nm) = true then some (some (i, uv u)) else Instr.findNow .string (.string ⟨n.toArray⟩) (ents us (k + 1)) (i + 1) := by
      show (match Instr.sameNow .string (.string ⟨n.toArray⟩) (.string ⟨u.nm.toArray⟩) with | some true => some (some (i, uv u)) | some false => Instr.findNow .string (.string ⟨n.toArray⟩) (ents us (k + 1)) (i + 1) | none => none) = _
      rw [hs]
      cases (n == u.nm) <;> rfl
    unfold look at ih ⊢
    rw [List.find?_cons, hc, hf]
    cases (n == u.nm)
    · exact ih
    · exact ⟨fun h => (by cases h), fun v h => ⟨i, by cases h; rfl⟩⟩
theorem run_lookS {P : Program} {T K E : TypeId} (ht : P.underlying T = some (.map K E)) (hkk : P.underlying K = some .string) (w : World) (r clock : Nat) (es : Array MapEntry) (s : ByteArray) (i : Nat) (u : Value) (hb : w.heap[r]? = some (.map es clock)) (hn : Instr.findNow .string (.string s) es.toList 0 = some (some (i, u))) :
    (Instr.lookup T (.map (some r)) (.string s) true).run P w = .ok (.tuple #[u, .bool true]) w := by
  unfold Instr.lookup
  simp [Sem.run_bind, run_underlying ht, Result.andThen, Go.MapKept.run_getObj_map hb, run_checkKey hkk (show IsKey .string (.string s) from trivial), run_findKey hkk hn]
theorem run_missS {P : Program} {T K E : TypeId} (ht : P.underlying T = some (.map K E)) (hkk : P.underlying K = some .string) (w : World) (r clock : Nat) (es : Array MapEntry) (s : ByteArray) (z : Value) (hz : (zeroValue E).run P w = .ok z w) (hb : w.heap[r]? = some (.map es clock)) (hn : Instr.findNow .string (.string s) es.toList 0 = some none) :
    (Instr.lookup T (.map (some r)) (.string s) true).run P w = .ok (.tuple #[z, .bool false]) w := by
  unfold Instr.lookup
  simp [Sem.run_bind, run_underlying ht, Result.andThen, Go.MapKept.run_getObj_map hb, run_checkKey hkk (show IsKey .string (.string s) from trivial), run_findKey hkk hn, hz]
theorem zero_unit (w : World) : (zeroValue 65).run Tryz.prog w = .ok (.agg #[.string ⟨#[]⟩, .int .i64 0, .int .i64 0, .int .i64 0]) w := by
  simp [zeroValue, go_sem]
  rfl
theorem look_hit {w : World} {r : Nat} {US : List Ut} (h : Mp w r US) (s : ByteArray) (u : Ut) (hu : look US s.data.toList = some u) : (Instr.lookup 94 (.map (some r)) (.string s) true).run Tryz.prog w = .ok (.tuple #[uv u, .bool true]) w := by
  obtain ⟨j, hj⟩ := (find_ents s.data.toList US 0 0).2 u hu
  rw [Lib.mk_data] at hj
  exact run_lookS Tryz.underlying94 Tryz.underlying9 w r _ _ s j _ h hj
theorem look_miss {w : World} {r : Nat} {US : List Ut} (h : Mp w r US) (s : ByteArray) (hu : look US s.data.toList = none) : (Instr.lookup 94 (.map (some r)) (.string s) true).run Tryz.prog w = .ok (.tuple #[.agg #[.string ⟨#[]⟩, .int .i64 0, .int .i64 0, .int .i64 0], .bool false]) w := by
  have hj := (find_ents s.data.toList US 0 0).1 hu
  rw [Lib.mk_data] at hj
  exact run_missS Tryz.underlying94 Tryz.underlying9 w r _ _ s _ (zero_unit w) h hj
/-- a valid unit -/
def GoodU (u : Ut) : Prop := Low ⟨u.nm.toArray⟩ ∧ 1 ≤ u.mul ∧ u.mul ≤ 1000000 ∧ -1000000000 ≤ u.add ∧ u.add ≤ 1000000000 ∧ 1 ≤ u.div ∧ u.div ≤ 1000000
end Go.Proofs.YtpbnabibnkohdaaGreatDoor.Rt
namespace Go.Proofs.YtpbnabibnkohdaaGreatDoor.Rt
open Go.ChangeShapes Go.WideShapes Go.RowKit Wo Un Rg Go.MapKept
open Rm (Rp tm vl)
set_option linter.unusedVariables false
def LineR (US : List Ut) (s : ByteArray) (w : World) (e : Ending) (w' : World) : Prop := e = .returned (.tuple #[.agg #[.int .i64 (lineS US s.data.toList).1.1, .int .i64 (lineS US s.data.toList).1.2], .int .i64 (lineS US s.data.toList).2]) ∧ Bel w w'
theorem lineR_of {US : List Ut} {s : ByteArray} {w : World} {t v er : Int} (h : lineS US s.data.toList = ((t, v), er)) {e : Ending} {w' : World} (he : e = .returned (.tuple #[.agg #[.int .i64 t, .int .i64 v], .int .i64 er])) (hb : Bel w w') : LineR US s w e w' := by
  unfold LineR; rw [h]; exact ⟨he, hb⟩
theorem line_ne3 (US : List Ut) (c : List UInt8) (h : (Lib.split c [32]).length ≠ 3) : lineS US c = ((0, 0), 3) := by
  unfold lineS
  split
  · rename_i a b n hq
    rw [hq] at h; exact absurd rfl h
  · rfl
set_option maxHeartbeats 2000000 in
theorem line_short (s : ByteArray) (hs : s.size ≤ 20000) (US : List Ut) (h3 : (wds s).length ≠ 3) (r : Nat) (w : World) :
    Calls Tryz.prog 59 #[.string s, .map (some r)] w (LineR US s w) := by
  have HS := Lib.hid (split_any s (by omega))
  have HR := Lib.hid (line_ne3 US s.data.toList (by rw [← wds_data, List.length_map]; exact h3))
  have kn : (((wds s).length : Int) != 3) = true := by simp; omega
  have kn2 : ¬ ((wds s).length : Int) = 3 := by omega
  go_enter Tryz.func59, Tryz.ntmps59
  go_wp2_with fail
  go_at_call 82
  refine (HS.out _).mono ?_
  rintro e w1 ⟨rfl, rfl⟩
  go_wp2
  exact bodyPost_ret (v := .tuple #[.agg #[.int .i64 0, .int .i64 0], .int .i64 3]) (by simp [results, Tryz.results59, go_sem]) rfl (lineR_of HR.out rfl (by repeat (first | exact Bel.rf | exact hb | (with_reducible refine Bel.drwN ?_ _) | (with_reducible refine Bel.drw ?_) | (with_reducible refine Bel.al ?_ _) | ((with_reducible refine Bel.st2 ?_ ?_ _); (show _ ≤ _); (simp only []; omega)) | refine Bel.tr ?_ (by assumption))))
-- GEN
theorem results_ctR {fn : Func} {p u : Tmp} (h : fn.results = #[.cell p 100, .tmp u]) (tmps : Array Value) (w : World) (g : Nat) (a b : Value)
    (hp : tmps.getD p undef = .pointer (some ⟨g, 0, none⟩)) (hg : Bk w g 100 #[a, b]) :
    (results fn tmps).run Tryz.prog w = .ok (.tuple #[.agg #[a, b], tmps.getD u undef]) w := by
  have hp' : tmps[p]?.getD undef = .pointer (some ⟨g, 0, none⟩) := by simpa using hp
  have hl := run_loadVar_row (P := Tryz.prog) w g 100 100 #[a, b] (0, 0) _ hg Tryz.underlying100 rfl (by kernel_rfl)
  simp [results, h, hp', asAddr, hl]
set_option maxHeartbeats 4000000 in
set_option maxRecDepth 100000 in
theorem line_en (s a b n : ByteArray) (hs : s.size ≤ 20000) (US : List Ut) (hW : wds s = [a, b, n]) (ha : a.size ≤ 20000) (hn : n.data.toList = []) (r : Nat) (w : World) (hr : lineS US s.data.toList = ((0, 0), 3)) :
    Calls Tryz.prog 59 #[.string s, .map (some r)] w (LineR US s w) := by
  have HS : Hid (∀ w, Calls Tryz.prog 82 #[.string s, .string ⟨#[32]⟩] w fun e w' => e = .returned (.slice (some ⟨w.heap.size, 0, none⟩) 3 3) ∧ w' = w.alloc (.cells #[.string a, .string b, .string n] 9)) := fun w => by
    have := split_any s (by omega) w
    unfold Spl at this
    rw [hW] at this
    exact this
  have HR := Lib.hid hr
  clear hr hW
  have e0 : n.toList = [] := by rw [Lib.toList_data]; exact hn
  have e1 : n.toList.isEmpty = true := by rw [e0]; rfl
  go_enter Tryz.func59, Tryz.ntmps59
  go_wp2_with fail
  go_at_call 82
  refine (HS.out _).mono ?_
  rintro e w1 ⟨rfl, rfl⟩
  go_wp2
  exact bodyPost_ret (v := .tuple #[.agg #[.int .i64 0, .int .i64 0], .int .i64 3]) (by simp [results, Tryz.results59, go_sem]) rfl (lineR_of HR.out rfl (by repeat (first | exact Bel.rf | exact hb | (with_reducible refine Bel.drwN ?_ _) | (with_reducible refine Bel.drw ?_) | (with_reducible refine Bel.al ?_ _) | ((with_reducible refine Bel.st2 ?_ ?_ _); (show _ ≤ _); (simp only []; omega)) | refine Bel.tr ?_ (by assumption))))
set_option maxHeartbeats 4000000 in
set_option maxRecDepth 100000 in
theorem line_nt (s a b n : ByteArray) (hs : s.size ≤ 20000) (US : List Ut) (hW : wds s = [a, b, n]) (ha : a.size ≤ 20000) (hn : n.data.toList ≠ []) (hT : isT a.data.toList = false) (r : Nat) (w : World) (hr : lineS US s.data.toList = ((0, 0), 3)) :
    Calls Tryz.prog 59 #[.string s, .map (some r)] w (LineR US s w) := by
  have HS : Hid (∀ w, Calls Tryz.prog 82 #[.string s, .string ⟨#[32]⟩] w fun e w' => e = .returned (.slice (some ⟨w.heap.size, 0, none⟩) 3 3) ∧ w' = w.alloc (.cells #[.string a, .string b, .string n] 9)) := fun w => by
    have := split_any s (by omega) w
    unfold Spl at this
    rw [hW] at this
    exact this
  have HR := Lib.hid hr
  clear hr hW
  have e0 : n.toList.isEmpty = false := by rw [Lib.toList_data]; cases hq : n.data.toList with | nil => exact absurd hq hn | cons c l => rfl
  have e1 : (n.toList == []) = false := by rw [Lib.toList_data]; cases hq : n.data.toList with | nil => exact absurd hq hn | cons c l => rfl
  have HI : Hid (∀ w, Calls Tryz.prog 83 #[.string a] w fun e w' => e = .returned (.bool false) ∧ Bel w w') := fun w => by have := isTime_any a ha w; rw [hT] at this; exact this
  go_enter Tryz.func59, Tryz.ntmps59
  go_wp2_with fail
  go_at_call 82
  refine (HS.out _).mono ?_
  rintro e w1 ⟨rfl, rfl⟩
  go_wp2_with fail
  go_at_call 83
  refine (HI.out _).mono ?_
  rintro e w2 ⟨rfl, hb⟩
  have kB : Bk w2 (w.heap.size + 1) 9 #[.string a, .string b, .string n] := Bk.bel (Bk.nq (w.alloc (.cells #[.int .i64 0, .int .i64 0] 100)) _ _ (by simp)) hb
  have kR : Bk w2 w.heap.size 100 #[.int .i64 0, .int .i64 0] := Bk.bel ((Bk.nw w 100 #[.int .i64 0, .int .i64 0]).al _) hb
  have hb2 : Bel w w2 := ((Bel.rf.al _).al _).tr hb
  have c0 : w2.cell? ⟨w.heap.size + 1, 0, none⟩ = some (.string a) := by rw [kB.cell]; rfl
  have c1 : w2.cell? ⟨w.heap.size + 1, 1, none⟩ = some (.string b) := by rw [kB.cell]; rfl
  have c2 : w2.cell? ⟨w.heap.size + 1, 2, none⟩ = some (.string n) := by rw [kB.cell]; rfl
  have r0 : w2.cell? ⟨w.heap.size, 0, none⟩ = some (.int .i64 0) := by rw [kR.cell]; rfl
  have r1 : w2.cell? ⟨w.heap.size, 1, none⟩ = some (.int .i64 0) := by rw [kR.cell]; rfl
  have f0 := kR.fr 0
  have f1 := kR.fr 1
  have lt1 := kR.lt
  have lt2 := kB.lt
  have g0 : ∀ o, (w2.alloc o).frozen? ⟨w.heap.size, 0, none⟩ = false := fun o => (kR.al o).fr 0
  have g1 : ∀ o, (w2.alloc o).frozen? ⟨w.heap.size, 1, none⟩ = false := fun o => (kR.al o).fr 1
  have HK := Lib.hid kR
  have HB2 := Lib.hid (And.intro kB hb2)
  go_wp2
  exact bodyPost_ret (v := .tuple #[.agg #[.int .i64 0, .int .i64 0], .int .i64 3]) (results_ctR Tryz.results59 _ _ w.heap.size (.int .i64 0) (.int .i64 0) rfl ((HK.out.st 0 _).st 1 _)) rfl (lineR_of HR.out rfl (by repeat (first | exact Bel.rf | exact hb | (with_reducible refine Bel.drwN ?_ _) | (with_reducible refine Bel.drw ?_) | (with_reducible refine Bel.al ?_ _) | ((with_reducible refine Bel.st2 ?_ ?_ _); (show _ ≤ _); (simp only []; omega)) | refine Bel.tr ?_ (by assumption))))
set_option maxHeartbeats 4000000 in
set_option maxRecDepth 100000 in
theorem line_pf (s a b n : ByteArray) (hs : s.size ≤ 20000) (US : List Ut) (hW : wds s = [a, b, n]) (ha : a.size ≤ 20000) (hn : n.data.toList ≠ []) (hT : isT a.data.toList = true) (hbs : (⟨(Lib.trimPrefix b.data.toList [45]).toArray⟩ : ByteArray).size ≤ 4611686018427387904) (X P er : Int) (hp : prs (rn (Lib.trimPrefix b.data.toList [45])) (Lib.hasPrefix b.data.toList [45]) = .tuple #[.agg #[.int .i64 X, .int .i64 P], .int .i64 er]) (her : er = 3) (r : Nat) (w : World) (hr : lineS US s.data.toList = ((0, 0), 3)) :
    Calls Tryz.prog 59 #[.string s, .map (some r)] w (LineR US s w) := by
  have HS : Hid (∀ w, Calls Tryz.prog 82 #[.string s, .string ⟨#[32]⟩] w fun e w' => e = .returned (.slice (some ⟨w.heap.size, 0, none⟩) 3 3) ∧ w' = w.alloc (.cells #[.string a, .string b, .string n] 9)) := fun w => by
    have := split_any s (by omega) w
    unfold Spl at this
    rw [hW] at this
    exact this
  have HR := Lib.hid hr
  clear hr hW
  have e0 : n.toList.isEmpty = false := by rw [Lib.toList_data]; cases hq : n.data.toList with | nil => exact absurd hq hn | cons c l => rfl
  have e1 : (n.toList == []) = false := by rw [Lib.toList_data]; cases hq : n.data.toList with | nil => exact absurd hq hn | cons c l => rfl
  have HI : Hid (∀ w, Calls Tryz.prog 83 #[.string a] w fun e w' => e = .returned (.bool true) ∧ Bel w w') := fun w => by have := isTime_any a ha w; rw [hT] at this; exact this
  have HP : Hid (∀ w, Calls Tryz.prog 84 #[.string b] w fun e w' => e = .returned (.tuple #[.agg #[.int .i64 X, .int .i64 P], .int .i64 er]) ∧ Bel w w') := fun w => by rw [← hp]; exact parse_any b ⟨(Lib.trimPrefix b.data.toList [45]).toArray⟩ (Lib.hasPrefix b.data.toList [45]) hbs rfl rfl w
  subst her
  go_enter Tryz.func59, Tryz.ntmps59
  go_wp2_with fail
  go_at_call 82
  refine (HS.out _).mono ?_
  rintro e w1 ⟨rfl, rfl⟩
  go_wp2_with fail
  go_at_call 83
  refine (HI.out _).mono ?_
  rintro e w2 ⟨rfl, hb⟩
  have kB : Bk w2 (w.heap.size + 1) 9 #[.string a, .string b, .string n] := Bk.bel (Bk.nq (w.alloc (.cells #[.int .i64 0, .int .i64 0] 100)) _ _ (by simp)) hb
  have kR : Bk w2 w.heap.size 100 #[.int .i64 0, .int .i64 0] := Bk.bel ((Bk.nw w 100 #[.int .i64 0, .int .i64 0]).al _) hb
  have hb2 : Bel w w2 := ((Bel.rf.al _).al _).tr hb
  have c0 : w2.cell? ⟨w.heap.size + 1, 0, none⟩ = some (.string a) := by rw [kB.cell]; rfl
  have c1 : w2.cell? ⟨w.heap.size + 1, 1, none⟩ = some (.string b) := by rw [kB.cell]; rfl
  have c2 : w2.cell? ⟨w.heap.size + 1, 2, none⟩ = some (.string n) := by rw [kB.cell]; rfl
  have r0 : w2.cell? ⟨w.heap.size, 0, none⟩ = some (.int .i64 0) := by rw [kR.cell]; rfl
  have r1 : w2.cell? ⟨w.heap.size, 1, none⟩ = some (.int .i64 0) := by rw [kR.cell]; rfl
  have f0 := kR.fr 0
  have f1 := kR.fr 1
  have lt1 := kR.lt
  have lt2 := kB.lt
  have g0 : ∀ o, (w2.alloc o).frozen? ⟨w.heap.size, 0, none⟩ = false := fun o => (kR.al o).fr 0
  have g1 : ∀ o, (w2.alloc o).frozen? ⟨w.heap.size, 1, none⟩ = false := fun o => (kR.al o).fr 1
  have HK := Lib.hid kR
  have HB2 := Lib.hid (And.intro kB hb2)
  go_wp2_with fail
  go_at_call 84
  refine (HP.out _).mono ?_
  rintro e w3 ⟨rfl, hb3⟩
  have kB3 := (HB2.out.1).bel hb3
  have kR3 := (HK.out).bel hb3
  have hbw3 := (HB2.out.2).tr hb3
  clear c0 c1 c2 r0 r1 f0 f1 HB2 HK
  clear lt1 lt2 g0 g1
  have c0 : w3.cell? ⟨w.heap.size + 1, 0, none⟩ = some (.string a) := by rw [kB3.cell]; rfl
  have c1 : w3.cell? ⟨w.heap.size + 1, 1, none⟩ = some (.string b) := by rw [kB3.cell]; rfl
  have c2 : w3.cell? ⟨w.heap.size + 1, 2, none⟩ = some (.string n) := by rw [kB3.cell]; rfl
  have r0 : w3.cell? ⟨w.heap.size, 0, none⟩ = some (.int .i64 0) := by rw [kR3.cell]; rfl
  have r1 : w3.cell? ⟨w.heap.size, 1, none⟩ = some (.int .i64 0) := by rw [kR3.cell]; rfl
  have f0 := kR3.fr 0
  have f1 := kR3.fr 1
  have lt1 := kR3.lt
  have lt2 := kB3.lt
  have g0 : ∀ o, (w3.alloc o).frozen? ⟨w.heap.size, 0, none⟩ = false := fun o => (kR3.al o).fr 0
  have g1 : ∀ o, (w3.alloc o).frozen? ⟨w.heap.size, 1, none⟩ = false := fun o => (kR3.al o).fr 1
  have HK := Lib.hid kR3
  have HB2 := Lib.hid (And.intro kB3 hbw3)
  go_wp2
  exact bodyPost_ret (v := .tuple #[.agg #[.int .i64 0, .int .i64 0], .int .i64 3]) (results_ctR Tryz.results59 _ _ w.heap.size (.int .i64 0) (.int .i64 0) rfl (((HK.out.st 0 _).st 1 _).al _)) rfl (lineR_of HR.out rfl (by repeat (first | exact Bel.rf | exact hb | (with_reducible refine Bel.drwN ?_ _) | (with_reducible refine Bel.drw ?_) | (with_reducible refine Bel.al ?_ _) | ((with_reducible refine Bel.st2 ?_ ?_ _); (show _ ≤ _); (simp only []; omega)) | refine Bel.tr ?_ (by assumption))))
set_option maxHeartbeats 4000000 in
set_option maxRecDepth 100000 in
theorem line_late (s a b n : ByteArray) (hs : s.size ≤ 20000) (US : List Ut) (hW : wds s = [a, b, n]) (ha : a.size ≤ 20000) (hn : n.data.toList ≠ []) (hT : isT a.data.toList = true) (hbs : (⟨(Lib.trimPrefix b.data.toList [45]).toArray⟩ : ByteArray).size ≤ 4611686018427387904) (X P er tv : Int) (hp : prs (rn (Lib.trimPrefix b.data.toList [45])) (Lib.hasPrefix b.data.toList [45]) = .tuple #[.agg #[.int .i64 X, .int .i64 P], .int .i64 er]) (HA : Hid (∀ w, Calls Tryz.prog 85 #[.string a] w fun e w' => e = .returned (.tuple #[.int .i64 tv, .nilIface]) ∧ Bel w w')) (her : er ≠ 3) (ht : 1099511627776 < tv) (r : Nat) (w : World) (hr : lineS US s.data.toList = ((0, 0), 1)) :
    Calls Tryz.prog 59 #[.string s, .map (some r)] w (LineR US s w) := by
  have HS : Hid (∀ w, Calls Tryz.prog 82 #[.string s, .string ⟨#[32]⟩] w fun e w' => e = .returned (.slice (some ⟨w.heap.size, 0, none⟩) 3 3) ∧ w' = w.alloc (.cells #[.string a, .string b, .string n] 9)) := fun w => by
    have := split_any s (by omega) w
    unfold Spl at this
    rw [hW] at this
    exact this
  have HR := Lib.hid hr
  clear hr hW
  have e0 : n.toList.isEmpty = false := by rw [Lib.toList_data]; cases hq : n.data.toList with | nil => exact absurd hq hn | cons c l => rfl
  have e1 : (n.toList == []) = false := by rw [Lib.toList_data]; cases hq : n.data.toList with | nil => exact absurd hq hn | cons c l => rfl
  have HI : Hid (∀ w, Calls Tryz.prog 83 #[.string a] w fun e w' => e = .returned (.bool true) ∧ Bel w w') := fun w => by have := isTime_any a ha w; rw [hT] at this; exact this
  have HP : Hid (∀ w, Calls Tryz.prog 84 #[.string b] w fun e w' => e = .returned (.tuple #[.agg #[.int .i64 X, .int .i64 P], .int .i64 er]) ∧ Bel w w') := fun w => by rw [← hp]; exact parse_any b ⟨(Lib.trimPrefix b.data.toList [45]).toArray⟩ (Lib.hasPrefix b.data.toList [45]) hbs rfl rfl w
  have k1 : (er == 3) = false := by simpa using her
  have k2 : ¬ er = 3 := her
  clear hp
  go_enter Tryz.func59, Tryz.ntmps59
  go_wp2_with fail
  go_at_call 82
  refine (HS.out _).mono ?_
  rintro e w1 ⟨rfl, rfl⟩
  go_wp2_with fail
  go_at_call 83
  refine (HI.out _).mono ?_
  rintro e w2 ⟨rfl, hb⟩
  have kB : Bk w2 (w.heap.size + 1) 9 #[.string a, .string b, .string n] := Bk.bel (Bk.nq (w.alloc (.cells #[.int .i64 0, .int .i64 0] 100)) _ _ (by simp)) hb
  have kR : Bk w2 w.heap.size 100 #[.int .i64 0, .int .i64 0] := Bk.bel ((Bk.nw w 100 #[.int .i64 0, .int .i64 0]).al _) hb
  have hb2 : Bel w w2 := ((Bel.rf.al _).al _).tr hb
  have c0 : w2.cell? ⟨w.heap.size + 1, 0, none⟩ = some (.string a) := by rw [kB.cell]; rfl
  have c1 : w2.cell? ⟨w.heap.size + 1, 1, none⟩ = some (.string b) := by rw [kB.cell]; rfl
  have c2 : w2.cell? ⟨w.heap.size + 1, 2, none⟩ = some (.string n) := by rw [kB.cell]; rfl
  have r0 : w2.cell? ⟨w.heap.size, 0, none⟩ = some (.int .i64 0) := by rw [kR.cell]; rfl
  have r1 : w2.cell? ⟨w.heap.size, 1, none⟩ = some (.int .i64 0) := by rw [kR.cell]; rfl
  have f0 := kR.fr 0
  have f1 := kR.fr 1
  have lt1 := kR.lt
  have lt2 := kB.lt
  have g0 : ∀ o, (w2.alloc o).frozen? ⟨w.heap.size, 0, none⟩ = false := fun o => (kR.al o).fr 0
  have g1 : ∀ o, (w2.alloc o).frozen? ⟨w.heap.size, 1, none⟩ = false := fun o => (kR.al o).fr 1
  have HK := Lib.hid kR
  have HB2 := Lib.hid (And.intro kB hb2)
  go_wp2_with fail
  go_at_call 84
  refine (HP.out _).mono ?_
  rintro e w3 ⟨rfl, hb3⟩
  have kB3 := (HB2.out.1).bel hb3
  have kR3 := (HK.out).bel hb3
  have hbw3 := (HB2.out.2).tr hb3
  clear c0 c1 c2 r0 r1 f0 f1 HB2 HK
  clear lt1 lt2 g0 g1
  have c0 : w3.cell? ⟨w.heap.size + 1, 0, none⟩ = some (.string a) := by rw [kB3.cell]; rfl
  have c1 : w3.cell? ⟨w.heap.size + 1, 1, none⟩ = some (.string b) := by rw [kB3.cell]; rfl
  have c2 : w3.cell? ⟨w.heap.size + 1, 2, none⟩ = some (.string n) := by rw [kB3.cell]; rfl
  have r0 : w3.cell? ⟨w.heap.size, 0, none⟩ = some (.int .i64 0) := by rw [kR3.cell]; rfl
  have r1 : w3.cell? ⟨w.heap.size, 1, none⟩ = some (.int .i64 0) := by rw [kR3.cell]; rfl
  have f0 := kR3.fr 0
  have f1 := kR3.fr 1
  have lt1 := kR3.lt
  have lt2 := kB3.lt
  have g0 : ∀ o, (w3.alloc o).frozen? ⟨w.heap.size, 0, none⟩ = false := fun o => (kR3.al o).fr 0
  have g1 : ∀ o, (w3.alloc o).frozen? ⟨w.heap.size, 1, none⟩ = false := fun o => (kR3.al o).fr 1
  have HK := Lib.hid kR3
  have HB2 := Lib.hid (And.intro kB3 hbw3)
  go_wp2_with fail
  go_at_call 85
  refine (HA.out _).mono ?_
  rintro e w4 ⟨rfl, hb4⟩
  have kB4 := (HB2.out.1.al _).bel hb4
  have kR4 := (HK.out.al _).bel hb4
  have hbw4 := (HB2.out.2.al _).tr hb4
  clear c0 c1 c2 r0 r1 f0 f1 HB2 HK
  clear lt1 lt2 g0 g1
  have c0 : w4.cell? ⟨w.heap.size + 1, 0, none⟩ = some (.string a) := by rw [kB4.cell]; rfl
  have c1 : w4.cell? ⟨w.heap.size + 1, 1, none⟩ = some (.string b) := by rw [kB4.cell]; rfl
  have c2 : w4.cell? ⟨w.heap.size + 1, 2, none⟩ = some (.string n) := by rw [kB4.cell]; rfl
  have r0 : w4.cell? ⟨w.heap.size, 0, none⟩ = some (.int .i64 0) := by rw [kR4.cell]; rfl
  have r1 : w4.cell? ⟨w.heap.size, 1, none⟩ = some (.int .i64 0) := by rw [kR4.cell]; rfl
  have f0 := kR4.fr 0
  have f1 := kR4.fr 1
  have lt1 := kR4.lt
  have lt2 := kB4.lt
  have g0 : ∀ o, (w4.alloc o).frozen? ⟨w.heap.size, 0, none⟩ = false := fun o => (kR4.al o).fr 0
  have g1 : ∀ o, (w4.alloc o).frozen? ⟨w.heap.size, 1, none⟩ = false := fun o => (kR4.al o).fr 1
  have HK := Lib.hid kR4
  have HB2 := Lib.hid (And.intro kB4 hbw4)
  go_wp2
  exact bodyPost_ret (v := .tuple #[.agg #[.int .i64 0, .int .i64 0], .int .i64 1]) (results_ctR Tryz.results59 _ _ w.heap.size (.int .i64 0) (.int .i64 0) rfl ((HK.out.st 0 _).st 1 _)) rfl (lineR_of HR.out rfl (by repeat (first | exact Bel.rf | exact hb | (with_reducible refine Bel.drwN ?_ _) | (with_reducible refine Bel.drw ?_) | (with_reducible refine Bel.al ?_ _) | ((with_reducible refine Bel.st2 ?_ ?_ _); (show _ ≤ _); (simp only []; omega)) | refine Bel.tr ?_ (by assumption))))
set_option maxHeartbeats 4000000 in
set_option maxRecDepth 100000 in
theorem line_range (s a b n : ByteArray) (hs : s.size ≤ 20000) (US : List Ut) (hW : wds s = [a, b, n]) (ha : a.size ≤ 20000) (hn : n.data.toList ≠ []) (hT : isT a.data.toList = true) (hbs : (⟨(Lib.trimPrefix b.data.toList [45]).toArray⟩ : ByteArray).size ≤ 4611686018427387904) (X P er tv : Int) (hp : prs (rn (Lib.trimPrefix b.data.toList [45])) (Lib.hasPrefix b.data.toList [45]) = .tuple #[.agg #[.int .i64 X, .int .i64 P], .int .i64 er]) (HA : Hid (∀ w, Calls Tryz.prog 85 #[.string a] w fun e w' => e = .returned (.tuple #[.int .i64 tv, .nilIface]) ∧ Bel w w')) (her : er = 1) (ht : ¬ 1099511627776 < tv) (r : Nat) (w : World) (hr : lineS US s.data.toList = ((0, 0), 1)) :
    Calls Tryz.prog 59 #[.string s, .map (some r)] w (LineR US s w) := by
  have HS : Hid (∀ w, Calls Tryz.prog 82 #[.string s, .string ⟨#[32]⟩] w fun e w' => e = .returned (.slice (some ⟨w.heap.size, 0, none⟩) 3 3) ∧ w' = w.alloc (.cells #[.string a, .string b, .string n] 9)) := fun w => by
    have := split_any s (by omega) w
    unfold Spl at this
    rw [hW] at this
    exact this
  have HR := Lib.hid hr
  clear hr hW
  have e0 : n.toList.isEmpty = false := by rw [Lib.toList_data]; cases hq : n.data.toList with | nil => exact absurd hq hn | cons c l => rfl
  have e1 : (n.toList == []) = false := by rw [Lib.toList_data]; cases hq : n.data.toList with | nil => exact absurd hq hn | cons c l => rfl
  have HI : Hid (∀ w, Calls Tryz.prog 83 #[.string a] w fun e w' => e = .returned (.bool true) ∧ Bel w w') := fun w => by have := isTime_any a ha w; rw [hT] at this; exact this
  have HP : Hid (∀ w, Calls Tryz.prog 84 #[.string b] w fun e w' => e = .returned (.tuple #[.agg #[.int .i64 X, .int .i64 P], .int .i64 er]) ∧ Bel w w') := fun w => by rw [← hp]; exact parse_any b ⟨(Lib.trimPrefix b.data.toList [45]).toArray⟩ (Lib.hasPrefix b.data.toList [45]) hbs rfl rfl w
  subst her
  clear hp
  go_enter Tryz.func59, Tryz.ntmps59
  go_wp2_with fail
  go_at_call 82
  refine (HS.out _).mono ?_
  rintro e w1 ⟨rfl, rfl⟩
  go_wp2_with fail
  go_at_call 83
  refine (HI.out _).mono ?_
  rintro e w2 ⟨rfl, hb⟩
  have kB : Bk w2 (w.heap.size + 1) 9 #[.string a, .string b, .string n] := Bk.bel (Bk.nq (w.alloc (.cells #[.int .i64 0, .int .i64 0] 100)) _ _ (by simp)) hb
  have kR : Bk w2 w.heap.size 100 #[.int .i64 0, .int .i64 0] := Bk.bel ((Bk.nw w 100 #[.int .i64 0, .int .i64 0]).al _) hb
  have hb2 : Bel w w2 := ((Bel.rf.al _).al _).tr hb
  have c0 : w2.cell? ⟨w.heap.size + 1, 0, none⟩ = some (.string a) := by rw [kB.cell]; rfl
  have c1 : w2.cell? ⟨w.heap.size + 1, 1, none⟩ = some (.string b) := by rw [kB.cell]; rfl
  have c2 : w2.cell? ⟨w.heap.size + 1, 2, none⟩ = some (.string n) := by rw [kB.cell]; rfl
  have r0 : w2.cell? ⟨w.heap.size, 0, none⟩ = some (.int .i64 0) := by rw [kR.cell]; rfl
  have r1 : w2.cell? ⟨w.heap.size, 1, none⟩ = some (.int .i64 0) := by rw [kR.cell]; rfl
  have f0 := kR.fr 0
  have f1 := kR.fr 1
  have lt1 := kR.lt
  have lt2 := kB.lt
  have g0 : ∀ o, (w2.alloc o).frozen? ⟨w.heap.size, 0, none⟩ = false := fun o => (kR.al o).fr 0
  have g1 : ∀ o, (w2.alloc o).frozen? ⟨w.heap.size, 1, none⟩ = false := fun o => (kR.al o).fr 1
  have HK := Lib.hid kR
  have HB2 := Lib.hid (And.intro kB hb2)
  go_wp2_with fail
  go_at_call 84
  refine (HP.out _).mono ?_
  rintro e w3 ⟨rfl, hb3⟩
  have kB3 := (HB2.out.1).bel hb3
  have kR3 := (HK.out).bel hb3
  have hbw3 := (HB2.out.2).tr hb3
  clear c0 c1 c2 r0 r1 f0 f1 HB2 HK
  clear lt1 lt2 g0 g1
  have c0 : w3.cell? ⟨w.heap.size + 1, 0, none⟩ = some (.string a) := by rw [kB3.cell]; rfl
  have c1 : w3.cell? ⟨w.heap.size + 1, 1, none⟩ = some (.string b) := by rw [kB3.cell]; rfl
  have c2 : w3.cell? ⟨w.heap.size + 1, 2, none⟩ = some (.string n) := by rw [kB3.cell]; rfl
  have r0 : w3.cell? ⟨w.heap.size, 0, none⟩ = some (.int .i64 0) := by rw [kR3.cell]; rfl
  have r1 : w3.cell? ⟨w.heap.size, 1, none⟩ = some (.int .i64 0) := by rw [kR3.cell]; rfl
  have f0 := kR3.fr 0
  have f1 := kR3.fr 1
  have lt1 := kR3.lt
  have lt2 := kB3.lt
  have g0 : ∀ o, (w3.alloc o).frozen? ⟨w.heap.size, 0, none⟩ = false := fun o => (kR3.al o).fr 0
  have g1 : ∀ o, (w3.alloc o).frozen? ⟨w.heap.size, 1, none⟩ = false := fun o => (kR3.al o).fr 1
  have HK := Lib.hid kR3
  have HB2 := Lib.hid (And.intro kB3 hbw3)
  go_wp2_with fail
  go_at_call 85
  refine (HA.out _).mono ?_
  rintro e w4 ⟨rfl, hb4⟩
  have kB4 := (HB2.out.1.al _).bel hb4
  have kR4 := (HK.out.al _).bel hb4
  have hbw4 := (HB2.out.2.al _).tr hb4
  clear c0 c1 c2 r0 r1 f0 f1 HB2 HK
  clear lt1 lt2 g0 g1
  have c0 : w4.cell? ⟨w.heap.size + 1, 0, none⟩ = some (.string a) := by rw [kB4.cell]; rfl
  have c1 : w4.cell? ⟨w.heap.size + 1, 1, none⟩ = some (.string b) := by rw [kB4.cell]; rfl
  have c2 : w4.cell? ⟨w.heap.size + 1, 2, none⟩ = some (.string n) := by rw [kB4.cell]; rfl
  have r0 : w4.cell? ⟨w.heap.size, 0, none⟩ = some (.int .i64 0) := by rw [kR4.cell]; rfl
  have r1 : w4.cell? ⟨w.heap.size, 1, none⟩ = some (.int .i64 0) := by rw [kR4.cell]; rfl
  have f0 := kR4.fr 0
  have f1 := kR4.fr 1
  have lt1 := kR4.lt
  have lt2 := kB4.lt
  have g0 : ∀ o, (w4.alloc o).frozen? ⟨w.heap.size, 0, none⟩ = false := fun o => (kR4.al o).fr 0
  have g1 : ∀ o, (w4.alloc o).frozen? ⟨w.heap.size, 1, none⟩ = false := fun o => (kR4.al o).fr 1
  have HK := Lib.hid kR4
  have HB2 := Lib.hid (And.intro kB4 hbw4)
  go_wp2
  exact bodyPost_ret (v := .tuple #[.agg #[.int .i64 0, .int .i64 0], .int .i64 1]) (results_ctR Tryz.results59 _ _ w.heap.size (.int .i64 0) (.int .i64 0) rfl ((HK.out.st 0 _).st 1 _)) rfl (lineR_of HR.out rfl (by repeat (first | exact Bel.rf | exact hb | (with_reducible refine Bel.drwN ?_ _) | (with_reducible refine Bel.drw ?_) | (with_reducible refine Bel.al ?_ _) | ((with_reducible refine Bel.st2 ?_ ?_ _); (show _ ≤ _); (simp only []; omega)) | refine Bel.tr ?_ (by assumption))))
set_option maxHeartbeats 4000000 in
set_option maxRecDepth 100000 in
theorem line_unit (s a b n : ByteArray) (hs : s.size ≤ 20000) (US : List Ut) (hW : wds s = [a, b, n]) (ha : a.size ≤ 20000) (hn : n.data.toList ≠ []) (hT : isT a.data.toList = true) (hbs : (⟨(Lib.trimPrefix b.data.toList [45]).toArray⟩ : ByteArray).size ≤ 4611686018427387904) (X P er tv : Int) (hp : prs (rn (Lib.trimPrefix b.data.toList [45])) (Lib.hasPrefix b.data.toList [45]) = .tuple #[.agg #[.int .i64 X, .int .i64 P], .int .i64 er]) (HA : Hid (∀ w, Calls Tryz.prog 85 #[.string a] w fun e w' => e = .returned (.tuple #[.int .i64 tv, .nilIface]) ∧ Bel w w')) (her : er = 0) (ht : ¬ 1099511627776 < tv) (hl : look US n.data.toList = none) (r : Nat) (w : World) (hM : Mp w r US) (hr : lineS US s.data.toList = ((0, 0), 7)) :
    Calls Tryz.prog 59 #[.string s, .map (some r)] w (LineR US s w) := by
  have HS : Hid (∀ w, Calls Tryz.prog 82 #[.string s, .string ⟨#[32]⟩] w fun e w' => e = .returned (.slice (some ⟨w.heap.size, 0, none⟩) 3 3) ∧ w' = w.alloc (.cells #[.string a, .string b, .string n] 9)) := fun w => by
    have := split_any s (by omega) w
    unfold Spl at this
    rw [hW] at this
    exact this
  have HM := Lib.hid hM
  clear hM
  have HR := Lib.hid hr
  clear hr hW
  have e0 : n.toList.isEmpty = false := by rw [Lib.toList_data]; cases hq : n.data.toList with | nil => exact absurd hq hn | cons c l => rfl
  have e1 : (n.toList == []) = false := by rw [Lib.toList_data]; cases hq : n.data.toList with | nil => exact absurd hq hn | cons c l => rfl
  have HI : Hid (∀ w, Calls Tryz.prog 83 #[.string a] w fun e w' => e = .returned (.bool true) ∧ Bel w w') := fun w => by have := isTime_any a ha w; rw [hT] at this; exact this
  have HP : Hid (∀ w, Calls Tryz.prog 84 #[.string b] w fun e w' => e = .returned (.tuple #[.agg #[.int .i64 X, .int .i64 P], .int .i64 er]) ∧ Bel w w') := fun w => by rw [← hp]; exact parse_any b ⟨(Lib.trimPrefix b.data.toList [45]).toArray⟩ (Lib.hasPrefix b.data.toList [45]) hbs rfl rfl w
  subst her
  clear hp
  go_enter Tryz.func59, Tryz.ntmps59
  go_wp2_with fail
  go_at_call 82
  refine (HS.out _).mono ?_
  rintro e w1 ⟨rfl, rfl⟩
  go_wp2_with fail
  go_at_call 83
  refine (HI.out _).mono ?_
  rintro e w2 ⟨rfl, hb⟩
  have kB : Bk w2 (w.heap.size + 1) 9 #[.string a, .string b, .string n] := Bk.bel (Bk.nq (w.alloc (.cells #[.int .i64 0, .int .i64 0] 100)) _ _ (by simp)) hb
  have kR : Bk w2 w.heap.size 100 #[.int .i64 0, .int .i64 0] := Bk.bel ((Bk.nw w 100 #[.int .i64 0, .int .i64 0]).al _) hb
  have hb2 : Bel w w2 := ((Bel.rf.al _).al _).tr hb
  have c0 : w2.cell? ⟨w.heap.size + 1, 0, none⟩ = some (.string a) := by rw [kB.cell]; rfl
  have c1 : w2.cell? ⟨w.heap.size + 1, 1, none⟩ = some (.string b) := by rw [kB.cell]; rfl
  have c2 : w2.cell? ⟨w.heap.size + 1, 2, none⟩ = some (.string n) := by rw [kB.cell]; rfl
  have r0 : w2.cell? ⟨w.heap.size, 0, none⟩ = some (.int .i64 0) := by rw [kR.cell]; rfl
  have r1 : w2.cell? ⟨w.heap.size, 1, none⟩ = some (.int .i64 0) := by rw [kR.cell]; rfl
  have f0 := kR.fr 0
  have f1 := kR.fr 1
  have lt1 := kR.lt
  have lt2 := kB.lt
  have g0 : ∀ o, (w2.alloc o).frozen? ⟨w.heap.size, 0, none⟩ = false := fun o => (kR.al o).fr 0
  have g1 : ∀ o, (w2.alloc o).frozen? ⟨w.heap.size, 1, none⟩ = false := fun o => (kR.al o).fr 1
  have HK := Lib.hid kR
  have HB2 := Lib.hid (And.intro kB hb2)
  go_wp2_with fail
  go_at_call 84
  refine (HP.out _).mono ?_
  rintro e w3 ⟨rfl, hb3⟩
  have kB3 := (HB2.out.1).bel hb3
  have kR3 := (HK.out).bel hb3
  have hbw3 := (HB2.out.2).tr hb3
  clear c0 c1 c2 r0 r1 f0 f1 HB2 HK
  clear lt1 lt2 g0 g1
  have c0 : w3.cell? ⟨w.heap.size + 1, 0, none⟩ = some (.string a) := by rw [kB3.cell]; rfl
  have c1 : w3.cell? ⟨w.heap.size + 1, 1, none⟩ = some (.string b) := by rw [kB3.cell]; rfl
  have c2 : w3.cell? ⟨w.heap.size + 1, 2, none⟩ = some (.string n) := by rw [kB3.cell]; rfl
  have r0 : w3.cell? ⟨w.heap.size, 0, none⟩ = some (.int .i64 0) := by rw [kR3.cell]; rfl
  have r1 : w3.cell? ⟨w.heap.size, 1, none⟩ = some (.int .i64 0) := by rw [kR3.cell]; rfl
  have f0 := kR3.fr 0
  have f1 := kR3.fr 1
  have lt1 := kR3.lt
  have lt2 := kB3.lt
  have g0 : ∀ o, (w3.alloc o).frozen? ⟨w.heap.size, 0, none⟩ = false := fun o => (kR3.al o).fr 0
  have g1 : ∀ o, (w3.alloc o).frozen? ⟨w.heap.size, 1, none⟩ = false := fun o => (kR3.al o).fr 1
  have HK := Lib.hid kR3
  have HB2 := Lib.hid (And.intro kB3 hbw3)
  go_wp2_with fail
  go_at_call 85
  refine (HA.out _).mono ?_
  rintro e w4 ⟨rfl, hb4⟩
  have kB4 := (HB2.out.1.al _).bel hb4
  have kR4 := (HK.out.al _).bel hb4
  have hbw4 := (HB2.out.2.al _).tr hb4
  clear c0 c1 c2 r0 r1 f0 f1 HB2 HK
  clear lt1 lt2 g0 g1
  have c0 : w4.cell? ⟨w.heap.size + 1, 0, none⟩ = some (.string a) := by rw [kB4.cell]; rfl
  have c1 : w4.cell? ⟨w.heap.size + 1, 1, none⟩ = some (.string b) := by rw [kB4.cell]; rfl
  have c2 : w4.cell? ⟨w.heap.size + 1, 2, none⟩ = some (.string n) := by rw [kB4.cell]; rfl
  have r0 : w4.cell? ⟨w.heap.size, 0, none⟩ = some (.int .i64 0) := by rw [kR4.cell]; rfl
  have r1 : w4.cell? ⟨w.heap.size, 1, none⟩ = some (.int .i64 0) := by rw [kR4.cell]; rfl
  have f0 := kR4.fr 0
  have f1 := kR4.fr 1
  have lt1 := kR4.lt
  have lt2 := kB4.lt
  have g0 : ∀ o, (w4.alloc o).frozen? ⟨w.heap.size, 0, none⟩ = false := fun o => (kR4.al o).fr 0
  have g1 : ∀ o, (w4.alloc o).frozen? ⟨w.heap.size, 1, none⟩ = false := fun o => (kR4.al o).fr 1
  have HK := Lib.hid kR4
  have HB2 := Lib.hid (And.intro kB4 hbw4)
  have hlk : (Instr.lookup 94 (.map (some r)) (.string n) true).run Tryz.prog w4 = .ok (.tuple #[.agg #[.string ⟨#[]⟩, .int .i64 0, .int .i64 0, .int .i64 0], .bool false]) w4 := look_miss (HM.out.bel hbw4) n hl
  go_wp2
  exact bodyPost_ret (v := .tuple #[.agg #[.int .i64 0, .int .i64 0], .int .i64 7]) (results_ctR Tryz.results59 _ _ w.heap.size (.int .i64 0) (.int .i64 0) rfl (((HK.out.st 0 _).st 1 _).al _)) rfl (lineR_of HR.out rfl (by repeat (first | exact Bel.rf | exact hb | (with_reducible refine Bel.drwN ?_ _) | (with_reducible refine Bel.drw ?_) | (with_reducible refine Bel.al ?_ _) | ((with_reducible refine Bel.st2 ?_ ?_ _); (show _ ≤ _); (simp only []; omega)) | refine Bel.tr ?_ (by assumption))))
set_option maxHeartbeats 4000000 in
set_option maxRecDepth 100000 in
theorem line_conv (s a b n : ByteArray) (hs : s.size ≤ 20000) (US : List Ut) (hW : wds s = [a, b, n]) (ha : a.size ≤ 20000) (hn : n.data.toList ≠ []) (hT : isT a.data.toList = true) (hbs : (⟨(Lib.trimPrefix b.data.toList [45]).toArray⟩ : ByteArray).size ≤ 4611686018427387904) (X P er tv : Int) (hp : prs (rn (Lib.trimPrefix b.data.toList [45])) (Lib.hasPrefix b.data.toList [45]) = .tuple #[.agg #[.int .i64 X, .int .i64 P], .int .i64 er]) (HA : Hid (∀ w, Calls Tryz.prog 85 #[.string a] w fun e w' => e = .returned (.tuple #[.int .i64 tv, .nilIface]) ∧ Bel w w')) (nm : List UInt8) (mul add div cvv ce : Int) (hC : ∀ w, Pows w → Calls Tryz.prog 86 #[.agg #[.int .i64 X, .int .i64 P], .agg #[.string ⟨nm.toArray⟩, .int .i64 mul, .int .i64 add, .int .i64 div]] w fun e w' => e = .returned (.tuple #[.int .i64 cvv, .int .i64 ce]) ∧ Bel w w') (her : er = 0) (ht : ¬ 1099511627776 < tv) (hl : look US n.data.toList = some ⟨nm, mul, add, div⟩) (r : Nat) (w : World) (hM : Mp w r US) (hPW : Pows w) (hr : lineS US s.data.toList = ((tv, cvv), ce)) :
    Calls Tryz.prog 59 #[.string s, .map (some r)] w (LineR US s w) := by
  have HS : Hid (∀ w, Calls Tryz.prog 82 #[.string s, .string ⟨#[32]⟩] w fun e w' => e = .returned (.slice (some ⟨w.heap.size, 0, none⟩) 3 3) ∧ w' = w.alloc (.cells #[.string a, .string b, .string n] 9)) := fun w => by
    have := split_any s (by omega) w
    unfold Spl at this
    rw [hW] at this
    exact this
  have HM := Lib.hid hM
  have HPW := Lib.hid hPW
  clear hM hPW
  have HR := Lib.hid hr
  clear hr hW
  have e0 : n.toList.isEmpty = false := by rw [Lib.toList_data]; cases hq : n.data.toList with | nil => exact absurd hq hn | cons c l => rfl
  have e1 : (n.toList == []) = false := by rw [Lib.toList_data]; cases hq : n.data.toList with | nil => exact absurd hq hn | cons c l => rfl
  have HI : Hid (∀ w, Calls Tryz.prog 83 #[.string a] w fun e w' => e = .returned (.bool true) ∧ Bel w w') := fun w => by have := isTime_any a ha w; rw [hT] at this; exact this
  have HP : Hid (∀ w, Calls Tryz.prog 84 #[.string b] w fun e w' => e = .returned (.tuple #[.agg #[.int .i64 X, .int .i64 P], .int .i64 er]) ∧ Bel w w') := fun w => by rw [← hp]; exact parse_any b ⟨(Lib.trimPrefix b.data.toList [45]).toArray⟩ (Lib.hasPrefix b.data.toList [45]) hbs rfl rfl w
  subst her
  have HC := Lib.hid hC
  clear hp hC
  go_enter Tryz.func59, Tryz.ntmps59
  go_wp2_with fail
  go_at_call 82
  refine (HS.out _).mono ?_
  rintro e w1 ⟨rfl, rfl⟩
  go_wp2_with fail
  go_at_call 83
  refine (HI.out _).mono ?_
  rintro e w2 ⟨rfl, hb⟩
  have kB : Bk w2 (w.heap.size + 1) 9 #[.string a, .string b, .string n] := Bk.bel (Bk.nq (w.alloc (.cells #[.int .i64 0, .int .i64 0] 100)) _ _ (by simp)) hb
  have kR : Bk w2 w.heap.size 100 #[.int .i64 0, .int .i64 0] := Bk.bel ((Bk.nw w 100 #[.int .i64 0, .int .i64 0]).al _) hb
  have hb2 : Bel w w2 := ((Bel.rf.al _).al _).tr hb
  have c0 : w2.cell? ⟨w.heap.size + 1, 0, none⟩ = some (.string a) := by rw [kB.cell]; rfl
  have c1 : w2.cell? ⟨w.heap.size + 1, 1, none⟩ = some (.string b) := by rw [kB.cell]; rfl
  have c2 : w2.cell? ⟨w.heap.size + 1, 2, none⟩ = some (.string n) := by rw [kB.cell]; rfl
  have r0 : w2.cell? ⟨w.heap.size, 0, none⟩ = some (.int .i64 0) := by rw [kR.cell]; rfl
  have r1 : w2.cell? ⟨w.heap.size, 1, none⟩ = some (.int .i64 0) := by rw [kR.cell]; rfl
  have f0 := kR.fr 0
  have f1 := kR.fr 1
  have lt1 := kR.lt
  have lt2 := kB.lt
  have g0 : ∀ o, (w2.alloc o).frozen? ⟨w.heap.size, 0, none⟩ = false := fun o => (kR.al o).fr 0
  have g1 : ∀ o, (w2.alloc o).frozen? ⟨w.heap.size, 1, none⟩ = false := fun o => (kR.al o).fr 1
  have HK := Lib.hid kR
  have HB2 := Lib.hid (And.intro kB hb2)
  go_wp2_with fail
  go_at_call 84
  refine (HP.out _).mono ?_
  rintro e w3 ⟨rfl, hb3⟩
  have kB3 := (HB2.out.1).bel hb3
  have kR3 := (HK.out).bel hb3
  have hbw3 := (HB2.out.2).tr hb3
  clear c0 c1 c2 r0 r1 f0 f1 HB2 HK
  clear lt1 lt2 g0 g1
  have c0 : w3.cell? ⟨w.heap.size + 1, 0, none⟩ = some (.string a) := by rw [kB3.cell]; rfl
  have c1 : w3.cell? ⟨w.heap.size + 1, 1, none⟩ = some (.string b) := by rw [kB3.cell]; rfl
  have c2 : w3.cell? ⟨w.heap.size + 1, 2, none⟩ = some (.string n) := by rw [kB3.cell]; rfl
  have r0 : w3.cell? ⟨w.heap.size, 0, none⟩ = some (.int .i64 0) := by rw [kR3.cell]; rfl
  have r1 : w3.cell? ⟨w.heap.size, 1, none⟩ = some (.int .i64 0) := by rw [kR3.cell]; rfl
  have f0 := kR3.fr 0
  have f1 := kR3.fr 1
  have lt1 := kR3.lt
  have lt2 := kB3.lt
  have g0 : ∀ o, (w3.alloc o).frozen? ⟨w.heap.size, 0, none⟩ = false := fun o => (kR3.al o).fr 0
  have g1 : ∀ o, (w3.alloc o).frozen? ⟨w.heap.size, 1, none⟩ = false := fun o => (kR3.al o).fr 1
  have HK := Lib.hid kR3
  have HB2 := Lib.hid (And.intro kB3 hbw3)
  go_wp2_with fail
  go_at_call 85
  refine (HA.out _).mono ?_
  rintro e w4 ⟨rfl, hb4⟩
  have kB4 := (HB2.out.1.al _).bel hb4
  have kR4 := (HK.out.al _).bel hb4
  have hbw4 := (HB2.out.2.al _).tr hb4
  clear c0 c1 c2 r0 r1 f0 f1 HB2 HK
  clear lt1 lt2 g0 g1
  have c0 : w4.cell? ⟨w.heap.size + 1, 0, none⟩ = some (.string a) := by rw [kB4.cell]; rfl
  have c1 : w4.cell? ⟨w.heap.size + 1, 1, none⟩ = some (.string b) := by rw [kB4.cell]; rfl
  have c2 : w4.cell? ⟨w.heap.size + 1, 2, none⟩ = some (.string n) := by rw [kB4.cell]; rfl
  have r0 : w4.cell? ⟨w.heap.size, 0, none⟩ = some (.int .i64 0) := by rw [kR4.cell]; rfl
  have r1 : w4.cell? ⟨w.heap.size, 1, none⟩ = some (.int .i64 0) := by rw [kR4.cell]; rfl
  have f0 := kR4.fr 0
  have f1 := kR4.fr 1
  have lt1 := kR4.lt
  have lt2 := kB4.lt
  have g0 : ∀ o, (w4.alloc o).frozen? ⟨w.heap.size, 0, none⟩ = false := fun o => (kR4.al o).fr 0
  have g1 : ∀ o, (w4.alloc o).frozen? ⟨w.heap.size, 1, none⟩ = false := fun o => (kR4.al o).fr 1
  have HK := Lib.hid kR4
  have HB2 := Lib.hid (And.intro kB4 hbw4)
  have hlk : (Instr.lookup 94 (.map (some r)) (.string n) true).run Tryz.prog w4 = .ok (.tuple #[.agg #[.string ⟨nm.toArray⟩, .int .i64 mul, .int .i64 add, .int .i64 div], .bool true]) w4 := look_hit (HM.out.bel hbw4) n _ hl
  have kD : Bk w4 w3.heap.size 128 #[.int .i64 X, .int .i64 P] := (Bk.nw w3 _ _).bel hb4
  have d0 : w4.cell? ⟨w3.heap.size, 0, none⟩ = some (.int .i64 X) := by rw [kD.cell]; rfl
  have d1 : w4.cell? ⟨w3.heap.size, 1, none⟩ = some (.int .i64 P) := by rw [kD.cell]; rfl
  have d2 : ∀ o, (w4.alloc o).cell? ⟨w3.heap.size, 0, none⟩ = some (.int .i64 X) := fun o => kp_al d0 o
  have d3 : ∀ o, (w4.alloc o).cell? ⟨w3.heap.size, 1, none⟩ = some (.int .i64 P) := fun o => kp_al d1 o
  have d4 := kD.lt
  go_wp2_with fail
  go_at_call 86
  refine (HC.out _ (HPW.out.bel (hbw4.al _))).mono ?_
  rintro e w5 ⟨rfl, hb5⟩
  have kB5 := (HB2.out.1.al _).bel hb5
  have kR5 := (HK.out.al _).bel hb5
  have hbw5 := (HB2.out.2.al _).tr hb5
  clear c0 c1 c2 r0 r1 f0 f1 HB2 HK
  clear lt1 lt2 g0 g1
  have c0 : w5.cell? ⟨w.heap.size + 1, 0, none⟩ = some (.string a) := by rw [kB5.cell]; rfl
  have c1 : w5.cell? ⟨w.heap.size + 1, 1, none⟩ = some (.string b) := by rw [kB5.cell]; rfl
  have c2 : w5.cell? ⟨w.heap.size + 1, 2, none⟩ = some (.string n) := by rw [kB5.cell]; rfl
  have r0 : w5.cell? ⟨w.heap.size, 0, none⟩ = some (.int .i64 0) := by rw [kR5.cell]; rfl
  have r1 : w5.cell? ⟨w.heap.size, 1, none⟩ = some (.int .i64 0) := by rw [kR5.cell]; rfl
  have f0 := kR5.fr 0
  have f1 := kR5.fr 1
  have lt1 := kR5.lt
  have lt2 := kB5.lt
  have g0 : ∀ o, (w5.alloc o).frozen? ⟨w.heap.size, 0, none⟩ = false := fun o => (kR5.al o).fr 0
  have g1 : ∀ o, (w5.alloc o).frozen? ⟨w.heap.size, 1, none⟩ = false := fun o => (kR5.al o).fr 1
  have HK := Lib.hid kR5
  have HB2 := Lib.hid (And.intro kB5 hbw5)
  go_wp2
  exact bodyPost_ret (v := .tuple #[.agg #[.int .i64 tv, .int .i64 cvv], .int .i64 ce]) (results_ctR Tryz.results59 _ _ w.heap.size (.int .i64 tv) (.int .i64 cvv) rfl ((HK.out.st 0 _).st 1 _)) rfl (lineR_of HR.out rfl (by repeat (first | exact Bel.rf | exact hb | (with_reducible refine Bel.drwN ?_ _) | (with_reducible refine Bel.drw ?_) | (with_reducible refine Bel.al ?_ _) | ((with_reducible refine Bel.st2 ?_ ?_ _); (show _ ≤ _); (simp only []; omega)) | refine Bel.tr ?_ (by assumption))))
end Go.Proofs.YtpbnabibnkohdaaGreatDoor.Rt
namespace Go.Proofs.YtpbnabibnkohdaaGreatDoor.Rt
open Go.ChangeShapes Go.WideShapes Go.RowKit Wo Un Rg Go.MapKept
open Rm (Rp tm vl)
set_option linter.unusedVariables false
theorem splitK_len (sep : List UInt8) : ∀ (k : Nat) (l x : List UInt8), x ∈ Lib.splitK sep 0 k l → x.length ≤ l.length
  | 0, l, x, h => by
    have : x = l := by simpa [Lib.splitK] using h
    rw [this]; exact Nat.le_refl _
  | k + 1, l, x, h => by
    unfold Lib.splitK at h
    split at h
    · have : x = l := by simpa using h
      rw [this]; exact Nat.le_refl _
    · rcases List.mem_cons.1 h with h | h
      · rw [h, List.length_take]; omega
      · have := splitK_len sep k _ x h
        simp only [List.length_drop] at this; omega
theorem dec_val : ∀ (l : List UInt8) (acc : Nat), allD l → Lib.decFrom acc l = some (l.foldl (fun v c => 10 * v + (c.toNat - 48)) acc)
  | [], acc, _ => rfl
  | c :: l, acc, h => by
    have hc := h c (by simp)
    unfold Lib.decFrom Lib.digitVal
    rw [if_pos ⟨hc.1, hc.2⟩]
    show Lib.decFrom (acc * 10 + (c.toNat - 48)) l = _
    rw [dec_val l _ (fun x hx => h x (by simp [hx])), List.foldl_cons, Nat.mul_comm]
theorem atoi_val (l : List UInt8) (h : allD l) (hn : l ≠ []) : Lib.atoi l = some ((val l : Nat) : Int) := by
  rcases l with _ | ⟨c, l⟩
  · exact absurd rfl hn
  · have hc := h c (by simp)
    have n1 : (c == 45) = false := by
      rw [beq_eq_false_iff_ne]; intro e; rw [e] at hc; exact absurd hc (by unfold isD; decide)
    have n2 : (c == 43) = false := by
      rw [beq_eq_false_iff_ne]; intro e; rw [e] at hc; exact absurd hc (by unfold isD; decide)
    show (if (c == 45) = true then _ else if (c == 43) = true then _ else (Lib.decNat (c :: l)).map fun (m : Nat) => (m : Int)) = _
    rw [n1, n2]
    show (Lib.decNat (c :: l)).map (fun (m : Nat) => (m : Int)) = _
    unfold Lib.decNat
    rw [if_neg (by simp), dec_val _ _ h]; rfl
theorem isT_facts {l : List UInt8} (h : isT l = true) : allD l ∧ l ≠ [] ∧ l.length ≤ 13 := by
  unfold isT at h
  simp only [Bool.and_eq_true, decide_eq_true_eq, List.all_eq_true] at h
  obtain ⟨h1, h2, _, h3⟩ := h
  exact ⟨fun c hc => ⟨by simpa using (h3 c hc).1, by simpa using (h3 c hc).2⟩, fun e => by rw [e] at h1; simp at h1, h2⟩
theorem look_mem {US : List Ut} {n : List UInt8} {u : Ut} (h : look US n = some u) : u ∈ US ∧ u.nm = n := by
  have := List.find?_some h
  exact ⟨List.mem_of_find?_eq_some h, by simpa using this⟩
theorem three {α : Type} {l : List α} (h : l.length = 3) : ∃ a b c, l = [a, b, c] := by
  rcases l with _ | ⟨a, _ | ⟨b, _ | ⟨c, _ | ⟨d, l⟩⟩⟩⟩
  all_goals first | exact ⟨_, _, _, rfl⟩ | (simp at h)
theorem line_any (s : ByteArray) (hs : s.size ≤ 20000) (US : List Ut) (hU : ∀ u ∈ US, GoodU u) (r : Nat) (w : World) (hM : Mp w r US) (hPW : Pows w) :
    Calls Tryz.prog 59 #[.string s, .map (some r)] w (LineR US s w) := by
  by_cases h3 : (wds s).length = 3
  · obtain ⟨a, b, n, hW⟩ := three h3
    have hd := wds_data s
    rw [hW] at hd
    have hsp : Lib.split s.data.toList [32] = [a.data.toList, b.data.toList, n.data.toList] := hd.symm
    have hlen : ∀ x : ByteArray, x.data.toList ∈ Lib.split s.data.toList [32] → x.size ≤ s.size := fun x hx => by
      have := splitK_len [32] _ _ _ hx
      rw [Lib.size_eq x, Lib.size_eq s]; exact this
    have ha := hlen a (by rw [hsp]; simp)
    have hb := hlen b (by rw [hsp]; simp)
    have htl : (⟨(Lib.trimPrefix b.data.toList [45]).toArray⟩ : ByteArray).size ≤ 4611686018427387904 := by
      have h1 : (Lib.trimPrefix b.data.toList [45]).length ≤ b.data.toList.length := by
        unfold Lib.trimPrefix
        split
        · simp
        · exact Nat.le_refl _
      rw [Lib.size_eq]
      have h2 := Lib.size_eq b
      show (Lib.trimPrefix b.data.toList [45]).length ≤ _
      omega
    have hL : lineS US s.data.toList = line3 US a.data.toList b.data.toList n.data.toList := by
      unfold lineS
      rw [hsp]
    unfold line3 at hL
    by_cases hn : n.data.toList = []
    · exact line_en s a b n hs US hW (by omega) hn r w (by rw [hL, if_pos (.inl hn)])
    cases hT : isT a.data.toList
    · exact line_nt s a b n hs US hW (by omega) hn hT r w (by rw [hL, if_pos (.inr hT)])
    rw [if_neg (by rw [hT]; simp [hn])] at hL
    obtain ⟨hAD, hne, h13⟩ := isT_facts hT
    have HA : Hid (∀ w, Calls Tryz.prog 85 #[.string a] w fun e w' => e = .returned (.tuple #[.int .i64 ((val a.data.toList : Nat) : Int), .nilIface]) ∧ Bel w w') := fun w =>
      (Tryz.strconv_Atoi a _ (by rw [Lib.size_eq]; omega) (atoi_val _ hAD hne) w).mono fun e w' ⟨he, t, hw⟩ => ⟨he, by rw [hw]; exact Lib.bytesWorld_below _ _ _⟩
    have hok := rn_ok (Lib.trimPrefix b.data.toList [45])
    generalize hS : rn (Lib.trimPrefix b.data.toList [45]) = S at hL hok
    generalize hm : Lib.hasPrefix b.data.toList [45] = m at hL
    by_cases hrej : rej S m = true
    · rw [if_pos hrej] at hL
      exact line_pf s a b n hs US hW (by omega) hn hT htl 0 0 3 (by rw [hS, hm]; unfold prs; rw [if_pos hrej]) rfl r w hL
    rw [if_neg hrej] at hL
    by_cases hdg : 1000000000 < S.digits
    · have hp : prs (rn (Lib.trimPrefix b.data.toList [45])) (Lib.hasPrefix b.data.toList [45]) = .tuple #[.agg #[.int .i64 0, .int .i64 0], .int .i64 1] := by
        rw [hS, hm]; unfold prs; rw [if_neg hrej, if_pos hdg]
      rw [if_pos hdg] at hL
      by_cases htm : 1099511627776 < ((val a.data.toList : Nat) : Int)
      · rw [if_pos htm] at hL
        exact line_late s a b n hs US hW (by omega) hn hT htl 0 0 1 _ hp HA (by decide) htm r w hL
      · rw [if_neg htm] at hL
        exact line_range s a b n hs US hW (by omega) hn hT htl 0 0 1 _ hp HA rfl htm r w hL
    · rw [if_neg hdg] at hL
      have hrf : rej S m = false := by simpa using hrej
      have hpl : S.places ≤ 6 := by
        unfold rej at hrf
        simp only [Bool.or_eq_false_iff, decide_eq_false_iff_not] at hrf
        omega
      obtain ⟨p, hpp⟩ := Int.eq_ofNat_of_zero_le hok.2.2.2.2.1
      have hp : prs (rn (Lib.trimPrefix b.data.toList [45])) (Lib.hasPrefix b.data.toList [45]) = .tuple #[.agg #[.int .i64 (if m = true then -S.digits else S.digits), .int .i64 (p : Int)], .int .i64 0] := by
        rw [hS, hm]; unfold prs; rw [if_neg hrej, if_neg hdg, hpp]
      by_cases htm : 1099511627776 < ((val a.data.toList : Nat) : Int)
      · rw [if_pos htm] at hL
        exact line_late s a b n hs US hW (by omega) hn hT htl _ _ 0 _ hp HA (by decide) htm r w hL
      rw [if_neg htm] at hL
      rcases hlk : look US n.data.toList with _ | u
      · rw [hlk] at hL
        exact line_unit s a b n hs US hW (by omega) hn hT htl _ _ 0 _ hp HA rfl htm hlk r w hM hL
      · rw [hlk] at hL
        obtain ⟨hmem, _⟩ := look_mem hlk
        obtain ⟨g1, g2, g3, g4, g5, g6, g7⟩ := hU u hmem
        have d0 := hok.1
        have hX : -1000000000 ≤ (if m = true then -S.digits else S.digits) ∧ (if m = true then -S.digits else S.digits) ≤ 1000000000 := by split <;> omega
        generalize (if m = true then -S.digits else S.digits) = X at hp hX hL
        have hpv : cv X S.places u = hup (X * u.mul + u.add * 10 ^ p) (u.div * 10 ^ p) := by
          unfold cv p10; rw [hpp]; rfl
        simp only at hL
        rw [hpv] at hL
        by_cases hsm : smp (hup (X * u.mul + u.add * 10 ^ p) (u.div * 10 ^ p)) = true
        · rw [if_pos hsm] at hL
          exact line_conv s a b n hs US hW (by omega) hn hT htl _ _ 0 _ hp HA u.nm u.mul u.add u.div _ 0
            (fun w hw => conv_as X p _ _ _ _ _ hX.1 hX.2 (by omega) g1 g2 g3 g4 g5 g6 g7 (by unfold cvt; rw [if_pos hsm]) w hw) rfl htm hlk r w hM hPW hL
        · rw [if_neg hsm] at hL
          exact line_conv s a b n hs US hW (by omega) hn hT htl _ _ 0 _ hp HA u.nm u.mul u.add u.div 0 12
            (fun w hw => conv_as X p _ _ _ _ _ hX.1 hX.2 (by omega) g1 g2 g3 g4 g5 g6 g7 (by unfold cvt; rw [if_neg hsm]) w hw) rfl htm hlk r w hM hPW hL
  · exact line_short s hs US h3 r w
end Go.Proofs.YtpbnabibnkohdaaGreatDoor.Rt
namespace Go.Proofs.YtpbnabibnkohdaaGreatDoor.Rt
open Go.ChangeShapes Go.WideShapes Go.RowKit Wo Un Rg Go.MapKept Sr
open Rm (Rp tm vl)
set_option linter.unusedVariables false
theorem run_insertS {P : Program} {T K E : TypeId} (ht : P.underlying T = some (.map K E)) (hkk : P.underlying K = some .string) (w : World) (r clock : Nat) (es : Array MapEntry) (k : ByteArray) (u : Value) (hb : w.heap[r]? = some (.map es clock)) (hn : Instr.findNow .string (.string k) es.toList 0 = some none) :
    (Instr.mapUpdate T (.map (some r)) (.string k) u).run P w = .ok () { w with heap := w.heap.setIfInBounds r (.map (es.push ⟨.string k, u, clock⟩) (clock + 1)) } := by
  unfold Instr.mapUpdate
  simp only [Sem.run_bind, run_underlying ht, Result.andThen, Go.MapKept.run_getObj_map hb, run_checkKey hkk (show IsKey .string (.string k) from trivial), run_findKey hkk hn, run_setObj_map _ hb]
theorem wpList_insertS {P : Program} (w : World) {ops : Array Oper} {rest : List Oper} {o : Oper} {a : Act} {Q : Exit → Act → World → Prop}
    (hg : o.guard = none) (T K E : TypeId) (ht : P.underlying T = some (.map K E)) (hkk : P.underlying K = some .string) (m x v : Operand) (hop : o.op = Op.mapUpdate T m x v) (r clock : Nat) (es : Array MapEntry) (k : ByteArray) (u : Value)
    (hm : a.eval m = .map (some r)) (hx : a.eval x = .string k) (hv : a.eval v = u) (hb : w.heap[r]? = some (.map es clock)) (hn : Instr.findNow .string (.string k) es.toList 0 = some none)
    (hK : ∀ w', w'.heap[r]? = some (.map (es.push ⟨.string k, u, clock⟩) (clock + 1)) → Ch r w w' → wpList P ops Q rest (a.put o.dst undef) w') : wpList P ops Q (o :: rest) a w := by
  refine wpList_plain hg fun K' hK' => ?_
  have hrun := run_insertS (P := P) ht hkk w r clock es k u hb hn
  unfold Oper.wp
  simp [execOp, hop, hm, hx, hv, hrun, Result.andThen]
  refine hK' _ _ (hK _ (heap_set hb).1 ⟨rfl, rfl, rfl, by simp, fun j hj hne => ?_⟩)
  exact (heap_set hb).2 j (fun e => hne (by rw [e]))
theorem ents_snoc (u : Ut) : ∀ (US : List Ut) (k : Nat), ents (US ++ [u]) k = ents US k ++ [⟨.string ⟨u.nm.toArray⟩, uv u, k + US.length⟩]
  | [], k => rfl
  | v :: us, k => by
    show _ :: ents (us ++ [u]) (k + 1) = _ :: (ents us (k + 1) ++ _)
    rw [ents_snoc u us (k + 1), List.length_cons, show k + 1 + us.length = k + (us.length + 1) by omega]
theorem ents_len : ∀ (US : List Ut) (k : Nat), (ents US k).length = US.length
  | [], k => rfl
  | v :: us, k => by show (ents us (k + 1)).length + 1 = us.length + 1; rw [ents_len us (k + 1)]
theorem mp_snoc {w : World} {r : Nat} {US : List Ut} (u : Ut) (h : w.heap[r]? = some (.map ((ents US 0).toArray.push ⟨.string ⟨u.nm.toArray⟩, uv u, US.length⟩) (US.length + 1))) : Mp w r (US ++ [u]) := by
  unfold Mp
  rw [ents_snoc, h, Nat.zero_add]
  simp
theorem run_lenM {P : Program} {t K E : TypeId} (ht : P.underlying t = some (.map K E)) (ty : TypeId) (w : World) (r clock : Nat) (es : Array MapEntry) (hb : w.heap[r]? = some (.map es clock)) : (Builtin.len_ #[t] ty #[.map (some r)]).run P w = .ok (.int .i64 es.size) w := by
  unfold Builtin.len_
  simp [Sem.run_bind, run_underlying ht, Result.andThen, Go.MapKept.run_getObj_map hb, goInt]
/-- a row of units -/
def Zu (w : World) (g : Nat) (US : List Ut) : Prop := g < w.heap.size ∧ ∀ (j : Nat) (u : Ut), US[j]? = some u →
  w.cell? ⟨g, j * 4, none⟩ = some (.string ⟨u.nm.toArray⟩) ∧ w.cell? ⟨g, j * 4 + 1, none⟩ = some (.int .i64 u.mul) ∧ w.cell? ⟨g, j * 4 + 2, none⟩ = some (.int .i64 u.add) ∧ w.cell? ⟨g, j * 4 + 3, none⟩ = some (.int .i64 u.div)
theorem Zu.bel {w w' : World} {g : Nat} {US : List Ut} (h : Zu w g US) (hb : Bel w w') : Zu w' g US :=
  ⟨by have := hb.size; have := h.1; omega, fun j u hu => by
    obtain ⟨a, b, c, d⟩ := h.2 j u hu
    exact ⟨hb.kp a, hb.kp b, hb.kp c, hb.kp d⟩⟩
theorem look_none {US : List Ut} {n : List UInt8} (h : n ∉ US.map (·.nm)) : look US n = none := by
  unfold look
  rw [List.find?_eq_none]
  intro u hu e
  exact h (by rw [← beq_iff_eq.1 e]; exact List.mem_map_of_mem hu)
def IdxR (US : List Ut) (w : World) (e : Ending) (w' : World) : Prop := ∃ r, e = .returned (.tuple #[.map (some r), .int .i64 0]) ∧ w.heap.size ≤ r ∧ Mp w' r US ∧ Bel w w'
set_option maxHeartbeats 4000000 in
set_option maxRecDepth 100000 in
theorem index_any (s : ByteArray) (hs : s.size ≤ 16384) (US : List Ut) (hU : ∀ u ∈ US, GoodU u) (hN : (US.map (·.nm)).Nodup) (n c g : Nat) (hn : US.length = n) (h16 : n ≤ 16) (w : World) (hZ : Zu w g US) :
    Calls Tryz.prog 57 #[.string s, .slice (some ⟨g, 0, none⟩) n c] w (IdxR US w) := by
  have s1 : ¬ (16384 : Int) < (s.size : Int) := by omega
  have n1 : ¬ (16 : Int) < (n : Int) := by omega
  have n2 : (n : Int) ≤ 16 := by omega
  have hmm := @run_makeMap Tryz.prog
  have HZ := Lib.hid hZ
  have HL := Lib.hid hn
  have HG := Lib.hid hU
  have HN := Lib.hid hN
  clear hZ hn hU hN
  go_enter Tryz.func57, Tryz.ntmps57
  go_wp2
  go_loopw [20] (fun s20 wr => ∃ (k : Nat) (V : World), V = wr ∧ k ≤ n ∧ s20 = .int .i64 (k : Int) ∧ Mp wr w.heap.size (US.take k) ∧ Bel w wr) (fun s20 _ => n - (intOf s20).toNat)
  case atStart => exact ⟨0, _, rfl, by omega, rfl, (Go.MapKept.heap_alloc w (.map #[] 0)).1, Bel.rf.al _⟩
  case round =>
    obtain ⟨k, wr, hwr, hk, rfl, hM, hb⟩ := hrel
    subst hwr
    rcases Nat.lt_or_ge k n with hlt | hge
    · obtain ⟨u, hu⟩ : ∃ u, US[k]? = some u := ⟨_, List.getElem?_eq_getElem (by rw [HL.out]; exact hlt)⟩
      have ht : US.take (k + 1) = US.take k ++ [u] := by rw [List.take_add_one, hu]; rfl
      have hfresh : u.nm ∉ (US.take k).map (·.nm) := by
        have h1 : ((US.take (k + 1)).map (·.nm)).Nodup := by
          rw [List.map_take]
          exact List.Nodup.sublist (List.take_sublist _ _) HN.out
        rw [ht, List.map_append, List.map_cons, List.map_nil] at h1
        have := (List.nodup_append.1 h1).2.2
        intro hm
        exact this _ hm _ (by simp) rfl
      have hlen : (US.take k).length = k := by rw [List.length_take, HL.out]; omega
      obtain ⟨c1, c2, c3, c4⟩ := (HZ.out.bel hb).2 k u hu
      obtain ⟨g1, g2, g3, g4, g5, g6, g7⟩ := HG.out u (List.mem_of_getElem? hu)
      have hfd := (find_ents u.nm (US.take k) 0 0).1 (look_none hfresh)
      have HFD := Lib.hid hfd
      have HT := Lib.hid ht
      have HLN := Lib.hid hlen
      obtain ⟨nm, mul, add, div⟩ := u
      have HV : Hid (∀ w, Calls Tryz.prog 80 #[.agg #[.string ⟨nm.toArray⟩, .int .i64 mul, .int .i64 add, .int .i64 div]] w fun e w' => e = .returned (.bool true) ∧ Bel w w') := fun w => unit_yes _ _ _ _ g1 g2 g3 g4 g5 g6 g7 w
      have HM := Lib.hid hM
      have HB := Lib.hid hb
      have ki : (k : Int) < (n : Int) := by omega
      have sz := hb.size
      have hlw := HM.out.lt
      clear hfd ht hlen hfresh hu g1 g2 g3 g4 g5 g6 g7 hM hb
      go_wp2_with fail
      go_at_call 80
      refine (HV.out _).mono ?_
      rintro e w2 ⟨rfl, hb2⟩
      have kU : Bk w2 wr.heap.size 65 #[.string ⟨nm.toArray⟩, .int .i64 mul, .int .i64 add, .int .i64 div] := (Bk.nw wr _ _).bel hb2
      have d0 : w2.cell? ⟨wr.heap.size, 0, none⟩ = some (.string ⟨nm.toArray⟩) := by rw [kU.cell]; rfl
      have d1 : w2.cell? ⟨wr.heap.size, 1, none⟩ = some (.int .i64 mul) := by rw [kU.cell]; rfl
      have d2 : w2.cell? ⟨wr.heap.size, 2, none⟩ = some (.int .i64 add) := by rw [kU.cell]; rfl
      have d3 : w2.cell? ⟨wr.heap.size, 3, none⟩ = some (.int .i64 div) := by rw [kU.cell]; rfl
      have hM2 := Lib.hid ((HM.out.bel (Bel.rf.al _)).bel hb2)
      go_wp2_with (refine wpList_insertS _ rfl 94 9 65 Tryz.underlying94 Tryz.underlying9 _ _ _ rfl w.heap.size _ _ ⟨nm.toArray⟩ (uv ⟨nm, mul, add, div⟩) rfl rfl rfl hM2.out HFD.out ?_; intro w3 hp3 hc3)
      go_roundw
      case rel => exact ⟨k + 1, _, rfl, by omega, by go_num, by rw [HT.out]; exact mp_snoc _ hp3, Bel.ch ((HB.out.al _).tr hb2) hc3 (Nat.le_refl _)⟩
      case measure => simp [intOf]; omega
    · obtain rfl : k = n := by omega
      have hM' : Mp wr w.heap.size US := by rwa [List.take_of_length_le (by rw [HL.out]; exact Nat.le_refl _)] at hM
      have hM2 := hM'
      unfold Mp at hM2
      have hln := run_lenM Tryz.underlying94 3 wr w.heap.size _ _ hM2
      rw [show (ents US 0).toArray.size = k by rw [List.size_toArray, ents_len, HL.out]] at hln
      have HM := Lib.hid (And.intro hM' hb)
      clear hM hM' hb
      go_wp2
      go_ret2
      exact ⟨w.heap.size, rfl, Nat.le_refl _, HM.out.1, HM.out.2⟩
end Go.Proofs.YtpbnabibnkohdaaGreatDoor.Rt
namespace Go.Proofs.YtpbnabibnkohdaaGreatDoor.Rt
open Go.ChangeShapes Go.WideShapes Go.RowKit Wo Un Rg Go.MapKept Sr
open Rm (Rp tm vl)
set_option linter.unusedVariables false
def thrown (n er : Int) (r : Bool) : PanicEntry := { v := .iface 92 (.agg #[.int .i64 n, .int .i64 er]), recovered := r }
theorem assert_fault (v : Value) (w : World) : (Instr.typeAssert (.iface 92 v) 20 92 true).run Tryz.prog w = .ok (.tuple #[v, .bool true]) w := by
  unfold Instr.typeAssert
  simp [Sem.run_bind, run_underlying Tryz.underlying92, Result.andThen]
def CW (b : Nat) (n er : Int) (v0 l0 e0 : Value) (w : World) (x1 x2 x3 : Bool) (W : World) : Prop :=
  Bk W b 61 #[if x1 = true then .slice none 0 0 else v0] ∧ Bk W (b + 1) 3 #[if x2 = true then .int .i64 n else l0] ∧ Bk W (b + 2) 28 #[if x3 = true then .int .i64 er else e0] ∧ Below b w W
variable {b : Nat} {n er : Int} {v0 l0 e0 : Value} {w W : World} {x1 x2 x3 : Bool}
theorem cw_in (h1 : Bk w b 61 #[v0]) (h2 : Bk w (b + 1) 3 #[l0]) (h3 : Bk w (b + 2) 28 #[e0]) : CW b n er v0 l0 e0 w false false false w := ⟨h1, h2, h3, Below.refl _ _⟩
theorem cw_out (h : CW b n er v0 l0 e0 w true true true W) : Bk W b 61 #[.slice none 0 0] ∧ Bk W (b + 1) 3 #[.int .i64 n] ∧ Bk W (b + 2) 28 #[.int .i64 er] ∧ Below b w W := h
theorem cw_drw (h : CW b n er v0 l0 e0 w x1 x2 x3 W) : CW b n er v0 l0 e0 w x1 x2 x3 W.drew := ⟨h.1.drw, h.2.1.drw, h.2.2.1.drw, Below.drew h.2.2.2⟩
theorem cw_al {o : Obj} (h : CW b n er v0 l0 e0 w x1 x2 x3 W) : CW b n er v0 l0 e0 w x1 x2 x3 (W.alloc o) := ⟨h.1.al _, h.2.1.al _, h.2.2.1.al _, Below.alloc h.2.2.2 (by have := h.1.lt; omega) _⟩
theorem cw_1 (h : CW b n er v0 l0 e0 w x1 x2 x3 W) : CW b n er v0 l0 e0 w true x2 x3 (W.setCell ⟨b, 0, none⟩ (.slice none 0 0)) := ⟨h.1.st 0 _, h.2.1.far (by show b + 1 ≠ b; omega) _, h.2.2.1.far (by show b + 2 ≠ b; omega) _, Below.setCell h.2.2.2 (by show b ≤ b; omega) _⟩
theorem cw_2 (h : CW b n er v0 l0 e0 w x1 x2 x3 W) : CW b n er v0 l0 e0 w x1 true x3 (W.setCell ⟨b + 1, 0, none⟩ (.int .i64 n)) := ⟨h.1.far (by show b ≠ b + 1; omega) _, h.2.1.st 0 _, h.2.2.1.far (by show b + 2 ≠ b + 1; omega) _, Below.setCell h.2.2.2 (by show b ≤ b + 1; omega) _⟩
theorem cw_3 (h : CW b n er v0 l0 e0 w x1 x2 x3 W) : CW b n er v0 l0 e0 w x1 x2 true (W.setCell ⟨b + 2, 0, none⟩ (.int .i64 er)) := ⟨h.1.far (by show b ≠ b + 2; omega) _, h.2.1.far (by show b + 1 ≠ b + 2; omega) _, h.2.2.1.st 0 _, Below.setCell h.2.2.2 (by show b ≤ b + 2; omega) _⟩
theorem st1 {w : World} {g : Nat} {t : TypeId} {a u : Value} (h : Bk w g t #[a]) : Bk (w.setCell ⟨g, 0, none⟩ u) g t #[u] := h.st 0 u
theorem wpS_by {P : Program} {c : Code} {Q : Exit → Act → List Frame → World → Prop} {a : Act} {cs : List Frame} {w : World} (K : Exit → Act → World → Prop) (h : ∀ K', K' = K → c.wp P K' a w) (hK : ∀ e a' w', K e a' w' → Q e a' cs w') : c.wpS P Q a cs w :=
  fun b k _ _ => let ⟨e, a', w', q, r⟩ := h K rfl b k cs; ⟨e, a', cs, w', hK _ _ _ q, r⟩
theorem catch_idle (p q r : Option Addr) (w : World) :
    CallsD Tryz.prog 56 #[.pointer p, .pointer q, .pointer r] .returning w fun e u' w' => e = .returned (.tuple #[]) ∧ u' = .returning ∧ w' = w := by
  refine callsD_of_wpS Tryz.func56 rfl fun c₀ cs hu => ?_
  apply wpS_seq
  apply wpS_region
  simp [wpOpsS, go_sem, recoverD, hu, Tryz.ntmps56, Exit.thenS]
  apply wpS_seq
  apply wpS_region
  simp [wpOpsS, go_sem, recoverD, hu, Exit.thenS]
  refine wpS_cond (t := false) (by simp [Act.eval, Array.replicate]) ?_
  simp only [Bool.false_eq_true, if_false]
  refine wpS_of_wp (wp_skip ?_)
  cases c₀
  simp_all [bodyPostS, results, Tryz.results56]
set_option maxHeartbeats 1000000 in
theorem catch_thrown (h1 : Bk w b 61 #[v0]) (h2 : Bk w (b + 1) 3 #[l0]) (h3 : Bk w (b + 2) 28 #[e0]) :
    CallsD Tryz.prog 56 #[.pointer (some ⟨b, 0, none⟩), .pointer (some ⟨b + 1, 0, none⟩), .pointer (some ⟨b + 2, 0, none⟩)] (.panicking (thrown n er false :: [])) w fun e u' w' =>
      e = .returned (.tuple #[]) ∧ u' = .panicking (thrown n er true :: []) ∧ Bk w' b 61 #[.slice none 0 0] ∧ Bk w' (b + 1) 3 #[.int .i64 n] ∧ Bk w' (b + 2) 28 #[.int .i64 er] ∧ Below b w w' := by
  refine callsD_of_wpS Tryz.func56 rfl fun c₀ cs hu => ?_
  apply wpS_seq
  apply wpS_region
  simp [wpOpsS, go_sem, recoverD, hu, thrown, Tryz.ntmps56, Exit.thenS]
  have kta := assert_fault (.agg #[.int .i64 n, .int .i64 er]) w
  apply wpS_seq
  apply wpS_region
  simp [wpOpsS, go_sem, Exit.thenS]
  refine wpS_cond (t := true) (by simp [Act.eval, Array.replicate]) ?_
  simp only [if_true]
  apply wpS_seq
  apply wpS_region
  simp [wpOpsS, go_sem, kta, Exit.thenS]
  apply wpS_seq
  apply wpS_seq
  apply wpS_region
  simp [wpOpsS, go_sem, Exit.thenS]
  refine wpS_cond (t := false) (by simp [Act.eval, Array.replicate]) ?_
  simp only [Bool.false_eq_true, if_false]
  refine wpS_of_wp (wp_skip ?_)
  simp only [Exit.thenS]
  refine wpS_by (fun e a' w' => (e = .normal ∨ e = .ret) ∧ a'.defers = [] ∧ Bk w' b 61 #[.slice none 0 0] ∧ Bk w' (b + 1) 3 #[.int .i64 n] ∧ Bk w' (b + 2) 28 #[.int .i64 er] ∧ Below b w w') ?_ ?_
  · intro K' hK'
    subst hK'
    clear hu kta
    have s1 := h1.lt
    have s2 := h2.lt
    have s3 := h3.lt
    have HCW : Hid (CW b n er v0 l0 e0 w false false false w) := cw_in h1 h2 h3
    have c1 : w.cell? ⟨b, 0, none⟩ = some v0 := by rw [h1.cell]; rfl
    have c2 : w.cell? ⟨b + 1, 0, none⟩ = some l0 := by rw [h2.cell]; rfl
    have c3 : w.cell? ⟨b + 2, 0, none⟩ = some e0 := by rw [h3.cell]; rfl
    have f1 := h1.fr 0
    have f2 := h2.fr 0
    have f3 := h3.fr 0
    clear h1 h2 h3
    go_region
    all_goals
      refine ⟨.inl rfl, rfl, cw_out (v0 := v0) (l0 := l0) (e0 := e0) ?_⟩
      repeat (first | (with_reducible refine cw_drw ?_) | (with_reducible refine cw_al ?_))
      first
        | exact cw_3 (cw_2 (cw_1 HCW.out))
        | exact cw_3 (cw_1 (cw_2 HCW.out))
        | exact cw_2 (cw_3 (cw_1 HCW.out))
        | exact cw_2 (cw_1 (cw_3 HCW.out))
        | exact cw_1 (cw_3 (cw_2 HCW.out))
        | exact cw_1 (cw_2 (cw_3 HCW.out))
  · rintro e a' w' ⟨he, hd, hx⟩
    rcases he with rfl | rfl
    · exact ⟨hd, _, rfl, .tuple #[], by simp [results, Tryz.results56], rfl, rfl, hx⟩
    · exact ⟨hd, _, rfl, .tuple #[], by simp [results, Tryz.results56], rfl, rfl, hx⟩
end Go.Proofs.YtpbnabibnkohdaaGreatDoor.Rt
namespace Go.Proofs.YtpbnabibnkohdaaGreatDoor.Rt
open Go.ChangeShapes Go.WideShapes Go.RowKit Wo Un Rg Go.MapKept Sr
open Rm (Rp tm vl)
set_option linter.unusedVariables false
/-- what Parse returns: the readings and no error, or nothing, a line and its error -/
def ParR (US : List Ut) (s : ByteArray) (w : World) (e : Ending) (w' : World) : Prop :=
  ∃ (l : List Rp) (k : Nat) (er : Int) (v : Value), run US (lns s.data.toList) 1 [] = (l, k, er) ∧ e = .returned (.tuple #[v, .int .i64 (k : Int), .int .i64 er]) ∧ w'.ownsRow w.heap.size 100 2 v l.length (rs l) ∧ Bel w w'
theorem own_base {w : World} {b1 b2 n s : Nat} {e : TypeId} {v : Value} {xs : List Value} (h : w.ownsRow b1 e s v n xs) (hb : b2 ≤ b1) : w.ownsRow b2 e s v n xs := by
  refine ⟨h.1, ?_⟩
  rcases h.2 with h' | ⟨g, c, cur, h1, h2, h3⟩
  · exact .inl h'
  · exact .inr ⟨g, c, cur, h1, Nat.le_trans hb h2, h3⟩
theorem own_st {w : World} {b1 n s : Nat} {e : TypeId} {v : Value} {xs : List Value} (h : w.ownsRow b1 e s v n xs) {p : Addr} (hp : p.block < b1) (u : Value) : (w.setCell p u).ownsRow b1 e s v n xs := by
  refine ⟨h.1, ?_⟩
  rcases h.2 with h' | ⟨g, c, cur, h1, h2, h3, h4⟩
  · exact .inl h'
  · exact .inr ⟨g, c, cur, h1, h2, (Below.heap_setCell w p u g (by omega)).trans h3, h4⟩
theorem own_bel {w w' : World} {b1 n s : Nat} {e : TypeId} {v : Value} {xs : List Value} (h : w.ownsRow b1 e s v n xs) (hb : Bel w w') : w'.ownsRow b1 e s v n xs := by
  refine ⟨h.1, ?_⟩
  rcases h.2 with h' | ⟨g, c, cur, h1, h2, h3, h4⟩
  · exact .inl h'
  · refine .inr ⟨g, c, cur, h1, h2, (Below.block hb g ?_).trans h3, h4⟩
    rcases Nat.lt_or_ge g w.heap.size with h5 | h5
    · exact h5
    · rw [Array.getElem?_eq_none h5] at h3; cases h3
theorem own_cells {w : World} {b1 n s : Nat} {e : TypeId} {v : Value} {xs : List Value} (h : w.ownsRow b1 e s v n xs) (g : Nat) (hg : v.ownBlock = some g) : ∃ cs fz, w.heap[g]? = some (.cells cs e fz) := by
  rcases h.2 with ⟨rfl, _⟩ | ⟨g', c, cur, rfl, h2, h3, _⟩
  · cases hg
  · cases hg
    exact ⟨_, _, h3⟩
theorem grown_bk {a c : World} {B n s k : Nat} {e t : TypeId} {v : Value} {xs : List Value} {cs : Array Value} (hg : a.grownBy c v.ownBlock) (ho : a.ownsRow B e s v n xs) (h : Bk a k t cs) (hk : k < B) : Bk c k t cs :=
  (hg.block k h.lt (fun e => by have := (ho.lt k e.symm).1; omega)).trans h
theorem grown_mp {a c : World} {B n s r : Nat} {e : TypeId} {v : Value} {xs : List Value} {US : List Ut} (hg : a.grownBy c v.ownBlock) (ho : a.ownsRow B e s v n xs) (h : Mp a r US) : Mp c r US :=
  (hg.block r h.lt (fun e => by
    obtain ⟨cs, fz, h1⟩ := own_cells ho r e.symm
    unfold Mp at h
    rw [h1] at h; cases h)).trans h
theorem grown_bel {w a c : World} {B n s : Nat} {e : TypeId} {v : Value} {xs : List Value} (hb : Bel w a) (hg : a.grownBy c v.ownBlock) (ho : a.ownsRow B e s v n xs) (hB : w.heap.size ≤ B) : Bel w c :=
  Below.grown hb hg hb.size (fun k hk => by have := (ho.lt k hk).1; omega)
theorem results_par (tmps : Array Value) (w : World) (b : Nat) (v : Value) (k er : Int) (h4 : tmps.getD 4 undef = .pointer (some ⟨b, 0, none⟩)) (h5 : tmps.getD 5 undef = .pointer (some ⟨b + 1, 0, none⟩)) (h6 : tmps.getD 6 undef = .pointer (some ⟨b + 1 + 1, 0, none⟩))
    (h1 : Bk w b 61 #[v]) (h2 : Bk w (b + 1) 3 #[.int .i64 k]) (h3 : Bk w (b + 2) 28 #[.int .i64 er]) :
    (results Tryz.f34 tmps).run Tryz.prog w = .ok (.tuple #[v, .int .i64 k, .int .i64 er]) w := by
  have c1 : w.cell? ⟨b, 0, none⟩ = some v := by rw [h1.cell]; rfl
  have c2 : w.cell? ⟨b + 1, 0, none⟩ = some (.int .i64 k) := by rw [h2.cell]; rfl
  have c3 : w.cell? ⟨b + 1 + 1, 0, none⟩ = some (.int .i64 er) := by rw [show b + 1 + 1 = b + 2 from rfl, h3.cell]; rfl
  have e4 : tmps[4]?.getD undef = .pointer (some ⟨b, 0, none⟩) := by simpa using h4
  have e5 : tmps[5]?.getD undef = .pointer (some ⟨b + 1, 0, none⟩) := by simpa using h5
  have e6 : tmps[6]?.getD undef = .pointer (some ⟨b + 1 + 1, 0, none⟩) := by simpa using h6
  simp [results, Tryz.results34, e4, e5, e6, go_sem, c1, c2, c3]
def szOf : Value → Nat
  | .string x => x.size
  | _ => 0
/-- the loop -/
def LoopR (US : List Ut) (s : ByteArray) (FIN : List Rp × Nat × Int) (r b : Nat) (w : World) (s0 s8 : Value) (wr : World) : Prop :=
  ∃ (x : ByteArray) (k : Nat) (acc : List Rp) (v : Value) (V : World), V = wr ∧ s0 = .string x ∧ s8 = .int .i64 (k : Int) ∧ x.size ≤ 16384 ∧ k + x.size ≤ 16385 ∧ acc.length < k ∧ acc.length ≤ 2000 ∧ run US (lns x.data.toList) k acc = FIN ∧ wr.ownsRow (b + 3) 100 2 v acc.length (rs acc) ∧
    Bk wr b 61 #[v] ∧ Bk wr (b + 1) 3 #[.int .i64 0] ∧ Bk wr (b + 2) 28 #[.int .i64 0] ∧ Mp wr r US ∧ Bel w wr ∧ b + 3 ≤ wr.heap.size
set_option maxHeartbeats 4000000 in
set_option maxRecDepth 100000 in
theorem parse_go (s : ByteArray) (hs : s.size ≤ 16384) (US : List Ut) (hU : ∀ u ∈ US, GoodU u) (hN : (US.map (·.nm)).Nodup) (n c g : Nat) (hn : US.length = n) (h16 : n ≤ 16) (w : World) (hZ : Zu w g US) (hPW : Pows w) :
    Calls Tryz.prog 34 #[.string s, .slice (some ⟨g, 0, none⟩) n c] w (ParR US s w) := by
  have hmf : ∀ (fn : Fn) (first cap : Array Value) (w : World), (Instr.makeFunc fn first cap).run Tryz.prog w = .ok (.func fn first cap) w := fun _ _ _ _ => rfl
  obtain ⟨FIN, hF⟩ : ∃ F, run US (lns s.data.toList) 1 [] = F := ⟨_, rfl⟩
  have HF := Lib.hid hF
  have HX := Lib.hid (index_any s hs US hU hN n c g hn h16)
  have HL := Lib.hid (fun (C : ByteArray) (hC : C.size ≤ 20000) (r : Nat) (W : World) (hM : Mp W r US) (hp : Pows W) => line_any C hC US hU r W hM hp)
  have HZ := Lib.hid hZ
  have HP := Lib.hid hPW
  clear hF hU hN hn hZ hPW
  go_enter_defers Tryz.func34, Tryz.ntmps34
  go_wp2_with fail
  go_at_call 57
  refine (HX.out _ (((HZ.out.bel (Bel.rf.al _)).bel (Bel.rf.al _)).bel (Bel.rf.al _))).mono ?_
  rintro e w1 ⟨r, rfl, hr, hM, hb⟩
  have hbw : Bel w w1 := (((Bel.rf.al _).al _).al _).tr hb
  have b0 : Bk w1 w.heap.size 61 #[.slice none 0 0] := Bk.bel (((Bk.nw w _ _).al _).al _) hb
  have b1 : Bk w1 (w.heap.size + 1) 3 #[.int .i64 0] := Bk.bel ((Bk.nq (w.alloc _) _ _ (by simp)).al _) hb
  have b2 : Bk w1 (w.heap.size + 1 + 1) 28 #[.int .i64 0] := Bk.bel (Bk.nq ((w.alloc _).alloc _) _ _ (by simp)) hb
  have c2 : w1.cell? ⟨w.heap.size + 1 + 1, 0, none⟩ = some (.int .i64 0) := by rw [b2.cell]; rfl
  have f2 := b2.fr 0
  have lt2 := b2.lt
  have HS : Hid (LoopR US s FIN r w.heap.size w (.string s) (.int .i64 1) (w1.setCell ⟨w.heap.size + 1 + 1, 0, none⟩ (.int .i64 0))) :=
    ⟨s, 1, [], .slice none 0 0, _, rfl, rfl, rfl, hs, by omega, by simp, by simp, HF.out, World.ownsRow_nil _ _ _ _, b0.far (by show w.heap.size ≠ w.heap.size + 1 + 1; omega) _, b1.far (by show w.heap.size + 1 ≠ w.heap.size + 1 + 1; omega) _, b2.st 0 _, (Below.heap_setCell w1 ⟨w.heap.size + 1 + 1, 0, none⟩ _ r (by show r ≠ w.heap.size + 1 + 1; simp at hr; omega)).trans hM, hbw.st (by show _ ≤ w.heap.size + 1 + 1; omega) _, by simp; omega⟩
  have HRS : Hid (w.heap.size + 3 ≤ r) := by simp at hr; exact hr
  clear hM hb hbw b0 b1 b2 hr
  go_wp2
  go_loopw [0, 8] (fun s0 s8 wr => LoopR US s FIN r w.heap.size w s0 s8 wr) (fun s0 _ _ => szOf s0)
  case atStart => exact HS.out
  case round =>
    clear HS
    obtain ⟨x, k, acc, v, wr, hwr, rfl, rfl, hx, hkx, hak, ha2, hrun, hown, b0, b1, b2, hM, hb, hsz⟩ := hrel
    subst hwr
    obtain ⟨A, cc, rfl, hZr⟩ := own_zr hown rfl
    obtain ⟨q, hq⟩ : ∃ q, acc.length = q := ⟨_, rfl⟩
    rw [hq] at hown b0 hak ha2 hZr
    have c0 : wr.cell? ⟨w.heap.size, 0, none⟩ = some (.slice A q cc) := by rw [b0.cell]; rfl
    have c1 : wr.cell? ⟨w.heap.size + 1, 0, none⟩ = some (.int .i64 0) := by rw [b1.cell]; rfl
    have c2 : wr.cell? ⟨w.heap.size + 1 + 1, 0, none⟩ = some (.int .i64 0) := by rw [show w.heap.size + 1 + 1 = w.heap.size + 2 from rfl, b2.cell]; rfl
    have f0 := b0.fr 0
    have f1 := b1.fr 0
    have f2 : wr.frozen? ⟨w.heap.size + 1 + 1, 0, none⟩ = false := b2.fr 0
    have lt0 := b0.lt
    have lt1 := b1.lt
    have lt2 : w.heap.size + 1 + 1 < wr.heap.size := b2.lt
    have HQ := Lib.hid hq
    have HO := Lib.hid hown
    have HB0 := Lib.hid b0
    have HB1 := Lib.hid b1
    have HB2 := Lib.hid b2
    have HM := Lib.hid hM
    have HB := Lib.hid hb
    have HRN := Lib.hid hrun
    clear hq hown b0 b1 b2 hM hb hrun hZr
    rcases Nat.eq_zero_or_pos x.size with h0 | h0
    · have xl : x.data.toList = [] := List.length_eq_zero_iff.1 (by rw [← Lib.size_eq]; exact h0)
      have HFIN : Hid (FIN = (acc, 0, 0)) := by
        have := HRN.out
        rw [xl, lns_nil] at this
        exact this.symm
      have e0 : x.toList = [] := by rw [Lib.toList_data]; exact xl
      have e1 : x.toList.isEmpty = true := by rw [e0]; rfl
      clear xl
      go_wp2
      refine leaves_cons (f := 56) (args := #[.pointer (some ⟨w.heap.size, 0, none⟩), .pointer (some ⟨w.heap.size + 1, 0, none⟩), .pointer (some ⟨w.heap.size + 1 + 1, 0, none⟩)]) (by simp) (by simp [go_sem]) ?_
      refine (catch_idle _ _ _ _).mono ?_
      rintro e u' w'' ⟨rfl, rfl, rfl⟩
      exact ⟨_, results_par _ _ w.heap.size (.slice A q cc) 0 0 rfl rfl rfl (((HB0.out.st 0 _).far (by show w.heap.size ≠ w.heap.size + 1; omega) _).far (by show w.heap.size ≠ w.heap.size + 1 + 1; omega) _) (((HB1.out.far (by show w.heap.size + 1 ≠ w.heap.size; omega) _).st 0 _).far (by show w.heap.size + 1 ≠ w.heap.size + 1 + 1; omega) _) (((HB2.out.far (by show w.heap.size + 2 ≠ w.heap.size; omega) _).far (by show w.heap.size + 2 ≠ w.heap.size + 1; omega) _).st 0 _),
        acc, 0, 0, .slice A q cc, HF.out.trans HFIN.out, rfl, by rw [HQ.out]; exact own_base (own_st (own_st (own_st HO.out (by show w.heap.size < w.heap.size + 3; omega) _) (by show w.heap.size + 1 < w.heap.size + 3; omega) _) (by show w.heap.size + 1 + 1 < w.heap.size + 3; omega) _) (by omega),
        ((HB.out.st (by show w.heap.size ≤ w.heap.size; omega) _).st (by show w.heap.size ≤ w.heap.size + 1; omega) _).st (by show w.heap.size ≤ w.heap.size + 1 + 1; omega) _⟩
    · have xne : x.data.toList ≠ [] := fun e => by rw [Lib.size_eq, e] at h0; simp at h0
      have e0 : x.toList.isEmpty = false := by rw [Lib.toList_data]; cases hq : x.data.toList with | nil => exact absurd hq xne | cons c l => rfl
      have e1 : (x.toList == []) = false := by rw [Lib.toList_data]; cases hq : x.data.toList with | nil => exact absurd hq xne | cons c l => rfl
      obtain ⟨bf, hcut⟩ := cutN_any x (by omega)
      have hCs := cutN_le x.data.toList
      have hDs := cutN_lt x.data.toList xne
      have hln := HRN.out
      rw [lns_ne _ xne] at hln
      obtain ⟨C, hC⟩ : ∃ C : ByteArray, (⟨(cutN x.data.toList).1.toArray⟩ : ByteArray) = C := ⟨_, rfl⟩
      obtain ⟨D, hD⟩ : ∃ D : ByteArray, (⟨(cutN x.data.toList).2.toArray⟩ : ByteArray) = D := ⟨_, rfl⟩
      rw [hC, hD] at hcut
      have hCd : C.data.toList = (cutN x.data.toList).1 := by rw [← hC]
      have hDd : D.data.toList = (cutN x.data.toList).2 := by rw [← hD]
      rw [← hCd, ← hDd] at hln
      rw [← hCd] at hCs
      rw [← hDd] at hDs
      rw [← Lib.size_eq, ← Lib.size_eq] at hCs hDs
      have HC := Lib.hid hcut
      have ksz : (k : Int) ≤ 16385 := by omega
      clear hcut hC hD hCd hDd xne HRN
      go_wp2_with fail
      go_at_call 58
      refine (HC.out _).mono ?_
      rintro e w2 ⟨rfl, hb2⟩
      have HO2 := Lib.hid (own_bel HO.out hb2)
      have HB02 := Lib.hid (HB0.out.bel hb2)
      have HB12 := Lib.hid (HB1.out.bel hb2)
      have HB22 := Lib.hid (HB2.out.bel hb2)
      have HM2 := Lib.hid (HM.out.bel hb2)
      have HBB2 := Lib.hid (HB.out.tr hb2)
      clear HO HB0 HB1 HB2 HM HB c0 c1 c2 f0 f1 f2 lt0 lt1 lt2 hb2
      have HO := HO2
      have HB0 := HB02
      have HB1 := HB12
      have HB2 := HB22
      have HM := HM2
      have HB := HBB2
      clear HO2 HB02 HB12 HB22 HM2 HBB2
      have c0 : w2.cell? ⟨w.heap.size, 0, none⟩ = some (.slice A q cc) := by rw [HB0.out.cell]; rfl
      have c1 : w2.cell? ⟨w.heap.size + 1, 0, none⟩ = some (.int .i64 0) := by rw [HB1.out.cell]; rfl
      have c2 : w2.cell? ⟨w.heap.size + 1 + 1, 0, none⟩ = some (.int .i64 0) := by rw [show w.heap.size + 1 + 1 = w.heap.size + 2 from rfl, HB2.out.cell]; rfl
      have f0 := HB0.out.fr 0
      have f1 := HB1.out.fr 0
      have f2 : w2.frozen? ⟨w.heap.size + 1 + 1, 0, none⟩ = false := HB2.out.fr 0
      have lt0 := HB0.out.lt
      have lt1 := HB1.out.lt
      have lt2 : w.heap.size + 1 + 1 < w2.heap.size := HB2.out.lt
      rcases Nat.eq_zero_or_pos C.size with g0 | g0
      · have cl : C.data.toList = [] := List.length_eq_zero_iff.1 (by rw [← Lib.size_eq]; exact g0)
        have HFN : Hid (run US (lns D.data.toList) (k + 1) acc = FIN) := by
          have := hln
          rw [run_skip US _ _ _ _ (.inl cl)] at this
          exact this
        have HS2 : Hid (LoopR US s FIN r w.heap.size w (.string D) (.int .i64 ((k + 1 : Nat) : Int)) w2) :=
          ⟨D, k + 1, acc, .slice A q cc, _, rfl, rfl, rfl, by omega, by omega, by have := HQ.out; omega, by have := HQ.out; omega, HFN.out, by rw [HQ.out]; exact HO.out, HB0.out, HB1.out, HB2.out, HM.out, HB.out, by have := HB2.out.lt; omega⟩
        have q0 : C.toList = [] := by rw [Lib.toList_data]; exact cl
        have q1 : C.toList.isEmpty = true := by rw [q0]; rfl
        clear cl hln
        go_wp2
        go_roundw
        case rel => exact HS2.out
        case measure => simp [szOf]; omega
      · obtain ⟨ch, rest, hl⟩ : ∃ c rest, C.data.toList = c :: rest := by
          rcases hq : C.data.toList with _ | ⟨c, rest⟩
          · rw [Lib.size_eq, hq] at g0; simp at g0
          · exact ⟨c, rest, rfl⟩
        have h00 : C[0] = ch := by
          have : C.data.toList[0]? = some ch := by rw [hl]; rfl
          have e2 : C.data.toList[0]? = some C[0] := by rw [Array.getElem?_toList]; exact Array.getElem?_eq_getElem _
          rw [e2] at this
          exact Option.some.inj this
        have q0 : C.toList.isEmpty = false := by rw [Lib.toList_data, hl]; rfl
        have q1 : (C.toList == []) = false := by rw [Lib.toList_data, hl]; rfl
        have q2 : (0 : Int) < (C.size : Int) := by omega
        rcases Classical.em (ch.toNat = 35) with h35 | h35
        · have c35 : ((ch.toNat : Int) == 35) = true := by simpa using (by omega : (ch.toNat : Int) = 35)
          have d35 : (ch.toNat : Int) = 35 := by omega
          have hch : ch = 35 := UInt8.toNat_inj.1 (by simpa using h35)
          have HFN : Hid (run US (lns D.data.toList) (k + 1) acc = FIN) := by
            have := hln
            rw [run_skip US _ _ _ _ (.inr (by rw [hl, hch]; rfl))] at this
            exact this
          have HS2 : Hid (LoopR US s FIN r w.heap.size w (.string D) (.int .i64 ((k + 1 : Nat) : Int)) w2) :=
            ⟨D, k + 1, acc, .slice A q cc, _, rfl, rfl, rfl, by omega, by omega, by have := HQ.out; omega, by have := HQ.out; omega, HFN.out, by rw [HQ.out]; exact HO.out, HB0.out, HB1.out, HB2.out, HM.out, HB.out, by have := HB2.out.lt; omega⟩
          clear hln hch
          go_wp2
          go_roundw
          case rel => exact HS2.out
          case measure => simp [szOf]; omega
        · have c35 : ((ch.toNat : Int) == 35) = false := by simpa using (by omega : ¬ (ch.toNat : Int) = 35)
          have d35 : ¬ (ch.toNat : Int) = 35 := by omega
          have hno : ¬ (C.data.toList = [] ∨ C.data.toList.head? = some 35) := by
            rw [hl]
            rintro (h | h)
            · cases h
            · cases h; exact h35 rfl
          obtain ⟨⟨⟨t, v⟩, er⟩, hls⟩ : ∃ p, lineS US C.data.toList = p := ⟨_, rfl⟩
          have HLC := Lib.hid (HL.out C (by omega) r w2 HM.out (HP.out.bel HB.out))
          have HLN := Lib.hid (And.intro hln (And.intro hno hls))
          clear hln hno
          go_wp2_with fail
          go_at_call 59
          refine HLC.out.mono ?_
          rintro e w3 ⟨he, hb3⟩
          rw [hls] at he
          have he2 : e = .returned (.tuple #[.agg #[.int .i64 t, .int .i64 v], .int .i64 er]) := he
          clear he
          subst he2
          clear hls HLC
          have HO3 := Lib.hid (own_bel HO.out hb3)
          have HB03 := Lib.hid (HB0.out.bel hb3)
          have HB13 := Lib.hid (HB1.out.bel hb3)
          have HB23 := Lib.hid (HB2.out.bel hb3)
          have HM3 := Lib.hid (HM.out.bel hb3)
          have HBB3 := Lib.hid (HB.out.tr hb3)
          clear HO HB0 HB1 HB2 HM HB c0 c1 c2 f0 f1 f2 lt0 lt1 lt2 hb3
          have HO := HO3
          have HB0 := HB03
          have HB1 := HB13
          have HB2 := HB23
          have HM := HM3
          have HB := HBB3
          clear HO3 HB03 HB13 HB23 HM3 HBB3
          have c0 : w3.cell? ⟨w.heap.size, 0, none⟩ = some (.slice A q cc) := by rw [HB0.out.cell]; rfl
          have c1 : w3.cell? ⟨w.heap.size + 1, 0, none⟩ = some (.int .i64 0) := by rw [HB1.out.cell]; rfl
          have c2 : w3.cell? ⟨w.heap.size + 1 + 1, 0, none⟩ = some (.int .i64 0) := by rw [show w.heap.size + 1 + 1 = w.heap.size + 2 from rfl, HB2.out.cell]; rfl
          have f0 := HB0.out.fr 0
          have f1 := HB1.out.fr 0
          have f2 : w3.frozen? ⟨w.heap.size + 1 + 1, 0, none⟩ = false := HB2.out.fr 0
          have lt0 := HB0.out.lt
          have lt1 := HB1.out.lt
          have lt2 : w.heap.size + 1 + 1 < w3.heap.size := HB2.out.lt
          rcases Classical.em (er = 0) with her | her
          · subst her
            rcases Classical.em (q = 2000) with h2 | h2
            · subst h2
              have HFIN : Hid (FIN = ([], k, 4)) := by
                have := HLN.out
                rw [run_full US _ _ _ _ this.2.1 (by rw [this.2.2]) HQ.out] at this
                exact this.1.symm
              go_wp2
              refine leaves_cons (f := 56) (args := #[.pointer (some ⟨w.heap.size, 0, none⟩), .pointer (some ⟨w.heap.size + 1, 0, none⟩), .pointer (some ⟨w.heap.size + 1 + 1, 0, none⟩)]) (by simp) (by simp [go_sem]) ?_
              refine (catch_thrown (n := (k : Int)) (er := 4) (HB0.out.al _) (HB1.out.al _) (HB2.out.al _)).mono ?_
              rintro e u' w'' ⟨rfl, rfl, k0, k1, k2, kb⟩
              exact ⟨_, results_par _ _ w.heap.size _ (k : Int) 4 rfl rfl rfl k0 k1 k2, [], k, 4, .slice none 0 0, HF.out.trans HFIN.out, rfl, World.ownsRow_nil _ _ _ _, Below.trans (HB.out.al _) kb⟩
            · have kq : ((q : Int) == 2000) = false := by simp; omega
              have kq2 : ¬ (q : Int) = 2000 := by omega
              have HFN : Hid (run US (lns D.data.toList) (k + 1) (acc ++ [(t, v)]) = FIN) := by
                have := HLN.out
                rw [run_good US _ _ _ _ this.2.1 (by rw [this.2.2]) (by rw [HQ.out]; exact h2), this.2.2] at this
                exact this.1
              have WA := Lib.hid (own_bel HO.out ((Bel.rf.al (.cells #[.int .i64 t, .int .i64 v] 100)).al (.cells #[.int .i64 t, .int .i64 v] 100)))
              have d0 : ∀ o, (w3.alloc o).cell? ⟨w.heap.size, 0, none⟩ = some (.slice A q cc) := fun o => kp_al c0 o
              clear HLN
              go_wp2_with (at_builtin; refine list_appr _ rfl (.tmp 58) (.tmp 60) rfl (w.heap.size + 3) (.slice A q cc) q acc rfl WA.out (w3.heap.size + 1) 1 (t, v) rfl (Bk.nq _ _ _ (by simp)) (by omega) (by simp; omega) ?_; intro v9 w9 h9 hg9 hat9; obtain ⟨A9, c9, rfl, hz9⟩ := own_zr h9 (by rw [List.length_append, HQ.out, List.length_singleton]); have B9 := grown_bk hg9 WA.out ((HB0.out.al _).al _) (by omega); have e9 : w9.cell? ⟨w.heap.size, 0, none⟩ = some (.slice A q cc) := (by rw [B9.cell]; rfl); have f9 := B9.fr 0; have l9 := B9.lt)
              have HS2 : Hid (LoopR US s FIN r w.heap.size w (.string D) (.int .i64 ((k + 1 : Nat) : Int)) (w9.setCell ⟨w.heap.size, 0, none⟩ (.slice A9 (q + 1) c9))) :=
                ⟨D, k + 1, acc ++ [(t, v)], .slice A9 (q + 1) c9, _, rfl, rfl, rfl, by omega, by omega, by rw [List.length_append, HQ.out, List.length_singleton]; omega, by rw [List.length_append, HQ.out, List.length_singleton]; omega, HFN.out, by rw [List.length_append, HQ.out, List.length_singleton]; exact own_st h9 (by show w.heap.size < w.heap.size + 3; omega) _, B9.st 0 _, (grown_bk hg9 WA.out ((HB1.out.al _).al _) (by omega)).far (by show w.heap.size + 1 ≠ w.heap.size; omega) _, (grown_bk hg9 WA.out ((HB2.out.al _).al _) (by omega)).far (by show w.heap.size + 2 ≠ w.heap.size; omega) _, (Below.heap_setCell w9 ⟨w.heap.size, 0, none⟩ _ r (by show r ≠ w.heap.size; have := HRS.out; omega)).trans (grown_mp hg9 WA.out ((HM.out.bel (Bel.rf.al _)).bel (Bel.rf.al _))), (grown_bel ((HB.out.al _).al _) hg9 WA.out (by omega)).st (by show _ ≤ w.heap.size; omega) _, by
                  have := hg9.size
                  simp at this ⊢
                  omega⟩
              go_wp2
              go_roundw
              case rel => exact HS2.out
              case measure => simp [szOf]; omega
          · have k1 : (er == 0) = false := by simpa using her
            have k2 : (er != 0) = true := by simpa using her
            have HFIN : Hid (FIN = ([], k, er)) := by
              have := HLN.out
              rw [run_bad US _ _ _ _ this.2.1 (by rw [this.2.2]; exact her), this.2.2] at this
              exact this.1.symm
            go_wp2
            refine leaves_cons (f := 56) (args := #[.pointer (some ⟨w.heap.size, 0, none⟩), .pointer (some ⟨w.heap.size + 1, 0, none⟩), .pointer (some ⟨w.heap.size + 1 + 1, 0, none⟩)]) (by simp) (by simp [go_sem]) ?_
            refine (catch_thrown (n := (k : Int)) (er := er) (HB0.out.al _) (HB1.out.al _) (HB2.out.al _)).mono ?_
            rintro e u' w'' ⟨rfl, rfl, k0, k1, k2, kb⟩
            exact ⟨_, results_par _ _ w.heap.size _ (k : Int) er rfl rfl rfl k0 k1 k2, [], k, er, .slice none 0 0, HF.out.trans HFIN.out, rfl, World.ownsRow_nil _ _ _ _, Below.trans (HB.out.al _) kb⟩
end Go.Proofs.YtpbnabibnkohdaaGreatDoor.Rt
namespace Go.Proofs.YtpbnabibnkohdaaGreatDoor.Cd
open Go.ChangeShapes Go.WideShapes Go.RowKit Wo Bm By
set_option linter.unusedVariables false
theorem fits_yes (n : Nat) (k : Nat) (hn : n < 2 ^ k) (hk : k ≤ 32) (w : World) : Calls Tryz.prog 213 #[.int .i64 (n : Int), .int .i64 (k : Int)] w fun e w' => e = .returned (.bool true) ∧ w = w' := by
  have hz : (n : Int) / 2 ^ k = 0 := by
    rw [show (2 : Int) ^ k = ((2 ^ k : Nat) : Int) by simp]
    have : n / 2 ^ k = 0 := Nat.div_eq_of_lt hn
    rw [← Int.natCast_ediv, this]; rfl
  have ki : (k : Int) ≤ 32 := by omega
  have k0 : (0 : Int) ≤ (k : Int) := by omega
  have n0 : (0 : Int) ≤ (n : Int) := by omega
  go_enter Tryz.func213, Tryz.ntmps213
  go_wp2
  go_ret
  exact ⟨rfl, rfl⟩
/-- the slice at A of length n reads as the numbers L -/
def Ri (w : World) (A : Option Addr) (n : Nat) (L : List Nat) : Prop := L.length = n ∧ (0 < n → ∃ ad : Addr, A = some ad ∧ ad.block < w.heap.size ∧ ∀ j, j < n → w.cell? (ad.add j) = some (.int .i64 (L.getD j 0 : Nat)))
def wd (L : List Nat) : Nat := L.foldl (fun m n => max m (Lib.bitLen n)) 0
theorem wd_snoc (L : List Nat) (n : Nat) : wd (L ++ [n]) = max (wd L) (Lib.bitLen n) := by simp [wd, List.foldl_append]
theorem bl_le (n : Nat) (h : n < 4294967296) : Lib.bitLen n ≤ 32 := by
  have hb := Lib.bitLenAux_bounds 64 n (by omega)
  rcases Nat.eq_zero_or_pos n with h0 | h0
  · subst h0; decide
  · obtain ⟨c1, c2, c3⟩ := hb (by omega)
    have e : Lib.bitLen n = Lib.bitLenAux 64 n := rfl
    rw [e]
    rcases Nat.lt_or_ge 32 (Lib.bitLenAux 64 n) with h1 | h1
    · have := Nat.pow_le_pow_right (n := 2) (by omega) (show 32 ≤ Lib.bitLenAux 64 n - 1 by omega)
      omega
    · exact h1
theorem wd_le (L : List Nat) (h : ∀ n ∈ L, n < 4294967296) : wd L ≤ 32 := by
  have : ∀ (L : List Nat) (m : Nat), m ≤ 32 → (∀ n ∈ L, n < 4294967296) → L.foldl (fun m n => max m (Lib.bitLen n)) m ≤ 32 := by
    intro L
    induction L with
    | nil => intro m hm _; exact hm
    | cons n L ih => intro m hm h; exact ih _ (Nat.max_le.2 ⟨hm, bl_le n (h n (by simp))⟩) (fun x hx => h x (by simp [hx]))
  exact this L 0 (by omega) h
set_option maxHeartbeats 8000000 in
set_option maxRecDepth 100000 in
theorem width_any (A : Option Addr) (c : Nat) (L : List Nat) (hL : L.length ≤ 1000000) (hl : ∀ n ∈ L, n < 4294967296) (w : World) (hr : Ri w A L.length L) :
    Calls Tryz.prog 210 #[.slice A L.length c] w fun e w' => e = .returned (.int .i64 (wd L : Int)) ∧ w = w' := by
  have HR := Lib.hid hr
  have HL := Lib.hid hl
  have li : (L.length : Int) ≤ 1000000 := by omega
  clear hr hl
  go_enter Tryz.func210, Tryz.ntmps210
  go_wp2
  go_loop [3, 8] (fun s3 s8 => ∃ k : Nat, k ≤ L.length ∧ s8 = .int .i64 (k : Int) ∧ s3 = .int .i64 (wd (L.take k) : Int)) (fun _ s8 => L.length - (intOf s8).toNat)
  case atStart => exact ⟨0, by omega, rfl, rfl⟩
  case round =>
    obtain ⟨k, hk, rfl, rfl⟩ := hrel
    have hw := wd_le (L.take k) (fun x hx => HL.out x (List.mem_of_mem_take hx))
    rcases Nat.lt_or_ge k L.length with hlt | hge
    · obtain ⟨ad, rfl, hab, hac⟩ := HR.out.2 (by omega)
      have hcell := hac k hlt
      have hsn : wd (L.take (k + 1)) = max (wd (L.take k)) (Lib.bitLen (L.getD k 0)) := by
        rw [← wd_snoc]
        congr 1
        rw [List.take_succ_eq_append_getElem hlt, List.getD_eq_getElem?_getD, List.getElem?_eq_getElem hlt]; rfl
      have hnl : L.getD k 0 < 4294967296 := HL.out _ (by rw [List.getD_eq_getElem?_getD, List.getElem?_eq_getElem hlt]; exact List.getElem_mem hlt)
      have hbl := bl_le _ hnl
      obtain ⟨n, hn⟩ : ∃ n, L.getD k 0 = n := ⟨_, rfl⟩
      rw [hn] at hcell hsn hnl hbl
      have HF : Hid (∀ w, Calls Tryz.prog 213 #[.int .i64 (n : Int), .int .i64 32] w fun e w' => e = .returned (.bool true) ∧ w = w') := fun w => fits_yes n 32 hnl (by omega) w
      obtain ⟨b, hb⟩ : ∃ b, Lib.bitLen n = b := ⟨_, rfl⟩
      have HLN : Hid (∀ w, Calls Tryz.prog 214 #[.int .u64 (n : Int)] w fun e w' => e = .returned (.int .i64 (b : Int)) ∧ w = w') := fun w => by
        refine (Tryz.bits_Len n w (by omega) (by omega)).mono fun e w' ⟨he, hw⟩ => ⟨?_, hw.symm⟩
        rw [he, Int.toNat_natCast, hb]
      rw [hb] at hsn hbl
      obtain ⟨m, hm⟩ : ∃ m, wd (L.take k) = m := ⟨_, rfl⟩
      rw [hm] at hsn hw ⊢
      have HN := Lib.hid hn
      have HM := Lib.hid hm
      have HB := Lib.hid hb
      have ni : (n : Int) < 4294967296 := by omega
      have ki : (k : Int) < (L.length : Int) := by omega
      rcases Nat.lt_trichotomy m b with h | h | h
      · have HS : Hid (wd (L.take (k + 1)) = b) := by show _ = _; rw [hsn]; omega
        clear hsn hn hm hb hac
        go_wp2_with (first | (go_at_call 213; refine (HF.out _).mono ?_; rintro e w' ⟨rfl, rfl⟩) | (go_at_call 214; refine (HLN.out _).mono ?_; rintro e w' ⟨rfl, rfl⟩))
        go_round
        case rel => exact ⟨k + 1, by omega, by go_num, by rw [HS.out]; first | done | (congr 1; omega)⟩
        case measure => simp [intOf]; omega
      · have HS : Hid (wd (L.take (k + 1)) = b) := by show _ = _; rw [hsn]; omega
        subst h
        clear hsn hn hb hac
        go_wp2_with (first | (go_at_call 213; refine (HF.out _).mono ?_; rintro e w' ⟨rfl, rfl⟩) | (go_at_call 214; refine (HLN.out _).mono ?_; rintro e w' ⟨rfl, rfl⟩))
        go_round
        case rel => exact ⟨k + 1, by omega, by go_num, by rw [HS.out]; first | done | (congr 1; omega)⟩
        case measure => simp [intOf]; omega
      · have HS : Hid (wd (L.take (k + 1)) = m) := by show _ = _; rw [hsn]; omega
        clear hsn hn hm hb hac
        go_wp2_with (first | (go_at_call 213; refine (HF.out _).mono ?_; rintro e w' ⟨rfl, rfl⟩) | (go_at_call 214; refine (HLN.out _).mono ?_; rintro e w' ⟨rfl, rfl⟩))
        go_round
        case rel => exact ⟨k + 1, by omega, by go_num, by rw [HS.out]; first | done | (congr 1; omega)⟩
        case measure => simp [intOf]; omega
    · obtain rfl : k = L.length := by omega
      have hall : L.take L.length = L := List.take_of_length_le (Nat.le_refl _)
      rw [hall] at hw ⊢
      obtain ⟨m, hm⟩ : ∃ m, wd L = m := ⟨_, rfl⟩
      rw [hm] at hw ⊢
      have HM := Lib.hid hm
      clear hall hm
      go_wp2
      go_ret
      exact ⟨by rw [← HM.out]; rfl, rfl⟩
end Go.Proofs.YtpbnabibnkohdaaGreatDoor.Cd
namespace Go.Proofs.YtpbnabibnkohdaaGreatDoor.Pk
open Go.ChangeShapes Go.WideShapes Go.RowKit Wo Bm By Cd
set_option linter.unusedVariables false
theorem size_any (n k N : Nat) (hN : (n * k + 7) / 8 = N) (hn : n ≤ 2000) (hk : k ≤ 32) (w : World) : Calls Tryz.prog 211 #[.int .i64 (n : Int), .int .i64 (k : Int)] w fun e w' => e = .returned (.int .i64 (N : Int)) ∧ w = w' := by
  have hm : n * k ≤ 2000 * 32 := Nat.mul_le_mul hn hk
  obtain ⟨m, hmm⟩ : ∃ m, n * k = m := ⟨_, rfl⟩
  rw [hmm] at hm hN
  have e1 : (n : Int) * (k : Int) = (m : Int) := by rw [← hmm]; simp
  have HN : Hid (((m : Int) + 7) / 8 = (N : Int)) := by show _ = _; omega
  have mi : (m : Int) ≤ 64000 := by omega
  clear hmm hN hn hk hm
  go_enter Tryz.func211, Tryz.ntmps211
  go_wp2
  go_ret
  exact ⟨ret_int HN.out, rfl⟩
theorem fits_no (n : Nat) (k : Nat) (hn : 2 ^ k ≤ n) (hn2 : n ≤ 4611686018427387904) (hk : k ≤ 32) (w : World) : Calls Tryz.prog 213 #[.int .i64 (n : Int), .int .i64 (k : Int)] w fun e w' => e = .returned (.bool false) ∧ w = w' := by
  have hz : ((n : Int) / 2 ^ k == 0) = false := by
    rw [beq_eq_false_iff_ne, show (2 : Int) ^ k = ((2 ^ k : Nat) : Int) by simp, ← Int.natCast_ediv]
    have : 0 < n / 2 ^ k := Nat.div_pos hn (Nat.two_pow_pos k)
    omega
  have ki : (k : Int) ≤ 32 := by omega
  have k0 : (0 : Int) ≤ (k : Int) := by omega
  have n0 : (0 : Int) ≤ (n : Int) := by omega
  clear hn hn2
  go_enter Tryz.func213, Tryz.ntmps213
  go_wp2
  go_ret
  exact ⟨rfl, rfl⟩
theorem bys_set (L : List Nat) (j c : Nat) : (bys L).toArray.setIfInBounds j (.int .u8 (c : Int)) = (bys (L.set j c)).toArray := by simp [bys]
theorem rd_bk {w : World} {h : Nat} {t : TypeId} {L : List Nat} (hb : Bk w h t (bys L).toArray) (hl : ∀ c ∈ L, c < 256) (n : Nat) (hn : L.length = n) : Rd w (some ⟨h, 0, none⟩) n L := by
  subst hn
  refine ⟨rfl, hl, fun _ => ⟨_, rfl, hb.lt, fun j hj => ?_⟩⟩
  rw [add_row, hb.cell j]
  simpa using bys_at hj
def PackOk (L : List Nat) (k N : Nat) (w : World) (e : Ending) (w' : World) : Prop := ∃ h : Nat, e = .returned (.tuple #[.slice (some ⟨h, 0, none⟩) N N, .int .i64 0]) ∧ Rd w' (some ⟨h, 0, none⟩) N (packed L k) ∧ (w.heap.size ≤ h ∧ Bk w' h 5 (bys (packed L k)).toArray) ∧ Bel w w'
def SomePack (L : List Nat) (k N : Nat) (w : World) (e : Ending) (w' : World) : Prop :=
  ((∀ n ∈ L, n < 2 ^ k) ∧ PackOk L k N w e w') ∨ ((∃ n ∈ L, 2 ^ k ≤ n) ∧ e = .returned (.tuple #[.slice none 0 0, .int .i64 1]) ∧ Bel w w')
def ORel (L : List Nat) (k N g : Nat) (w : World) (s27 : Value) (wr : World) : Prop := ∃ i : Nat, i ≤ L.length ∧ s27 = .int .i64 (i : Int) ∧ (∀ j, j < i → L.getD j 0 < 2 ^ k) ∧ Bk wr g 5 (bys (bytesK L k N (i * k))).toArray ∧ Bel w wr
theorem and1_i64 {a : Nat} (ha : a ≤ 9223372036854775807) : bits .and .i64 (a : Int) 1 = ((a % 2 : Nat) : Int) := by
  show IntKind.i64.wrap (((BitVec.ofInt 64 (a : Int) &&& BitVec.ofInt 64 ((1 : Nat) : Int)).toNat : Nat) : Int) = _
  rw [BitVec.ofInt_natCast, BitVec.ofInt_natCast, BitVec.toNat_and, BitVec.toNat_ofNat, BitVec.toNat_ofNat, show (2 : Nat) ^ 64 = 18446744073709551616 from rfl, Nat.mod_eq_of_lt (by omega), show (1 : Nat) % 18446744073709551616 = 1 from rfl, Nat.and_one_is_mod]
  exact IntWalk.i64_in _ (by omega)
theorem or_u8 {a x i : Nat} (hi : i ≤ 7) (ha : a < 2 ^ i) (hx : x < 2) : bits .or .u8 (a : Int) ((x * 2 ^ i : Nat) : Int) = ((a + x * 2 ^ i : Nat) : Int) := by
  have hp : 2 ^ i ≤ 2 ^ 7 := Nat.pow_le_pow_right (by omega) hi
  have hx2 : x * 2 ^ i ≤ 1 * 2 ^ i := Nat.mul_le_mul_right _ (by omega)
  have e : a ||| x * 2 ^ i = a + x * 2 ^ i := by
    rw [Nat.mul_comm, Nat.or_comm, Nat.add_comm, Nat.two_pow_add_eq_or_of_lt ha]
  show IntKind.u8.wrap (((BitVec.ofInt 8 (a : Int) ||| BitVec.ofInt 8 ((x * 2 ^ i : Nat) : Int)).toNat : Nat) : Int) = _
  rw [BitVec.ofInt_natCast, BitVec.ofInt_natCast, BitVec.toNat_or, BitVec.toNat_ofNat, BitVec.toNat_ofNat, show (2 : Nat) ^ 8 = 256 from rfl, Nat.mod_eq_of_lt (by omega), Nat.mod_eq_of_lt (by omega), e, wrap_u8]
  omega
set_option maxHeartbeats 16000000 in
set_option maxRecDepth 100000 in
theorem pack_any (A : Option Addr) (c : Nat) (L : List Nat) (k N : Nat) (hN : (L.length * k + 7) / 8 = N) (hL : L.length ≤ 2000) (hk : k ≤ 32) (hl : ∀ n ∈ L, n ≤ 4611686018427387904) (w : World) (hr : Ri w A L.length L) :
    Calls Tryz.prog 209 #[.slice A L.length c, .int .i64 (k : Int)] w (SomePack L k N w) := by
  obtain ⟨i0, hi0, hz0, hz1, hz2⟩ := info_parts info_u8
  have HI := Lib.hid (And.intro hi0 (And.intro hz0 (And.intro hz1 hz2)))
  have HR := Lib.hid hr
  have HL := Lib.hid hl
  have HS : Hid (∀ W, Calls Tryz.prog 211 #[.int .i64 (L.length : Int), .int .i64 (k : Int)] W fun e w' => e = .returned (.int .i64 (N : Int)) ∧ W = w') := fun W => size_any L.length k N hN hL hk W
  have hNb : N ≤ 8001 := by have := Nat.mul_le_mul hL hk; omega
  have li : (L.length : Int) ≤ 2000 := by omega
  have ki : (k : Int) ≤ 32 := by omega
  have k0 : (0 : Int) ≤ (k : Int) := by omega
  have HN := Lib.hid hN
  clear hi0 hz0 hz1 hz2 hr hl hN
  go_enter Tryz.func209, Tryz.ntmps209
  go_wp2_with (first
    | (go_at_call 211; refine (HS.out _).mono ?_; rintro e w' ⟨rfl, rfl⟩)
    | (refine wpList_make_any _ rfl (.tmp 23) (.tmp 23) 112 rfl 5 i0 (.int .u8 0) 1 Tryz.underlying112 HI.out.1 HI.out.2.1 HI.out.2.2.1 .i64 .i64 _ _ N N rfl rfl rfl (by omega) (by omega) (by rw [HI.out.2.2.2]; omega) (by omega) ?_; rw [made_u8]))
  have HB0 : Hid (ORel L k N w.heap.size w (.int .i64 0) (w.alloc (.cells (bys (List.replicate N 0)).toArray 5))) := by
    refine ⟨0, by omega, rfl, fun j hj => by omega, ?_, Bel.rf.al _⟩
    rw [Nat.zero_mul, bytesK_zero]
    exact Bk.nw _ _ _
  clear HS
  go_loopw [27] (fun s27 wr => ORel L k N w.heap.size w s27 wr) (fun s27 _ => L.length - (intOf s27).toNat)
  case atStart => exact HB0.out
  case round =>
    clear HB0
    obtain ⟨i, hi, rfl, hf, hb, hbe⟩ := hrel
    rename_i wr
    have HF := Lib.hid hf
    have HB := Lib.hid hb
    have HX := Lib.hid hbe
    clear hf hb hbe
    rcases Nat.lt_or_ge i L.length with hlt | hge
    · obtain ⟨ad, hA, hab, hac⟩ := HR.out.2 (by omega)
      subst hA
      have hcell := HX.out.kp (hac i hlt)
      have hmem : L.getD i 0 ∈ L := by rw [List.getD_eq_getElem?_getD, List.getElem?_eq_getElem hlt]; exact List.getElem_mem hlt
      have hnb := HL.out _ hmem
      obtain ⟨n, hn⟩ : ∃ n, L.getD i 0 = n := ⟨_, rfl⟩
      rw [hn] at hcell hmem hnb
      have HN2 := Lib.hid hn
      have HM := Lib.hid hmem
      have ii : (i : Int) < (L.length : Int) := by omega
      have nb : (n : Int) ≤ 4611686018427387904 := by omega
      clear hac hn hmem
      rcases Nat.lt_or_ge n (2 ^ k) with hfit | hfit
      · have HFY : Hid (∀ w, Calls Tryz.prog 213 #[.int .i64 (n : Int), .int .i64 (k : Int)] w fun e w' => e = .returned (.bool true) ∧ w = w') := fun w => fits_yes n k hfit hk w
        have HFIT := Lib.hid hfit
        clear hfit
        obtain ⟨W, rfl⟩ : ∃ W : World, W = wr := ⟨_, rfl⟩
        go_wp2_with (go_at_call 213; refine (HFY.out _).mono ?_; rintro e w' ⟨rfl, rfl⟩)
        go_loopw [37] (fun s37 wr => ∃ (j : Nat) (V : World), V = wr ∧ j ≤ k ∧ s37 = .int .i64 (j : Int) ∧ Bk wr w.heap.size 5 (bys (bytesK L k N (i * k + j))).toArray ∧ Bel w wr) (fun s37 _ => k - (intOf s37).toNat)
        case atStart => exact ⟨0, _, rfl, by omega, rfl, HB.out, HX.out⟩
        case round =>
          obtain ⟨j, wq, hwq, hj, rfl, hb, hbe⟩ := hrel
          subst hwq
          have HBQ := Lib.hid hb
          have HXQ := Lib.hid hbe
          clear hb hbe
          rcases Nat.lt_or_ge j k with hjk | hjk
          · obtain ⟨K, hK⟩ : ∃ K, i * k + j = K := ⟨_, rfl⟩
            have hKt : K < L.length * k := by
              have : (i + 1) * k ≤ L.length * k := Nat.mul_le_mul_right _ hlt
              rw [Nat.add_mul] at this
              omega
            have hKN : K / 8 < N := by have := HN.out; omega
            have hKb : K ≤ 64000 := by have := Nat.mul_le_mul hL hk; omega
            have hbit : fb L k K = n / 2 ^ j % 2 := by rw [← hK, fb_at L i hjk, HN2.out]
            have hst := pk_step (fb_lt L k) K
            have hset := bytesK_step (L := L) (w := k) (n := N) hKN
            have hbl := pk_lt (fb_lt L k) K (K / 8)
            have hxl := fb_lt L k K
            have hget := bytesK_at (L := L) (w := k) (K := K) hKN
            obtain ⟨x, hx⟩ : ∃ x, fb L k K = x := ⟨_, rfl⟩
            obtain ⟨b, hb⟩ : ∃ b, pk (fb L k) K (K / 8) = b := ⟨_, rfl⟩
            rw [hx] at hbit hst hset hxl
            rw [hb] at hst hset hbl hget
            have e0 : (i : Int) * (k : Int) = ((i * k : Nat) : Int) := by simp
            have e1 : bits .and .i64 ((n : Int) / 2 ^ j) 1 = (x : Int) := by
              rw [show (n : Int) / 2 ^ j = ((n / 2 ^ j : Nat) : Int) by simp, and1_i64 (by have := Nat.div_le_self n (2 ^ j); omega), hbit]
            obtain ⟨y, hy⟩ : ∃ y, x * 2 ^ (K % 8) = y := ⟨_, rfl⟩
            have e2 : (x : Int) * 2 ^ (K % 8) % 256 = (y : Int) := by
              have h1 : (2 : Nat) ^ (K % 8) ≤ 2 ^ 7 := Nat.pow_le_pow_right (by omega) (by omega)
              have h2 : x * 2 ^ (K % 8) ≤ 1 * 2 ^ (K % 8) := Nat.mul_le_mul_right _ (by omega)
              rw [show (x : Int) * 2 ^ (K % 8) = ((x * 2 ^ (K % 8) : Nat) : Int) by simp, hy]
              rw [hy] at h2
              omega
            obtain ⟨z, hz⟩ : ∃ z, b + y = z := ⟨_, rfl⟩
            have e3 : bits .or .u8 (b : Int) (y : Int) = (z : Int) := by
              have := or_u8 (by omega) hst.2 hxl
              rwa [hy, hz] at this
            rw [hy, hz] at hset
            have HYZ := Lib.hid (And.intro hy hz)
            clear hy hz
            have hc8 : wq.cell? ⟨w.heap.size, K / 8, none⟩ = some (.int .u8 (b : Int)) := by
              rw [HBQ.out.cell (K / 8), hK]
              have : (bys (bytesK L k N K))[K / 8]? = some (.int .u8 ((bytesK L k N K).getD (K / 8) 0 : Nat)) := bys_at (by rw [bytesK_len]; exact hKN)
              rw [hget] at this
              simpa using this
            have hf8 : wq.frozen? ⟨w.heap.size, K / 8, none⟩ = false := HBQ.out.fr _
            have hib : (i * k : Nat) ≤ 64000 := by omega
            obtain ⟨m, hm⟩ : ∃ m, i * k = m := ⟨_, rfl⟩
            rw [hm] at e0 hK hib
            have HKH := Lib.hid hK
            have eK : (m : Int) + (j : Int) = (K : Int) := by omega
            have Ki : (K : Int) ≤ 64000 := by omega
            have KN : (K : Int) / 8 < (N : Int) := by omega
            have ji : (j : Int) < (k : Int) := by omega
            have xi : (x : Int) < 2 := by omega
            have HSET := Lib.hid hset
            have HGET := Lib.hid hget
            have HMM := Lib.hid hm
            clear hst hset hget hbit hx hb hm hK hKt
            go_wp2
            go_region
            go_wp2
            go_roundw
            case rel =>
              refine ⟨j + 1, _, rfl, by omega, by go_num, ?_, (HXQ.out.st (Nat.le_refl _) _).drw⟩
              have h1 := HKH.out
              have h2 := HMM.out
              have h3 := HBQ.out
              rw [h2, h1] at h3
              have h4 := h3.st (K / 8) (.int .u8 (z : Int))
              rw [bys_set, HSET.out] at h4
              rw [h2, show m + (j + 1) = K + 1 by omega]
              exact h4.drw
            case measure => simp [intOf]; omega
          · obtain rfl : j = k := by omega
            go_wp2
            go_roundw
            case rel =>
              refine ⟨i + 1, by omega, by go_num, fun x hx => ?_, ?_, HXQ.out⟩
              · rcases Nat.lt_or_ge x i with h | h
                · exact HF.out x h
                · obtain rfl : x = i := by omega
                  rw [HN2.out]; exact HFIT.out
              · have := HBQ.out
                rwa [show i * j + j = (i + 1) * j by rw [Nat.add_mul]; omega] at this
            case measure => simp [intOf]; omega
      · have HFN : Hid (∀ w, Calls Tryz.prog 213 #[.int .i64 (n : Int), .int .i64 (k : Int)] w fun e w' => e = .returned (.bool false) ∧ w = w') := fun w => fits_no n k hfit hnb hk w
        have HFIT := Lib.hid hfit
        clear hfit
        go_wp2_with (go_at_call 213; refine (HFN.out _).mono ?_; rintro e w' ⟨rfl, rfl⟩)
        go_ret2
        exact .inr ⟨⟨n, HM.out, HFIT.out⟩, rfl, HX.out⟩
    · obtain rfl : i = L.length := by omega
      have hall : ∀ n ∈ L, n < 2 ^ k := fun n hn => by
        obtain ⟨j, hj, rfl⟩ := List.getElem_of_mem hn
        have := HF.out j hj
        rwa [List.getD_eq_getElem?_getD, List.getElem?_eq_getElem hj] at this
      have HALL := Lib.hid hall
      have hb : Bk wr w.heap.size 5 (bys (packed L k)).toArray := by
        have h1 := HB.out
        have h2 := HN.out
        unfold packed
        rwa [h2]
      have HBB := Lib.hid hb
      clear hall hb
      go_wp2
      go_ret2
      refine .inl ⟨HALL.out, w.heap.size, rfl, rd_bk HBB.out (bytesK_lt _ _ _ _) N ?_, ⟨Nat.le_refl _, HBB.out⟩, HX.out⟩
      have := HN.out
      unfold packed
      rw [bytesK_len, this]
end Go.Proofs.YtpbnabibnkohdaaGreatDoor.Pk
namespace Go.Proofs.YtpbnabibnkohdaaGreatDoor.Pk
open Go.ChangeShapes Go.WideShapes Go.RowKit Wo Bm By Cd
set_option linter.unusedVariables false
def bitB (B : List Nat) (K : Nat) : Nat := B.getD (K / 8) 0 / 2 ^ (K % 8) % 2
theorem bitB_lt (B : List Nat) (K : Nat) : bitB B K < 2 := Nat.mod_lt _ (by decide)
theorem and1_u8 {a : Nat} (ha : a < 256) : bits .and .u8 (a : Int) 1 = ((a % 2 : Nat) : Int) := by
  have key : ∀ b : Nat, b < 256 → bits .and .u8 ((b : Nat) : Int) 1 = ((b % 2 : Nat) : Int) := by decide +kernel
  exact key a ha
theorem bit_any (A : Option Addr) (c N : Nat) (B : List Nat) (K : Nat) (hK : K / 8 < N) (hKb : K ≤ 1000000) (hN : N ≤ 1000000) (w : World) (hr : Rd w A N B) (x : Nat) (hx : bitB B K = x) :
    Calls Tryz.prog 212 #[.slice A N c, .int .i64 (K : Int)] w fun e w' => e = .returned (.int .i64 (x : Int)) ∧ w = w' := by
  obtain ⟨ad, rfl, hab, hac⟩ := hr.2.2 (by omega)
  have hcell := hac _ hK
  have hb := hr.byte (K / 8)
  unfold bitB at hx
  obtain ⟨b, hbb⟩ : ∃ b, B.getD (K / 8) 0 = b := ⟨_, rfl⟩
  rw [hbb] at hcell hb hx
  have hd : b / 2 ^ (K % 8) < 256 := by have := Nat.div_le_self b (2 ^ (K % 8)); omega
  have e1 : bits .and .u8 ((b : Int) / 2 ^ (K % 8)) 1 = (x : Int) := by
    rw [show (b : Int) / 2 ^ (K % 8) = ((b / 2 ^ (K % 8) : Nat) : Int) by simp, and1_u8 hd, hx]
  have xl : x < 2 := by rw [← hx]; exact Nat.mod_lt _ (by decide)
  have xi : (x : Int) < 2 := by omega
  have Ki : (K : Int) ≤ 1000000 := by omega
  have KN : (K : Int) / 8 < (N : Int) := by omega
  have HX := Lib.hid hx
  have HB := Lib.hid hbb
  clear hx hbb hac hd hr
  go_enter Tryz.func212, Tryz.ntmps212
  go_wp2
  go_ret
  exact ⟨rfl, rfl⟩
/-- the values while number i is read up to bit j -/
def gB (B : List Nat) (k t : Nat) : Nat → Nat := fun s => bitB B (t * k + s)
theorem gB_lt (B : List Nat) (k t s : Nat) : gB B k t s < 2 := bitB_lt _ _
def valsK (B : List Nat) (k n i j : Nat) : List Nat := (List.range n).map fun t => if t < i then val (gB B k t) k else if t = i then val (gB B k t) j else 0
def vals (B : List Nat) (k n : Nat) : List Nat := (List.range n).map fun t => val (gB B k t) k
theorem valsK_next (B : List Nat) (k n i : Nat) : valsK B k n (i + 1) 0 = valsK B k n i k := by
  unfold valsK
  apply List.map_congr_left
  intro t _
  rcases Nat.lt_trichotomy t i with h | h | h
  · simp [show t < i + 1 by omega, h]
  · subst h
    simp
  · have h1 : ¬ t < i + 1 := by omega
    have h2 : ¬ t < i := by omega
    have h3 : ¬ t = i := by omega
    simp only [if_neg h1, if_neg h2, if_neg h3, val]
    split <;> rfl
theorem valsK_end (B : List Nat) (k n : Nat) : valsK B k n n 0 = vals B k n := by
  unfold valsK vals
  apply List.map_congr_left
  intro t ht
  rw [if_pos (by simpa using ht)]
theorem valsK_zero (B : List Nat) (k n : Nat) : valsK B k n 0 0 = List.replicate n 0 := by
  apply List.ext_getElem?
  intro t
  rcases Nat.lt_or_ge t n with h | h
  · simp [valsK, h, val]
  · simp [valsK, Nat.not_lt.2 h]
theorem valsK_at {B : List Nat} {k n i j : Nat} (h : i < n) : (valsK B k n i j).getD i 0 = val (gB B k i) j := by simp [valsK, List.getD_eq_getElem?_getD, h]
theorem valsK_set {B : List Nat} {k n i j : Nat} (h : i < n) : (valsK B k n i j).set i (val (gB B k i) (j + 1)) = valsK B k n i (j + 1) := by
  apply List.ext_getElem?
  intro t
  rw [List.getElem?_set]
  rcases Classical.em (i = t) with ht | ht
  · subst ht
    simp [valsK, h]
  · rw [if_neg ht]
    rcases Nat.lt_or_ge t n with hn | hn
    · have : ¬ t = i := fun e => ht e.symm
      simp [valsK, hn, this]
    · simp [valsK, Nat.not_lt.2 hn]
def nums (L : List Nat) : List Value := L.map fun c : Nat => .int .i64 (c : Int)
theorem nums_at {L : List Nat} {j : Nat} (h : j < L.length) : (nums L)[j]? = some (.int .i64 (L.getD j 0 : Nat)) := by simp [nums, List.getD_eq_getElem?_getD, h]
theorem nums_set (L : List Nat) (j c : Nat) : (nums L).toArray.setIfInBounds j (.int .i64 (c : Int)) = (nums (L.set j c)).toArray := by simp [nums]
theorem ri_bk {w : World} {h : Nat} {t : TypeId} {L : List Nat} (hb : Bk w h t (nums L).toArray) (n : Nat) (hn : L.length = n) : Ri w (some ⟨h, 0, none⟩) n L := by
  subst hn
  refine ⟨rfl, fun _ => ⟨_, rfl, hb.lt, fun j hj => ?_⟩⟩
  rw [add_row, hb.cell j]
  simpa using nums_at hj
theorem made_i64 (n : Nat) : madeCells (Value.int .i64 0).cells (n * 1) = (nums (List.replicate n 0)).toArray := by
  apply Array.ext
  · simp [madeCells, nums]
  · intro i h1 h2
    simp [madeCells, nums, Nat.mod_one, Value.cells]
theorem info_int : (Tryz.prog.info? 3).map (fun i => (i.zero, i.size, i.bytes)) = some (some (.int .i64 0), 1, 8) := by kernel_rfl
theorem or_i64 {a x i : Nat} (hi : i ≤ 32) (ha : a < 2 ^ i) (hx : x < 2) : bits .or .i64 (a : Int) ((x * 2 ^ i : Nat) : Int) = ((a + x * 2 ^ i : Nat) : Int) := by
  have hp : 2 ^ i ≤ 2 ^ 32 := Nat.pow_le_pow_right (by omega) hi
  have hx2 : x * 2 ^ i ≤ 1 * 2 ^ i := Nat.mul_le_mul_right _ (by omega)
  have e : a ||| x * 2 ^ i = a + x * 2 ^ i := by
    rw [Nat.mul_comm, Nat.or_comm, Nat.add_comm, Nat.two_pow_add_eq_or_of_lt ha]
  show IntKind.i64.wrap (((BitVec.ofInt 64 (a : Int) ||| BitVec.ofInt 64 ((x * 2 ^ i : Nat) : Int)).toNat : Nat) : Int) = _
  rw [BitVec.ofInt_natCast, BitVec.ofInt_natCast, BitVec.toNat_or, BitVec.toNat_ofNat, BitVec.toNat_ofNat, show (2 : Nat) ^ 64 = 18446744073709551616 from rfl, Nat.mod_eq_of_lt (by omega), Nat.mod_eq_of_lt (by omega), e]
  exact IntWalk.i64_in _ (by omega)
def SomeUnpack (B : List Nat) (k n N : Nat) (w : World) (e : Ending) (w' : World) : Prop :=
  ((∀ K, n * k ≤ K → K < 8 * N → bitB B K = 0) ∧ ∃ h : Nat, e = .returned (.tuple #[.slice (some ⟨h, 0, none⟩) n n, .int .i64 0]) ∧ Ri w' (some ⟨h, 0, none⟩) n (vals B k n) ∧ (w.heap.size ≤ h ∧ Bk w' h 3 (nums (vals B k n)).toArray) ∧ Bel w w') ∨
  ((∃ K, n * k ≤ K ∧ K < 8 * N ∧ bitB B K ≠ 0) ∧ e = .returned (.tuple #[.slice none 0 0, .int .i64 3]) ∧ Bel w w')
def URel (B : List Nat) (k n g : Nat) (w : World) (s : Value) (wr : World) : Prop := ∃ (i : Nat) (V : World), V = wr ∧ i ≤ n ∧ s = .int .i64 (i : Int) ∧ Bk wr g 3 (nums (valsK B k n i 0)).toArray ∧ Bel w wr
set_option maxHeartbeats 16000000 in
set_option maxRecDepth 100000 in
theorem unpack_any (A : Option Addr) (c : Nat) (B : List Nat) (k n N : Nat) (hN : (n * k + 7) / 8 = N) (hn : n ≤ 2000) (hk : k ≤ 32) (w : World) (hr : Rd w A N B) :
    Calls Tryz.prog 208 #[.slice A N c, .int .i64 (k : Int), .int .i64 (n : Int)] w (SomeUnpack B k n N w) := by
  obtain ⟨i0, hi0, hz0, hz1, hz2⟩ := info_parts info_int
  have HI := Lib.hid (And.intro hi0 (And.intro hz0 (And.intro hz1 hz2)))
  have HR := Lib.hid hr
  have HS : Hid (∀ W, Calls Tryz.prog 211 #[.int .i64 (n : Int), .int .i64 (k : Int)] W fun e w' => e = .returned (.int .i64 (N : Int)) ∧ W = w') := fun W => size_any n k N hN hn hk W
  have hmb : n * k ≤ 2000 * 32 := Nat.mul_le_mul hn hk
  have hNb : N ≤ 8001 := by omega
  have ni : (n : Int) ≤ 2000 := by omega
  have ki : (k : Int) ≤ 32 := by omega
  have k0 : (0 : Int) ≤ (k : Int) := by omega
  have n0 : (0 : Int) ≤ (n : Int) := by omega
  have Ni : (N : Int) ≤ 8001 := by omega
  obtain ⟨m, hm⟩ : ∃ m, n * k = m := ⟨_, rfl⟩
  have em : (n : Int) * (k : Int) = (m : Int) := by rw [← hm]; simp
  rw [hm] at hmb hN
  have HN := Lib.hid hN
  have HM := Lib.hid hm
  have mi : (m : Int) ≤ 64000 := by omega
  clear hi0 hz0 hz1 hz2 hr hm hN
  go_enter Tryz.func208, Tryz.ntmps208
  go_wp2_with (go_at_call 211; refine (HS.out _).mono ?_; rintro e w' ⟨rfl, rfl⟩)
  go_loop [8] (fun s8 => ∃ K : Nat, m ≤ K ∧ K ≤ 8 * N ∧ s8 = .int .i64 (K : Int) ∧ ∀ j, m ≤ j → j < K → bitB B j = 0) (fun s8 => 8 * N - (intOf s8).toNat)
  case atStart => exact ⟨m, by omega, by have := HN.out; omega, rfl, fun j h1 h2 => by omega⟩
  case round =>
    obtain ⟨K, hK1, hK2, rfl, hz⟩ := hrel
    have HZ := Lib.hid hz
    clear hz
    rcases Nat.lt_or_ge K (8 * N) with hlt | hge
    · have Ki : (K : Int) < 8 * (N : Int) := by omega
      obtain ⟨x, hx⟩ : ∃ x, bitB B K = x := ⟨_, rfl⟩
      have HB : Hid (∀ w, Rd w A N B → Calls Tryz.prog 212 #[.slice A N c, .int .i64 (K : Int)] w fun e w' => e = .returned (.int .i64 (x : Int)) ∧ w = w') := fun w hw => bit_any A c N B K (by omega) (by omega) (by omega) w hw x hx
      rcases Nat.eq_zero_or_pos x with h0 | h0
      · have HX : Hid (bitB B K = 0) := by show _ = _; rw [hx, h0]
        subst h0
        clear hx
        go_wp2_with (go_at_call 212; refine (HB.out _ HR.out).mono ?_; rintro e w' ⟨rfl, rfl⟩)
        go_round
        case rel =>
          refine ⟨K + 1, by omega, by omega, by go_num, fun j h1 h2 => ?_⟩
          rcases Nat.lt_or_ge j K with h | h
          · exact HZ.out j h1 h
          · obtain rfl : j = K := by omega
            exact HX.out
        case measure => simp [intOf]; omega
      · have HX : Hid (bitB B K ≠ 0) := by show _ ≠ _; rw [hx]; omega
        have tx : ((x : Int) != 0) = true := by simp; omega
        clear hx
        go_wp2_with (go_at_call 212; refine (HB.out _ HR.out).mono ?_; rintro e w' ⟨rfl, rfl⟩)
        go_ret2
        exact .inr ⟨⟨K, by have := HM.out; omega, hlt, HX.out⟩, rfl, Bel.rf⟩
    · obtain rfl : K = 8 * N := by omega
      go_wp2_with (refine wpList_make_any _ rfl (.tmp 50) (.tmp 50) 22 rfl 3 i0 (.int .i64 0) 1 Tryz.underlying22 HI.out.1 HI.out.2.1 HI.out.2.2.1 .i64 .i64 _ _ n n rfl rfl rfl (by omega) (by omega) (by rw [HI.out.2.2.2]; omega) (by omega) ?_; rw [made_i64])
      have HZA : Hid (∀ K, n * k ≤ K → K < 8 * N → bitB B K = 0) := by
        show ∀ _, _
        intro K h1 h2
        exact HZ.out K (by have := HM.out; omega) h2
      have HB0 : Hid (URel B k n w.heap.size w (.int .i64 0) (w.alloc (.cells (nums (List.replicate n 0)).toArray 3))) := by
        refine ⟨0, _, rfl, by omega, rfl, ?_, Bel.rf.al _⟩
        rw [valsK_zero]
        exact Bk.nw _ _ _
      clear HZ HS
      go_loopw [54] (fun s54 wr => URel B k n w.heap.size w s54 wr) (fun s54 _ => n - (intOf s54).toNat)
      case atStart => exact HB0.out
      case round =>
        clear HB0
        obtain ⟨i, wr, hwr, hi, rfl, hb, hbe⟩ := hrel
        subst hwr
        have HB := Lib.hid hb
        have HX := Lib.hid hbe
        clear hb hbe
        rcases Nat.lt_or_ge i n with hlt | hge
        · have ii : (i : Int) < (n : Int) := by omega
          go_wp2
          go_loopw [58] (fun s58 wr => ∃ (j : Nat) (V : World), V = wr ∧ j ≤ k ∧ s58 = .int .i64 (j : Int) ∧ Bk wr w.heap.size 3 (nums (valsK B k n i j)).toArray ∧ Bel w wr) (fun s58 _ => k - (intOf s58).toNat)
          case atStart => exact ⟨0, _, rfl, by omega, rfl, HB.out, HX.out⟩
          case round =>
            obtain ⟨j, wq, hwq, hj, rfl, hb, hbe⟩ := hrel
            subst hwq
            have HBQ := Lib.hid hb
            have HXQ := Lib.hid hbe
            clear hb hbe
            rcases Nat.lt_or_ge j k with hjk | hjk
            · obtain ⟨K, hK⟩ : ∃ K, i * k + j = K := ⟨_, rfl⟩
              have hKt : K < n * k := by
                have : (i + 1) * k ≤ n * k := Nat.mul_le_mul_right _ hlt
                rw [Nat.add_mul] at this
                omega
              have hKN : K / 8 < N := by have := HN.out; have := HM.out; omega
              have hKb : K ≤ 64000 := by have := HM.out; omega
              obtain ⟨x, hx⟩ : ∃ x, bitB B K = x := ⟨_, rfl⟩
              have hg : gB B k i j = x := by unfold gB; rw [hK, hx]
              have hxl : x < 2 := by rw [← hx]; exact bitB_lt _ _
              have hBIT : Hid (∀ W, Bel w W → Calls Tryz.prog 212 #[.slice A N c, .int .i64 (K : Int)] W fun e w' => e = .returned (.int .i64 (x : Int)) ∧ W = w') := fun W hW => bit_any A c N B K hKN (by omega) (by omega) W (HR.out.bel hW) x hx
              have hvl := val_lt (gB_lt B k i) j
              have hset := valsK_set (B := B) (k := k) (j := j) hlt
              have hat := valsK_at (B := B) (k := k) (j := j) hlt
              rw [val, hg] at hset
              obtain ⟨b, hb⟩ : ∃ b, val (gB B k i) j = b := ⟨_, rfl⟩
              rw [hb] at hvl hset hat
              obtain ⟨y, hy⟩ : ∃ y, x * 2 ^ j = y := ⟨_, rfl⟩
              have hyb : y ≤ 4294967296 := by
                have h1 : (2 : Nat) ^ j ≤ 2 ^ 32 := Nat.pow_le_pow_right (by omega) (by omega)
                have h2 : x * 2 ^ j ≤ 1 * 2 ^ j := Nat.mul_le_mul_right _ (by omega)
                rw [hy] at h2
                omega
              have e2 : IntKind.i64.wrap ((x : Int) * 2 ^ j) = (y : Int) := by
                rw [show (x : Int) * 2 ^ j = ((x * 2 ^ j : Nat) : Int) by simp, hy]
                exact IntWalk.i64_in _ (by omega)
              obtain ⟨z, hz⟩ : ∃ z, b + y = z := ⟨_, rfl⟩
              have e3 : bits .or .i64 (b : Int) (y : Int) = (z : Int) := by
                have := or_i64 (a := b) (x := x) (i := j) (by omega) hvl hxl
                rwa [hy, hz] at this
              rw [hy, hz] at hset
              have hc8 : wq.cell? ⟨w.heap.size, i, none⟩ = some (.int .i64 (b : Int)) := by
                rw [HBQ.out.cell i]
                have : (nums (valsK B k n i j))[i]? = some (.int .i64 ((valsK B k n i j).getD i 0 : Nat)) := nums_at (by simp [valsK]; exact hlt)
                rw [hat] at this
                simpa using this
              have hf8 : wq.frozen? ⟨w.heap.size, i, none⟩ = false := HBQ.out.fr _
              have e0 : (i : Int) * (k : Int) = ((i * k : Nat) : Int) := by simp
              have hib : (i * k : Nat) ≤ 64000 := by omega
              obtain ⟨m2, hm2⟩ : ∃ m, i * k = m := ⟨_, rfl⟩
              rw [hm2] at e0 hK hib
              have eK : (m2 : Int) + (j : Int) = (K : Int) := by omega
              have Ki : (K : Int) ≤ 64000 := by omega
              have ji : (j : Int) < (k : Int) := by omega
              have HSET := Lib.hid hset
              have HALL := Lib.hid (And.intro hK (And.intro hm2 (And.intro hy (And.intro hz (And.intro hb hx)))))
              have q1 : IntKind.i64.wrap (m2 : Int) = (m2 : Int) := IntWalk.i64_in _ (by omega)
              have q2 : IntKind.i64.wrap (K : Int) = (K : Int) := IntWalk.i64_in _ (by omega)
              clear hset hat hvl hg hx hy hz hb hK hm2 hKt hib
              go_wp2
              go_region_with (go_at_call 212; refine (hBIT.out _ (by repeat (first | exact HXQ.out | (with_reducible refine Bel.drwN ?_ _) | (with_reducible refine Bel.drw ?_)))).mono ?_; rintro e w' ⟨rfl, rfl⟩)
              all_goals
                go_wp2
                go_roundw
                case rel =>
                  refine ⟨j + 1, _, rfl, by omega, by go_num, ?_, ?_⟩
                  · have h4 := HBQ.out.st i (.int .i64 (z : Int))
                    rw [nums_set, HSET.out] at h4
                    first | exact h4 | exact h4.drw | exact h4.drwN _
                  · first | exact (HXQ.out.st (Nat.le_refl _) _) | exact (HXQ.out.st (Nat.le_refl _) _).drw | exact (HXQ.out.st (Nat.le_refl _) _).drwN _
                case measure => simp [intOf]; omega
            · obtain rfl : j = k := by omega
              go_wp2
              go_roundw
              case rel => exact ⟨i + 1, _, rfl, by omega, by go_num, by rw [valsK_next]; exact HBQ.out, HXQ.out⟩
              case measure => simp [intOf]; omega
        · obtain rfl : i = n := by omega
          have hb : Bk wr w.heap.size 3 (nums (vals B k i)).toArray := by have := HB.out; rwa [valsK_end] at this
          have HBB := Lib.hid hb
          clear hb
          go_wp2
          go_ret2
          exact .inl ⟨HZA.out, w.heap.size, rfl, ri_bk HBB.out i (by simp [vals]), ⟨Nat.le_refl _, HBB.out⟩, HX.out⟩
end Go.Proofs.YtpbnabibnkohdaaGreatDoor.Pk
namespace Go.Proofs.YtpbnabibnkohdaaGreatDoor.Pk
open Go.ChangeShapes Go.WideShapes Go.RowKit Wo Bm By Cd Sr
set_option linter.unusedVariables false
theorem bitB_packed (L : List Nat) (k K : Nat) (h : K / 8 < (L.length * k + 7) / 8) : bitB (packed L k) K = if K < L.length * k then fb L k K else 0 := by
  unfold bitB packed
  rw [bytesK_at h]
  exact pk_bit (fb_lt L k) _ K
theorem packed_rest (L : List Nat) (k N : Nat) (hN : (L.length * k + 7) / 8 = N) : ∀ K, L.length * k ≤ K → K < 8 * N → bitB (packed L k) K = 0 := by
  intro K h1 h2
  rw [bitB_packed L k K (by omega), if_neg (by omega)]
theorem vals_packed (L : List Nat) (k : Nat) (hf : ∀ n ∈ L, n < 2 ^ k) : vals (packed L k) k L.length = L := by
  apply List.ext_getElem?
  intro t
  rcases Nat.lt_or_ge t L.length with ht | ht
  · have hn := hf _ (List.getElem_mem ht)
    simp only [vals, List.getElem?_map, List.getElem?_range ht, Option.map_some, List.getElem?_eq_getElem ht]
    congr 1
    rw [← val_full hn]
    apply val_congr
    intro j hj
    have hlt : t * k + j < L.length * k := by
      have : (t + 1) * k ≤ L.length * k := Nat.mul_le_mul_right _ ht
      rw [Nat.add_mul] at this
      omega
    show bitB (packed L k) (t * k + j) = _
    rw [bitB_packed L k _ (by omega), if_pos hlt, fb_at L t hj, List.getD_eq_getElem?_getD, List.getElem?_eq_getElem ht]
    rfl
  · simp [vals, Nat.not_lt.2 ht]
theorem lt_bl {n : Nat} (h : n < 4294967296) : n < 2 ^ Lib.bitLen n := by
  rcases Nat.eq_zero_or_pos n with h0 | h0
  · subst h0; exact Nat.two_pow_pos _
  · exact (Lib.bitLenAux_bounds 64 n (by omega) (by omega)).2.2
theorem bl_le_n {n : Nat} (h : n < 4294967296) (h0 : n ≠ 0) : 1 ≤ Lib.bitLen n ∧ 2 ^ (Lib.bitLen n - 1) ≤ n := by
  have := Lib.bitLenAux_bounds 64 n (by omega) h0
  exact ⟨this.1, this.2.1⟩
theorem wd_fold (L : List Nat) : ∀ m, (∀ n ∈ L, Lib.bitLen n ≤ L.foldl (fun m n => max m (Lib.bitLen n)) m) ∧ m ≤ L.foldl (fun m n => max m (Lib.bitLen n)) m ∧ (L.foldl (fun m n => max m (Lib.bitLen n)) m = m ∨ ∃ n ∈ L, Lib.bitLen n = L.foldl (fun m n => max m (Lib.bitLen n)) m) := by
  induction L with
  | nil => intro m; exact ⟨by simp, Nat.le_refl _, .inl rfl⟩
  | cons a L ih =>
    intro m
    obtain ⟨h1, h2, h3⟩ := ih (max m (Lib.bitLen a))
    simp only [List.foldl_cons]
    refine ⟨fun n hn => ?_, by omega, ?_⟩
    · rcases List.mem_cons.1 hn with rfl | h
      · omega
      · exact h1 n h
    · rcases h3 with h3 | ⟨n, hn, he⟩
      · rcases Nat.lt_or_ge m (Lib.bitLen a) with h | h
        · exact .inr ⟨a, by simp, by rw [h3]; omega⟩
        · exact .inl (by rw [h3]; omega)
      · exact .inr ⟨n, by simp [hn], he⟩
theorem wd_fits {L : List Nat} (h : ∀ n ∈ L, n < 4294967296) : ∀ n ∈ L, n < 2 ^ wd L := fun n hn =>
  Nat.lt_of_lt_of_le (lt_bl (h n hn)) (Nat.pow_le_pow_right (by omega) ((wd_fold L 0).1 n hn))
theorem wd_least {L : List Nat} (h : ∀ n ∈ L, n < 4294967296) (h1 : 1 ≤ wd L) : ∃ n ∈ L, 2 ^ (wd L - 1) ≤ n := by
  rcases (wd_fold L 0).2.2 with h2 | ⟨n, hn, he⟩
  · have : wd L = 0 := h2
    omega
  · have hne : n ≠ 0 := by
      rintro rfl
      have : Lib.bitLen 0 = 0 := by decide
      have h3 : Lib.bitLen 0 = wd L := he
      omega
    have := (bl_le_n (h n hn) hne).2
    rw [show Lib.bitLen n = wd L from he] at this
    exact ⟨n, hn, this⟩
theorem row_ri {w : World} {base k : Nat} {v : Value} {L : List Nat} (h : w.ownsRow base 3 1 v k (nums L)) (hk : L.length = k) : ∃ A c, v = .slice A k c ∧ Ri w A k L ∧ (A = none → c = 0) := by
  rcases Nat.eq_zero_or_pos k with h0 | h0
  · subst h0
    have hL : L = [] := List.eq_nil_of_length_eq_zero hk
    subst hL
    rcases h.2 with ⟨rfl, _⟩ | ⟨g, cap, cur, rfl, _⟩
    · exact ⟨none, 0, rfl, ⟨rfl, fun h => by omega⟩, fun _ => rfl⟩
    · exact ⟨some ⟨g, 0, none⟩, cap, rfl, ⟨rfl, fun h => by omega⟩, fun h => by cases h⟩
  · obtain ⟨g, cap, rfl, hb, hlt⟩ := h.form h0
    refine ⟨some ⟨g, 0, none⟩, cap, rfl, ⟨hk, fun _ => ⟨_, rfl, hlt, fun j hj => ?_⟩⟩, fun h => by cases h⟩
    exact h.cells (g := g) rfl j _ (nums_at (by omega))
theorem Ri.bel {w w' : World} {A : Option Addr} {n : Nat} {L : List Nat} (h : Ri w A n L) (hb : Bel w w') : Ri w' A n L :=
  ⟨h.1, fun hn => by
    obtain ⟨ad, e, hx, hc⟩ := h.2 hn
    exact ⟨ad, e, by have := hb.size; omega, fun j hj => hb.kp (hc j hj)⟩⟩
theorem int_ne_self (x : Int) : (x != x) = false := by simp
set_option maxHeartbeats 4000000 in
theorem ints_same (A A' : Option Addr) (c c' n : Nat) (L : List Nat) (hn : n ≤ 1000000) (w : World) (h1 : Ri w A n L) (h2 : Ri w A' n L) :
    Calls Tryz.prog 39 #[.slice A n c, .slice A' n c'] w fun e w' => e = .returned (.bool true) ∧ Bel w w' := by
  have H1 := Lib.hid h1
  have H2 := Lib.hid h2
  have ni : (n : Int) ≤ 1000000 := by omega
  clear h1 h2
  go_enter Tryz.func39, Tryz.ntmps39
  go_wp2
  go_loopw [13] (fun s13 wr => ∃ (k : Nat) (V : World), V = wr ∧ k ≤ n ∧ s13 = .int .i64 (k : Int) ∧ Bel w wr) (fun s13 _ => n - (intOf s13).toNat)
  case atStart => exact ⟨0, _, rfl, by omega, rfl, Bel.rf⟩
  case round =>
    obtain ⟨k, wr, hwr, hk, rfl, hb⟩ := hrel
    subst hwr
    have HB := Lib.hid hb
    rcases Nat.lt_or_ge k n with hlt | hge
    · obtain ⟨ad, rfl, hab, hac⟩ := (Ri.bel H1.out hb).2 (by omega)
      obtain ⟨ad', rfl, hab', hac'⟩ := (Ri.bel H2.out hb).2 (by omega)
      have c1 := hac k hlt
      have c2 := hac' k hlt
      obtain ⟨x, hx⟩ : ∃ x, L.getD k 0 = x := ⟨_, rfl⟩
      rw [hx] at c1 c2
      have ki : (k : Int) < (n : Int) := by omega
      have kn := int_ne_self (x : Int)
      clear hb hac hac' hab hab' hx
      go_wp2
      go_quiet (fail)
      go_wp2
      go_roundw
      case rel => exact ⟨k + 1, _, rfl, by omega, by go_num, HB.out.drwN _⟩
      case measure => simp [intOf]; omega
    · obtain rfl : k = n := by omega
      clear hb
      go_wp2
      go_ret
      exact ⟨rfl, HB.out⟩
end Go.Proofs.YtpbnabibnkohdaaGreatDoor.Pk
namespace Go.Proofs.YtpbnabibnkohdaaGreatDoor.Sg
open Pk Cd Cr Wi
set_option linter.unusedVariables false
def mn (x : List Int) : Int := Lib.minOf x
def mx (x : List Int) : Int := Lib.maxOf x
theorem fold_min (l : List Int) : ∀ m : Int, l.foldl min m ≤ m ∧ (∀ n ∈ l, l.foldl min m ≤ n) ∧ (l.foldl min m = m ∨ l.foldl min m ∈ l) := by
  induction l with
  | nil => intro m; exact ⟨Int.le_refl _, by simp, .inl rfl⟩
  | cons a l ih =>
    intro m
    obtain ⟨h1, h2, h3⟩ := ih (min m a)
    simp only [List.foldl_cons]
    refine ⟨by omega, fun n hn => ?_, ?_⟩
    · rcases List.mem_cons.1 hn with rfl | h
      · omega
      · exact h2 n h
    · rcases h3 with h3 | h3
      · rcases Int.lt_or_le m a with h | h
        · exact .inl (by rw [h3]; omega)
        · exact .inr (by rw [h3, show min m a = a by omega]; simp)
      · exact .inr (by simp [h3])
theorem fold_max (l : List Int) : ∀ m : Int, m ≤ l.foldl max m ∧ (∀ n ∈ l, n ≤ l.foldl max m) ∧ (l.foldl max m = m ∨ l.foldl max m ∈ l) := by
  induction l with
  | nil => intro m; exact ⟨Int.le_refl _, by simp, .inl rfl⟩
  | cons a l ih =>
    intro m
    obtain ⟨h1, h2, h3⟩ := ih (max m a)
    simp only [List.foldl_cons]
    refine ⟨by omega, fun n hn => ?_, ?_⟩
    · rcases List.mem_cons.1 hn with rfl | h
      · omega
      · exact h2 n h
    · rcases h3 with h3 | h3
      · rcases Int.lt_or_le a m with h | h
        · exact .inl (by rw [h3]; omega)
        · exact .inr (by rw [h3, show max m a = a by omega]; simp)
      · exact .inr (by simp [h3])
theorem mn_le {x : List Int} {n : Int} (h : n ∈ x) : mn x ≤ n := (fold_min x _).2.1 n h
theorem le_mx {x : List Int} {n : Int} (h : n ∈ x) : n ≤ mx x := (fold_max x _).2.1 n h
theorem head_mem {x : List Int} (h : 0 < x.length) : x.headD 0 ∈ x := by cases x with
  | nil => simp at h
  | cons a l => simp
theorem mn_mem {x : List Int} (h : 0 < x.length) : mn x ∈ x := by
  rcases (fold_min x (x.headD 0)).2.2 with h1 | h1
  · unfold mn Lib.minOf; rw [h1]; exact head_mem h
  · exact h1
theorem mx_mem {x : List Int} (h : 0 < x.length) : mx x ∈ x := by
  rcases (fold_max x (x.headD 0)).2.2 with h1 | h1
  · unfold mx Lib.maxOf; rw [h1]; exact head_mem h
  · exact h1
theorem mn_in {x : List Int} (hs : Sam x) (h : 0 < x.length) : -1000 ≤ mn x ∧ mn x ≤ 1000 := hs _ (mn_mem h)
theorem mx_in {x : List Int} (hs : Sam x) (h : 0 < x.length) : -1000 ≤ mx x ∧ mx x ≤ 1000 := hs _ (mx_mem h)
theorem mn_mx {x : List Int} (h : 0 < x.length) : mn x ≤ mx x := mn_le (mx_mem h)
theorem all_eq {x : List Int} (h : mn x = mx x) : x = List.replicate x.length (mn x) := by
  apply List.eq_replicate_iff.2
  refine ⟨rfl, fun n hn => ?_⟩
  have := mn_le hn
  have := le_mx hn
  omega
theorem sum_in (x : List Int) (hs : Sam x) : -1000 * (x.length : Int) ≤ x.sum ∧ x.sum ≤ 1000 * (x.length : Int) := by
  induction x with
  | nil => simp
  | cons a l ih =>
    have h1 := hs a (by simp)
    have h2 := ih (fun n hn => hs n (by simp [hn]))
    simp only [List.sum_cons, List.length_cons]
    omega
/-- the samples above the least one, and their width -/
def ab (x : List Int) : List Nat := x.map fun n => (n - mn x).toNat
def dD (x : List Int) : Nat := (mx x - mn x).toNat
def pd (x : List Int) : List Nat := packed (ab x) (wd [dD x])
theorem ab_len (x : List Int) : (ab x).length = x.length := by simp [ab]
theorem wd_one (d : Nat) : wd [d] = Lib.bitLen d := by simp [wd]
theorem dD_le {x : List Int} (hs : Sam x) (h : 0 < x.length) : dD x ≤ 2000 := by
  have := mn_in hs h
  have := mx_in hs h
  unfold dD
  omega
theorem dD_int {x : List Int} (h : 0 < x.length) : ((dD x : Nat) : Int) = mx x - mn x := by
  have := mn_mx h
  unfold dD
  omega
theorem ab_at {x : List Int} {i : Nat} (h : i < x.length) : (((ab x).getD i 0 : Nat) : Int) = x.getD i 0 - mn x := by
  have h1 := mn_le (List.getElem_mem h)
  simp only [ab, List.getD_eq_getElem?_getD, List.getElem?_map, List.getElem?_eq_getElem h, Option.map_some, Option.getD_some]
  omega
theorem ab_le {x : List Int} (h : 0 < x.length) : ∀ n ∈ ab x, n ≤ dD x := by
  intro n hn
  simp only [ab, List.mem_map] at hn
  obtain ⟨m, hm, rfl⟩ := hn
  have := mn_le hm
  have := le_mx hm
  unfold dD
  omega
theorem bl_small {n : Nat} (h : n < 4096) : Lib.bitLen n ≤ 12 := by
  rcases Nat.eq_zero_or_pos n with h0 | h0
  · subst h0; decide
  · obtain ⟨c1, c2⟩ := bl_le_n (n := n) (by omega) (by omega)
    rcases Nat.lt_or_ge 12 (Lib.bitLen n) with h1 | h1
    · have := Nat.pow_le_pow_right (n := 2) (by omega) (show 12 ≤ Lib.bitLen n - 1 by omega)
      omega
    · exact h1
theorem pw_le {x : List Int} (hs : Sam x) (h : 0 < x.length) : wd [dD x] ≤ 12 := by
  rw [wd_one]
  exact bl_small (by have := dD_le hs h; omega)
theorem ab_fits {x : List Int} (hs : Sam x) (h : 0 < x.length) : ∀ n ∈ ab x, n < 2 ^ wd [dD x] := by
  intro n hn
  have h1 := ab_le h n hn
  have h2 := dD_le hs h
  rw [wd_one]
  have := lt_bl (n := dD x) (by omega)
  omega
/-- the steps between samples, folded -/
def stp (x : List Int) : List Nat := (List.range (x.length - 1)).map fun i => fld (x.getD (i + 1) 0 - x.getD i 0)
theorem stp_len (x : List Int) : (stp x).length = x.length - 1 := by simp [stp]
theorem stp_at {x : List Int} {i : Nat} (h : i < x.length - 1) : (stp x).getD i 0 = fld (x.getD (i + 1) 0 - x.getD i 0) := by
  simp [stp, List.getD_eq_getElem?_getD, h]
theorem stp_lt {x : List Int} (hs : Sam x) : ∀ n ∈ stp x, n < 4096 := by
  intro n hn
  simp only [stp, List.mem_map] at hn
  obtain ⟨i, _, rfl⟩ := hn
  have h1 := hs.at i
  have h2 := hs.at (i + 1)
  unfold fld
  split <;> omega
theorem wd_small {L : List Nat} (h : ∀ n ∈ L, n < 4096) : wd L ≤ 12 := by
  rcases (wd_fold L 0).2.2 with h2 | ⟨n, hn, he⟩
  · have : wd L = 0 := h2
    omega
  · have h3 : Lib.bitLen n = wd L := he
    rw [← h3]
    exact bl_small (h n hn)
def dd (x : List Int) : List Nat := bytesOf (x.getD 0 0) ++ (wd (stp x) :: packed (stp x) (wd (stp x)))
theorem stp_fits {x : List Int} (hs : Sam x) : ∀ n ∈ stp x, n < 2 ^ wd (stp x) := wd_fits (fun n hn => by have := stp_lt hs n hn; omega)
theorem dw_le {x : List Int} (hs : Sam x) : wd (stp x) ≤ 12 := wd_small (stp_lt hs)
/-- the kind and the data -/
def kd (x : List Int) : Nat := if mn x = mx x then 0 else if (dd x).length < (pd x).length then 2 else 1
def dt (x : List Int) : List Nat := if mn x = mx x then [] else if (dd x).length < (pd x).length then dd x else pd x
/-- what stands ahead of the sum -/
def bod (x : List Int) : List Nat := [kd x] ++ bytesOf (x.length : Int) ++ bytesOf (mn x) ++ bytesOf (mx x - mn x) ++ bytesOf x.sum ++ dt x
def seg (x : List Int) : List Nat := bod x ++ seal4 (crc (bod x))
/-- samples that have a segment -/
def Vx (x : List Int) : Prop := 1 ≤ x.length ∧ x.length ≤ 64 ∧ Sam x
theorem packed_len (L : List Nat) (k : Nat) : (packed L k).length = (L.length * k + 7) / 8 := bytesK_len _ _ _ _
theorem packed_byte (L : List Nat) (k : Nat) : ∀ c ∈ packed L k, c < 256 := bytesK_lt _ _ _ _
theorem pd_len {x : List Int} (h : Vx x) : (pd x).length = (x.length * wd [dD x] + 7) / 8 ∧ (pd x).length ≤ 96 := by
  have h1 := pw_le h.2.2 h.1
  have e : (pd x).length = (x.length * wd [dD x] + 7) / 8 := by unfold pd; rw [packed_len, ab_len]
  refine ⟨e, ?_⟩
  have := Nat.mul_le_mul h.2.1 h1
  omega
theorem sum_i64 {x : List Int} (h : Vx x) : In64 x.sum := by
  have := sum_in x h.2.2
  have := h.2.1
  unfold In64
  omega
theorem heads_in {x : List Int} (h : Vx x) : In64 (x.length : Int) ∧ In64 (mn x) ∧ In64 (mx x - mn x) ∧ In64 x.sum ∧ In64 (x.getD 0 0) := by
  have h1 := mn_in h.2.2 h.1
  have h2 := mx_in h.2.2 h.1
  have h3 := h.2.1
  have h4 := sum_i64 h
  have h5 := h.2.2.at 0
  refine ⟨?_, ?_, ?_, h4, ?_⟩ <;> unfold In64 <;> omega
theorem dd_len {x : List Int} (h : Vx x) : 2 ≤ (dd x).length ∧ (dd x).length ≤ 107 := by
  have h1 := dw_le h.2.2
  have h2 := bytesOf_len (x.getD 0 0)
  have h3 := Nat.mul_le_mul (show (stp x).length ≤ 64 by rw [stp_len]; have := h.2.1; omega) h1
  have h4 := packed_len (stp x) (wd (stp x))
  unfold dd
  simp only [List.length_append, List.length_cons]
  omega
theorem dt_len {x : List Int} (h : Vx x) : (dt x).length ≤ 107 := by
  have := dd_len h
  have := pd_len h
  unfold dt
  split
  · simp
  · split <;> omega
theorem dd_byte {x : List Int} (h : Vx x) : ∀ c ∈ dd x, c < 256 := by
  intro c hc
  unfold dd at hc
  rcases List.mem_append.1 hc with h1 | h1
  · exact bytesOf_byte (heads_in h).2.2.2.2 c h1
  · rcases List.mem_cons.1 h1 with rfl | h2
    · have := dw_le h.2.2; omega
    · exact packed_byte _ _ c h2
theorem dt_byte {x : List Int} (h : Vx x) : ∀ c ∈ dt x, c < 256 := by
  unfold dt
  split
  · simp
  · split
    · exact dd_byte h
    · exact packed_byte _ _
theorem kd_lt (x : List Int) : kd x < 3 := by unfold kd; split; omega; split <;> omega
theorem bod_byte {x : List Int} (h : Vx x) : ∀ c ∈ bod x, c < 256 := by
  obtain ⟨a1, a2, a3, a4, _⟩ := heads_in h
  intro c hc
  unfold bod at hc
  simp only [List.mem_append, List.mem_singleton] at hc
  rcases hc with ((((rfl | h1) | h1) | h1) | h1) | h1
  · have := kd_lt x; omega
  · exact bytesOf_byte a1 c h1
  · exact bytesOf_byte a2 c h1
  · exact bytesOf_byte a3 c h1
  · exact bytesOf_byte a4 c h1
  · exact dt_byte h c h1
theorem bod_len {x : List Int} (h : Vx x) : 5 ≤ (bod x).length ∧ (bod x).length ≤ 148 := by
  have h1 := bytesOf_len (x.length : Int)
  have h2 := bytesOf_len (mn x)
  have h3 := bytesOf_len (mx x - mn x)
  have h4 := bytesOf_len x.sum
  have h5 := dt_len h
  unfold bod
  simp only [List.length_append, List.length_singleton]
  omega
theorem seg_byte {x : List Int} (h : Vx x) : ∀ c ∈ seg x, c < 256 := by
  intro c hc
  rcases List.mem_append.1 hc with h1 | h1
  · exact bod_byte h c h1
  · exact seal4_byte _ c h1
theorem seg_len {x : List Int} (h : Vx x) : 9 ≤ (seg x).length ∧ (seg x).length ≤ 152 ∧ (seg x).length = (bod x).length + 4 := by
  have h1 := bod_len h
  have h2 : (seg x).length = (bod x).length + 4 := by unfold seg; rw [List.length_append]; rfl
  omega
/-- what a body says, read -/
theorem bod_read {x : List Int} (h : Vx x) : ∃ p1 p2 p3 p4 : Nat, (bod x).getD 0 0 = kd x ∧ dec (bod x) 1 = ((x.length : Int), (p1 : Int), 0) ∧ dec (bod x) p1 = (mn x, (p2 : Int), 0) ∧ dec (bod x) p2 = (mx x - mn x, (p3 : Int), 0) ∧
    dec (bod x) p3 = (x.sum, (p4 : Int), 0) ∧ (bod x).drop p4 = dt x ∧ p1 ≤ (bod x).length ∧ p2 ≤ (bod x).length ∧ p3 ≤ (bod x).length ∧ p4 ≤ (bod x).length := by
  obtain ⟨a1, a2, a3, a4, _⟩ := heads_in h
  have e1 : (bod x).drop 1 = bytesOf (x.length : Int) ++ (bytesOf (mn x) ++ (bytesOf (mx x - mn x) ++ (bytesOf x.sum ++ dt x))) := by simp [bod]
  obtain ⟨p1, hp1⟩ : ∃ p, 1 + (bytesOf (x.length : Int)).length = p := ⟨_, rfl⟩
  have e2 : (bod x).drop p1 = bytesOf (mn x) ++ (bytesOf (mx x - mn x) ++ (bytesOf x.sum ++ dt x)) := by
    rw [← hp1, ← List.drop_drop, e1, List.drop_left]
  obtain ⟨p2, hp2⟩ : ∃ p, p1 + (bytesOf (mn x)).length = p := ⟨_, rfl⟩
  have e3 : (bod x).drop p2 = bytesOf (mx x - mn x) ++ (bytesOf x.sum ++ dt x) := by
    rw [← hp2, ← List.drop_drop, e2, List.drop_left]
  obtain ⟨p3, hp3⟩ : ∃ p, p2 + (bytesOf (mx x - mn x)).length = p := ⟨_, rfl⟩
  have e4 : (bod x).drop p3 = bytesOf x.sum ++ dt x := by
    rw [← hp3, ← List.drop_drop, e3, List.drop_left]
  obtain ⟨p4, hp4⟩ : ∃ p, p3 + (bytesOf x.sum).length = p := ⟨_, rfl⟩
  have e5 : (bod x).drop p4 = dt x := by
    rw [← hp4, ← List.drop_drop, e4, List.drop_left]
  have d1 := dec_bytes a1.1 a1.2 e1
  have d2 := dec_bytes a2.1 a2.2 e2
  have d3 := dec_bytes a3.1 a3.2 e3
  have d4 := dec_bytes a4.1 a4.2 e4
  rw [hp1] at d1
  rw [hp2] at d2
  rw [hp3] at d3
  rw [hp4] at d4
  have hl : (bod x).length = p4 + (dt x).length := by
    have : (bod x).length = 1 + (bytesOf (x.length : Int)).length + (bytesOf (mn x)).length + (bytesOf (mx x - mn x)).length + (bytesOf x.sum).length + (dt x).length := by
      unfold bod
      simp only [List.length_append, List.length_singleton]
    omega
  exact ⟨p1, p2, p3, p4, by simp [bod], d1, d2, d3, d4, e5, by omega, by omega, by omega, by omega⟩
theorem dd_read {x : List Int} (h : Vx x) : ∃ p : Nat, dec (dd x) 0 = (x.getD 0 0, (p : Int), 0) ∧ p < (dd x).length ∧ (dd x).getD p 0 = wd (stp x) ∧ (dd x).drop (p + 1) = packed (stp x) (wd (stp x)) := by
  obtain ⟨_, _, _, _, a5⟩ := heads_in h
  have d1 := dec_bytes (at_ := 0) (B := dd x) a5.1 a5.2 rfl
  obtain ⟨p, hp⟩ : ∃ p, (bytesOf (x.getD 0 0)).length = p := ⟨_, rfl⟩
  rw [Nat.zero_add, hp] at d1
  have e : (dd x).drop p = wd (stp x) :: packed (stp x) (wd (stp x)) := by rw [← hp]; unfold dd; rw [List.drop_left]
  obtain ⟨h1, h2, h3⟩ := getD_drop e
  exact ⟨p, d1, h1, h2, h3⟩
theorem seg_parts {x : List Int} : (seg x).take (bod x).length = bod x ∧ (seg x).drop (bod x).length = seal4 (crc (bod x)) := by
  unfold seg
  exact ⟨List.take_left, List.drop_left⟩
/-- a step back -/
theorem step_back {x : List Int} (hs : Sam x) {i : Nat} (h : i + 1 < x.length) : x.getD i 0 + unf ((stp x).getD i 0) = x.getD (i + 1) 0 := by
  rw [stp_at (by omega), unf_fld]
  omega
theorem take_next (x : List Int) (i : Nat) (h : i < x.length) : x.take (i + 1) = x.take i ++ [x.getD i 0] := by
  rw [List.take_succ_eq_append_getElem h, List.getD_eq_getElem?_getD, List.getElem?_eq_getElem h]
  rfl
end Go.Proofs.YtpbnabibnkohdaaGreatDoor.Sg
