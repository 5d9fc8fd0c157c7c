/- The library's functions that reading calls: Cut at a line feed, Split at a blank, Trim of digits, Atoi, Itoa; the laid variables. -/
import Derived.Test.YtagodfielmdfhaaDoorShelf
import Derived.Test.YtagodfielmdfhaaDoorRtL
import Derived.Test.YtagodfielmdfhaaDoorUnitAwake
import Derived.Shelf.Strings.SplitCore
import Derived.Shelf.Strings.SlTrimAscii
import Derived.WalkKit
import Derived.WalkLawsBesides
import Derived.WalkSpells
import Derived.Outline
import Derived.Lib.Hide
import Derived.IntWalk
import Derived.WalkMore
import Derived.Deep.QuietTactic
import Derived.BigQuiet
import Derived.Laws.ResultCell
import Derived.Deep.DeepCutAuto
import Derived.Deep.RegionHeld3
import Derived.Lib.IndexLaws
import Derived.Lib.IndexBytes
namespace Go.Proofs.YtagodfielmdfhaaDoor.Rt
open Go.ChangeShapes Go.WideShapes Go.RowKit Wo Un Rg
open Rm (Rp tm vl)
set_option linter.unusedVariables false
theorem ba_of (x : ByteArray) (l : List UInt8) (h : x.data.toList = l) : x = ⟨l.toArray⟩ := by
  subst h
  exact (Lib.mk_data x).symm
/-- strings.Cut at a line feed -/
def cut10 (l : List UInt8) : List UInt8 × List UInt8 × Bool := if 0 ≤ Lib.indexByte l 10 then (l.take (Lib.indexByte l 10).toNat, l.drop ((Lib.indexByte l 10).toNat + 1), true) else (l, [], false)
set_option maxHeartbeats 2000000 in
theorem scut10 (s : ByteArray) (hs : s.size ≤ 281474976710656) (w : World) : Calls Tryd.prog 23 #[.string s, .string ⟨#[10]⟩] w fun e w' =>
    e = .returned (.tuple #[.string ⟨(cut10 s.data.toList).1.toArray⟩, .string ⟨(cut10 s.data.toList).2.1.toArray⟩, .bool (cut10 s.data.toList).2.2]) ∧ Bel w w' := by
  obtain ⟨v, hv⟩ : ∃ v, Lib.indexByte s.data.toList 10 = v := ⟨_, rfl⟩
  have HI : Hid (∀ W, Calls Tryd.prog 29 #[.string s, .string ⟨#[10]⟩] W fun e w' => e = .returned (.int .i64 v) ∧ w' = W) := fun W => by
    have := Tryd.stringslite_Index_one s 10 W
    rw [hv] at this
    exact this
  have hge := Lib.indexByte_ge s.data.toList 10
  rw [hv] at hge
  rcases Int.lt_or_le v 0 with h0 | h0
  · have e : v = -1 := by omega
    subst e
    have HC : Hid (cut10 s.data.toList = (s.data.toList, [], false)) := by
      unfold cut10; rw [hv]; rfl
    clear hv hge h0
    go_enter Tryd.func23, Tryd.ntmps23
    go_wp2_with fail
    go_at_call 29
    refine (HI.out _).mono ?_
    rintro e w1 ⟨rfl, rfl⟩
    go_wp2
    exact bodyPost_ret (v := .tuple #[.string s, .string ⟨#[]⟩, .bool false]) (by simp [results, Tryd.results23, go_sem]) rfl ⟨by rw [HC.out, Lib.mk_data], Bel.rf⟩
  · obtain ⟨i, rfl⟩ := Int.eq_ofNat_of_zero_le h0
    have hi := (Lib.indexByte_some hv).1
    have hlt : i < s.size := by
      rw [Lib.size_eq]
      exact (List.getElem?_eq_some_iff.1 hi).1
    have b0 : (0 : Int) ≤ (i : Int) := by omega
    have b1 : (i : Int) ≤ (s.size : Int) := by omega
    have b2 : (i : Int) + 1 ≤ (s.size : Int) := by omega
    have b3 : (s.size : Int) ≤ 281474976710656 := by omega
    have b4 : ((i : Int) + 1).toNat = i + 1 := by omega
    have HC : Hid (cut10 s.data.toList = ((s.extract 0 i).data.toList, (s.extract (i + 1) s.size).data.toList, true)) := by
      unfold cut10
      rw [hv, if_pos h0, Int.toNat_natCast, Lib.extract_data, Lib.extract_to_end, List.drop_zero, Nat.sub_zero]; exact Lib.hid rfl
    clear hv hge h0 hi
    go_enter Tryd.func23, Tryd.ntmps23
    go_wp2_with fail
    go_at_call 29
    refine (HI.out _).mono ?_
    rintro e w1 ⟨rfl, rfl⟩
    go_wp2
    go_quiet (fail)
    go_wp2
    exact bodyPost_ret (v := .tuple #[.string (s.extract 0 i), .string (s.extract (i + 1) s.size), .bool true]) (by simp [results, Tryd.results23, go_sem]) rfl ⟨by rw [HC.out, Lib.mk_data, Lib.mk_data], Bel.rf.drwN _⟩
theorem cut10_any (s : ByteArray) (hs : s.size ≤ 281474976710656) (w : World) : Calls Tryd.prog 18 #[.string s, .string ⟨#[10]⟩] w fun e w' =>
    e = .returned (.tuple #[.string ⟨(cut10 s.data.toList).1.toArray⟩, .string ⟨(cut10 s.data.toList).2.1.toArray⟩, .bool (cut10 s.data.toList).2.2]) ∧ Bel w w' := by
  have H := Lib.hid (scut10 s hs)
  generalize cut10 s.data.toList = c at H ⊢
  obtain ⟨c1, c2, c3⟩ := c
  go_enter Tryd.func18, Tryd.ntmps18
  go_wp2_with fail
  go_at_call 23
  refine (H.out _).mono ?_
  rintro e w1 ⟨rfl, hb⟩
  go_wp2
  exact bodyPost_ret (v := .tuple #[.string ⟨c1.toArray⟩, .string ⟨c2.toArray⟩, .bool c3]) (by simp [results, Tryd.results18, go_sem]) rfl ⟨rfl, hb⟩

theorem cut10_is (l : List UInt8) : (cut10 l).1 = (cutN l).1 ∧ (cut10 l).2.1 = (cutN l).2 := by
  unfold cut10 cutN
  split
  · exact ⟨rfl, rfl⟩
  · exact ⟨rfl, rfl⟩
theorem cutN_any (s : ByteArray) (hs : s.size ≤ 281474976710656) : ∃ b : Bool, ∀ w, Calls Tryd.prog 18 #[.string s, .string ⟨#[10]⟩] w fun e w' =>
    e = .returned (.tuple #[.string ⟨(cutN s.data.toList).1.toArray⟩, .string ⟨(cutN s.data.toList).2.toArray⟩, .bool b]) ∧ Bel w w' := by
  refine ⟨(cut10 s.data.toList).2.2, fun w => ?_⟩
  have := cut10_any s hs w
  rw [(cut10_is _).1, (cut10_is _).2] at this
  exact this
/-- strings.Split at a blank -/
def wds (s : ByteArray) : List ByteArray := Lib.splitB ⟨#[32]⟩ 0 (Lib.countB s ⟨#[32]⟩) s
theorem wds_data (s : ByteArray) : (wds s).map (·.data.toList) = Lib.split s.data.toList [32] := Lib.splitB_data _ _ _ _
def Spl (s : ByteArray) (w : World) (e : Ending) (w' : World) : Prop := e = .returned (.slice (some ⟨w.heap.size, 0, none⟩) (wds s).length (wds s).length) ∧ w' = w.alloc (.cells ((wds s).map Value.string).toArray 9)
set_option maxHeartbeats 1000000 in
theorem gsplit (s : ByteArray) (hs : s.size < 4294967281) (w : World) : Calls Tryd.prog 30 #[.string s, .string ⟨#[32]⟩, .int .i64 0, .int .i64 (-1)] w (Spl s w) := by
  have hlen := Lib.splitB_all ⟨#[32]⟩ (by decide) 0 _ s rfl
  have hle := Lib.countB_le ⟨#[32]⟩ (by decide) s.size s (Nat.le_refl _)
  have c := Any.strings_genSplit_core Tryd.lays221 (by kernel_rfl) s ⟨#[32]⟩ 0 (-1) (Lib.countB s ⟨#[32]⟩ + 1) w hs (by decide) (by decide)
    (fun x c hx => by
      have h := Tryd.strings_Index_one x 32 (w.alloc (.cells c 9))
      refine h.mono ?_
      rintro e w' ⟨he, hw⟩
      refine ⟨?_, hw⟩
      rw [he]
      show Ending.returned (Value.int .i64 (Lib.indexByte x.data.toList 32)) = Ending.returned (Value.int .i64 (Lib.index x.data.toList [32]))
      rw [Lib.index_one])
    (by
      refine (Tryd.strings_Count_one s 32 w).mono ?_
      rintro e w' ⟨he, hw⟩
      refine ⟨?_, hw⟩
      rw [he]
      show _ = Ending.returned (Value.int .i64 ((Lib.count s.data.toList [32] : Nat) : Int))
      rw [Lib.count_one]
      rfl)
    (by decide) (by decide) (by rw [if_pos (by decide)]; omega)
  rw [Nat.add_sub_cancel, hlen] at c
  refine c.mono ?_
  rintro e w' ⟨he, hw⟩
  unfold Spl wds
  refine ⟨?_, ?_⟩
  · rw [he, hlen]
  · have e2 : Lib.cellsOf (Lib.splitB ⟨#[32]⟩ 0 (Lib.countB s ⟨#[32]⟩) s) (Lib.countB s ⟨#[32]⟩ + 1) = ((Lib.splitB ⟨#[32]⟩ 0 (Lib.countB s ⟨#[32]⟩) s).map Value.string).toArray := by rw [← hlen]; exact Lib.cellsOf_full _
    rw [hw, e2]; rfl
theorem split_any (s : ByteArray) (hs : s.size < 4294967281) (w : World) : Calls Tryd.prog 24 #[.string s, .string ⟨#[32]⟩] w (Spl s w) := by
  have H := Lib.hid (gsplit s hs)
  go_enter Tryd.func24, Tryd.ntmps24
  go_wp2_with fail
  go_at_call 30
  refine (H.out _).mono ?_
  rintro e w1 ⟨rfl, rfl⟩
  go_wp2
  go_ret
  exact ⟨rfl, rfl⟩
/-- strings.Trim of digits -/
def digs : ByteArray := ⟨#[48, 49, 50, 51, 52, 53, 54, 55, 56, 57]⟩
theorem trim_any (s : ByteArray) (hs : s.size ≤ 9223372036854775807) (w : World) : Calls Tryd.prog 31 #[.string s, .string ⟨#[48, 49, 50, 51, 52, 53, 54, 55, 56, 57]⟩] w fun e w' =>
    e = .returned (.string ⟨(Lib.trimS s.data.toList [48, 49, 50, 51, 52, 53, 54, 55, 56, 57]).toArray⟩) ∧ Bel w w' :=
  Any.strings_Trim_laid Tryd.lays160 (by kernel_rfl) s ⟨#[48, 49, 50, 51, 52, 53, 54, 55, 56, 57]⟩ w hs (by decide) (ascii_of_all (by decide))
end Go.Proofs.YtagodfielmdfhaaDoor.Rt
