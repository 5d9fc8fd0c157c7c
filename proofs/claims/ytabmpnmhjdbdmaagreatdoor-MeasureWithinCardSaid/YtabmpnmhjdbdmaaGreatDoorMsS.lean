/- The contract of strings.Cut at a blank. -/
import Derived.Test.YtabmpnmhjdbdmaaGreatDoorMsV
namespace Go.Proofs.YtabmpnmhjdbdmaaGreatDoor.Rr
open Go.ChangeShapes Go.WideShapes Go.RowKit Wo Ra
set_option linter.unusedVariables false
theorem ba_of (x : ByteArray) (l : List UInt8) (h : x.data.toList = l) : x = ⟨l.toArray⟩ := by
  subst h
  exact (Lib.mk_data x).symm
/-- strings.Cut at a blank -/
def cut32 (l : List UInt8) : List UInt8 × List UInt8 × Bool := if 0 ≤ Lib.indexByte l 32 then (l.take (Lib.indexByte l 32).toNat, l.drop ((Lib.indexByte l 32).toNat + 1), true) else (l, [], false)
set_option maxHeartbeats 2000000 in
theorem scut (s : ByteArray) (hs : s.size ≤ 281474976710656) (w : World) : Calls Tryz.prog 59 #[.string s, .string ⟨#[32]⟩] w fun e w' =>
    e = .returned (.tuple #[.string ⟨(cut32 s.data.toList).1.toArray⟩, .string ⟨(cut32 s.data.toList).2.1.toArray⟩, .bool (cut32 s.data.toList).2.2]) ∧ Bel w w' := by
  obtain ⟨v, hv⟩ : ∃ v, Lib.indexByte s.data.toList 32 = v := ⟨_, rfl⟩
  have HI : Hid (∀ W, Calls Tryz.prog 71 #[.string s, .string ⟨#[32]⟩] W fun e w' => e = .returned (.int .i64 v) ∧ w' = W) := fun W => by
    have := Tryz.stringslite_Index_one s 32 W
    rw [hv] at this
    exact this
  have hge := Lib.indexByte_ge s.data.toList 32
  rw [hv] at hge
  rcases Int.lt_or_le v 0 with h0 | h0
  · have e : v = -1 := by omega
    subst e
    have HC : Hid (cut32 s.data.toList = (s.data.toList, [], false)) := by
      unfold cut32; rw [hv]; rfl
    clear hv hge h0
    go_enter Tryz.func59, Tryz.ntmps59
    go_wp2_with fail
    go_at_call 71
    refine (HI.out _).mono ?_
    rintro e w1 ⟨rfl, rfl⟩
    go_wp2
    exact bodyPost_ret (v := .tuple #[.string s, .string ⟨#[]⟩, .bool false]) (by simp [results, Tryz.results59, go_sem]) rfl ⟨by rw [HC.out, Lib.mk_data], Bel.rf⟩
  · obtain ⟨i, rfl⟩ := Int.eq_ofNat_of_zero_le h0
    have hi := (Lib.indexByte_some hv).1
    have hlt : i < s.size := by
      rw [Lib.size_eq]
      exact (List.getElem?_eq_some_iff.1 hi).1
    have b0 : (0 : Int) ≤ (i : Int) := by omega
    have b1 : (i : Int) ≤ (s.size : Int) := by omega
    have b2 : (i : Int) + 1 ≤ (s.size : Int) := by omega
    have b3 : (s.size : Int) ≤ 281474976710656 := by omega
    have b4 : ((i : Int) + 1).toNat = i + 1 := by omega
    have HC : Hid (cut32 s.data.toList = ((s.extract 0 i).data.toList, (s.extract (i + 1) s.size).data.toList, true)) := by
      unfold cut32
      rw [hv, if_pos h0, Int.toNat_natCast, Lib.extract_data, Lib.extract_to_end, List.drop_zero, Nat.sub_zero]; exact Lib.hid rfl
    clear hv hge h0 hi
    go_enter Tryz.func59, Tryz.ntmps59
    go_wp2_with fail
    go_at_call 71
    refine (HI.out _).mono ?_
    rintro e w1 ⟨rfl, rfl⟩
    go_wp2
    go_quiet (fail)
    go_wp2
    exact bodyPost_ret (v := .tuple #[.string (s.extract 0 i), .string (s.extract (i + 1) s.size), .bool true]) (by simp [results, Tryz.results59, go_sem]) rfl ⟨by rw [HC.out, Lib.mk_data, Lib.mk_data], Bel.rf.drwN _⟩
theorem cut_any (s : ByteArray) (hs : s.size ≤ 281474976710656) (w : World) : Calls Tryz.prog 42 #[.string s, .string ⟨#[32]⟩] w fun e w' =>
    e = .returned (.tuple #[.string ⟨(cut32 s.data.toList).1.toArray⟩, .string ⟨(cut32 s.data.toList).2.1.toArray⟩, .bool (cut32 s.data.toList).2.2]) ∧ Bel w w' := by
  have H := Lib.hid (scut s hs)
  generalize cut32 s.data.toList = c at H ⊢
  obtain ⟨c1, c2, c3⟩ := c
  go_enter Tryz.func42, Tryz.ntmps42
  go_wp2_with fail
  go_at_call 59
  refine (H.out _).mono ?_
  rintro e w1 ⟨rfl, hb⟩
  go_wp2
  exact bodyPost_ret (v := .tuple #[.string ⟨c1.toArray⟩, .string ⟨c2.toArray⟩, .bool c3]) (by simp [results, Tryz.results42, go_sem]) rfl ⟨rfl, hb⟩
end Go.Proofs.YtabmpnmhjdbdmaaGreatDoor.Rr
