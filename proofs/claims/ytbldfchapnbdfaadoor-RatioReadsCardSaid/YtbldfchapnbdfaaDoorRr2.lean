/- The contracts of strings.Cut at "/", of ratio.number, of ratio.Format of valid ratios. -/
import Derived.Test.YtbldfchapnbdfaaDoorRr1
namespace Go.Proofs.YtbldfchapnbdfaaDoor.Rr
open Go.ChangeShapes Go.WideShapes Go.RowKit Wo Ra
set_option linter.unusedVariables false
theorem ba_of (x : ByteArray) (l : List UInt8) (h : x.data.toList = l) : x = ⟨l.toArray⟩ := by
  subst h
  exact (Lib.mk_data x).symm
set_option maxHeartbeats 2000000 in
theorem scut (s : ByteArray) (hs : s.size ≤ 281474976710656) (w : World) : Calls Tryd.prog 27 #[.string s, .string ⟨#[47]⟩] w fun e w' =>
    e = .returned (.tuple #[.string ⟨(cut47 s.data.toList).1.toArray⟩, .string ⟨(cut47 s.data.toList).2.1.toArray⟩, .bool (cut47 s.data.toList).2.2]) ∧ Bel w w' := by
  obtain ⟨v, hv⟩ : ∃ v, Lib.indexByte s.data.toList 47 = v := ⟨_, rfl⟩
  have HI : Hid (∀ W, Calls Tryd.prog 33 #[.string s, .string ⟨#[47]⟩] W fun e w' => e = .returned (.int .i64 v) ∧ w' = W) := fun W => by
    have := Tryd.stringslite_Index_one s 47 W
    rw [hv] at this
    exact this
  have hge := Lib.indexByte_ge s.data.toList 47
  rw [hv] at hge
  rcases Int.lt_or_le v 0 with h0 | h0
  · have e : v = -1 := by omega
    subst e
    have HC : Hid (cut47 s.data.toList = (s.data.toList, [], false)) := by
      unfold cut47; rw [hv]; rfl
    clear hv hge h0
    go_enter Tryd.func27, Tryd.ntmps27
    go_wp2_with fail
    go_at_call 33
    refine (HI.out _).mono ?_
    rintro e w1 ⟨rfl, rfl⟩
    go_wp2
    exact bodyPost_ret (v := .tuple #[.string s, .string ⟨#[]⟩, .bool false]) (by simp [results, Tryd.results27, go_sem]) rfl ⟨by rw [HC.out, Lib.mk_data], Bel.rf⟩
  · obtain ⟨i, rfl⟩ := Int.eq_ofNat_of_zero_le h0
    have hi := (Lib.indexByte_some hv).1
    have hlt : i < s.size := by
      rw [Lib.size_eq]
      exact (List.getElem?_eq_some_iff.1 hi).1
    have b0 : (0 : Int) ≤ (i : Int) := by omega
    have b1 : (i : Int) ≤ (s.size : Int) := by omega
    have b2 : (i : Int) + 1 ≤ (s.size : Int) := by omega
    have b3 : (s.size : Int) ≤ 281474976710656 := by omega
    have b4 : ((i : Int) + 1).toNat = i + 1 := by omega
    have HC : Hid (cut47 s.data.toList = ((s.extract 0 i).data.toList, (s.extract (i + 1) s.size).data.toList, true)) := by
      unfold cut47
      rw [hv, if_pos h0, Int.toNat_natCast, Lib.extract_data, Lib.extract_to_end, List.drop_zero, Nat.sub_zero]; exact Lib.hid rfl
    clear hv hge h0 hi
    go_enter Tryd.func27, Tryd.ntmps27
    go_wp2_with fail
    go_at_call 33
    refine (HI.out _).mono ?_
    rintro e w1 ⟨rfl, rfl⟩
    go_wp2
    go_quiet (fail)
    go_wp2
    exact bodyPost_ret (v := .tuple #[.string (s.extract 0 i), .string (s.extract (i + 1) s.size), .bool true]) (by simp [results, Tryd.results27, go_sem]) rfl ⟨by rw [HC.out, Lib.mk_data, Lib.mk_data], Bel.rf.drwN _⟩
theorem cut_any (s : ByteArray) (hs : s.size ≤ 281474976710656) (w : World) : Calls Tryd.prog 15 #[.string s, .string ⟨#[47]⟩] w fun e w' =>
    e = .returned (.tuple #[.string ⟨(cut47 s.data.toList).1.toArray⟩, .string ⟨(cut47 s.data.toList).2.1.toArray⟩, .bool (cut47 s.data.toList).2.2]) ∧ Bel w w' := by
  have H := Lib.hid (scut s hs)
  generalize cut47 s.data.toList = c at H ⊢
  obtain ⟨c1, c2, c3⟩ := c
  go_enter Tryd.func15, Tryd.ntmps15
  go_wp2_with fail
  go_at_call 27
  refine (H.out _).mono ?_
  rintro e w1 ⟨rfl, hb⟩
  go_wp2
  exact bodyPost_ret (v := .tuple #[.string ⟨c1.toArray⟩, .string ⟨c2.toArray⟩, .bool c3]) (by simp [results, Tryd.results15, go_sem]) rfl ⟨rfl, hb⟩
theorem number_any (s : ByteArray) (hs : s.size ≤ 281474976710656) (w : World) (hw : Lw w) : Calls Tryd.prog 16 #[.string s] w fun e w' => e = .returned (.int .i64 (Lib.atoiOr s.data.toList (-1))) ∧ Bel w w' := by
  obtain ⟨ht, ⟨t1, p1, h1⟩, t2, p2, h2⟩ := hw
  unfold Lib.atoiOr
  cases ha : Lib.atoiAll s.data.toList with
  | ok v =>
    have H := Lib.hid (Tryd.strconv_Atoi_ok s (by omega) v ha w)
    clear ha ht h1 h2 hs
    go_enter Tryd.func16, Tryd.ntmps16
    go_wp2_with fail
    go_at_call 28
    refine H.out.mono ?_
    rintro e w1 ⟨rfl, hb⟩
    have hb1 : Hid (Bel w w1) := by
      rcases hb with rfl | ⟨t, rfl⟩
      · exact Bel.rf
      · exact Lib.bytesWorld_below _ _ _
    clear hb
    go_wp2
    go_ret
    exact ⟨rfl, hb1.out⟩
  | «syntax» =>
    have H := Lib.hid (Tryd.strconv_Atoi_syntax_var s hs ha t1 p1 w h1)
    clear ha ht h1 h2 hs
    go_enter Tryd.func16, Tryd.ntmps16
    go_wp2_with fail
    go_at_call 28
    refine H.out.mono ?_
    rintro e w1 ⟨N, rfl, _, _, hb⟩
    have hb1 : Hid (Bel w w1) := hb
    clear hb
    go_wp2
    go_ret
    exact ⟨rfl, hb1.out⟩
  | range =>
    have H := Lib.hid (Tryd.strconv_Atoi_range_var s hs ha t2 p2 w h2)
    clear ha ht h1 h2 hs
    go_enter Tryd.func16, Tryd.ntmps16
    go_wp2_with fail
    go_at_call 28
    refine H.out.mono ?_
    rintro e w1 ⟨N, rfl, _, _, hb⟩
    have hb1 : Hid (Bel w w1) := hb
    clear hb
    go_wp2
    go_ret
    exact ⟨rfl, hb1.out⟩
end Go.Proofs.YtbldfchapnbdfaaDoor.Rr
