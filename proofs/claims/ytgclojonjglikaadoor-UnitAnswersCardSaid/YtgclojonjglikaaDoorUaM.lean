/- unit's Parse and Format return what the reference's do, for any texts and decimals. -/
import Derived.Test.YtgclojonjglikaaDoorURp
import Derived.Test.YtgclojonjglikaaDoorRefG
import Derived.Test.YtgclojonjglikaaDoorUnitBoth
namespace Go.Proofs.YtgclojonjglikaaDoor.Un
open Go.ChangeShapes Go.WideShapes Go.RowKit Wo Rd1
set_option linter.unusedVariables false
theorem prs_ex (S : Sc) (m : Bool) : ∃ X P E : Int, prs S m = .tuple #[.agg #[.int .i64 X, .int .i64 P], .int .i64 E] := by
  unfold prs
  split
  · exact ⟨_, _, _, rfl⟩
  · split
    · exact ⟨_, _, _, rfl⟩
    · exact ⟨_, _, _, rfl⟩
theorem rparse_any (s : ByteArray) (hs : s.size ≤ 900) (W : World) : Calls Tryd.prog 8 #[.string s] W fun e w' => e = .returned (prs (rn (Lib.trimPrefix s.data.toList [45])) (Lib.hasPrefix s.data.toList [45])) ∧ Bel W w' := by
  have hz : s.size = s.data.toList.length := by simp
  have hd : (⟨s.data.toList.toArray⟩ : ByteArray) = s := by rcases s with ⟨⟨l⟩⟩; rfl
  have hat : ∀ h : 0 < s.size, s.data.toList.head? = some s[0] := fun h => by
    rcases s with ⟨⟨l⟩⟩
    cases l with
    | nil => exact absurd h (by simp [ByteArray.size])
    | cons c t => rfl
  rcases hm : Lib.hasPrefix s.data.toList [45] with _ | _
  · have e := pre_no _ hm
    rw [e]
    refine rparse_core s s false (by omega) (by omega) (.inl ⟨rfl, ?_, rfl⟩) W
    rcases Nat.eq_zero_or_pos s.size with h | h
    · exact .inl h
    · refine .inr ⟨h, fun q => ?_⟩
      have h1 := hat h
      cases hl : s.data.toList with
      | nil => rw [hl] at h1; cases h1
      | cons c t =>
        rw [hl] at h1 hm
        have h2 : c = s[0] := by injection h1
        have h3 : c = 45 := by rw [h2]; exact UInt8.toNat_inj.1 q
        rw [h3] at hm
        simp [Lib.hasPrefix] at hm
  · have e := pre_of _ hm
    obtain ⟨b, hb⟩ : ∃ b : ByteArray, (⟨(Lib.trimPrefix s.data.toList [45]).toArray⟩ : ByteArray) = b := ⟨_, rfl⟩
    have hbl : b.data.toList = Lib.trimPrefix s.data.toList [45] := by rw [← hb]
    have hsz : s.size = b.size + 1 := by
      rw [hz, e, List.length_cons, ← hbl]; simp
    have hsp : 0 < s.size := by omega
    rw [← hbl]
    refine rparse_core s b true (by omega) (by omega) (.inr ⟨rfl, ⟨hsp, ?_⟩, ?_⟩) W
    · have h1 := hat hsp
      rw [e] at h1
      have h2 : (45 : UInt8) = s[0] := by injection h1
      rw [← h2]; rfl
    · have h3 : (s.extract 1 s.size).data.toList = b.data.toList := by
        rw [← hbl] at e
        rw [ByteArray.data_extract, Array.toList_extract]
        have hb2 : b.size = b.data.toList.length := by simp
        generalize b.data.toList = t at e hb2
        rw [e, List.extract_eq_take_drop, show s.size - 1 = t.length by omega]
        simp
      exact ByteArray.ext (Array.toList_inj.1 h3.symm)
theorem both_parse (s : ByteArray) (hs : s.size ≤ 900) : ∃ X P E : Int,
    (∀ W, Calls Tryd.prog 7 #[.string s] W fun e w' => e = .returned (.tuple #[.agg #[.int .i64 X, .int .i64 P], .int .i64 E]) ∧ Bel W w') ∧
    (∀ W, Calls Tryd.prog 8 #[.string s] W fun e w' => e = .returned (.tuple #[.agg #[.int .i64 X, .int .i64 P], .int .i64 E]) ∧ Bel W w') := by
  obtain ⟨X, P, E, h⟩ := prs_ex (rn (Lib.trimPrefix s.data.toList [45])) (Lib.hasPrefix s.data.toList [45])
  refine ⟨X, P, E, fun W => ?_, fun W => ?_⟩
  · have := parse_any s ⟨(Lib.trimPrefix s.data.toList [45]).toArray⟩ _ (by
        have h1 := Lib.trimPrefix_le s.data.toList [45]
        have h2 := Lib.size_eq s
        show (Lib.trimPrefix s.data.toList [45]).toArray.size ≤ _
        rw [List.size_toArray]; omega) rfl rfl W
    rw [← h]; exact this
  · rw [← h]; exact rparse_any s hs W
theorem fm_rt (x : Int) (p : Nat) (h0 : -1000000000 ≤ x) (h1 : x ≤ 1000000000) (hp : p ≤ 6) : fm x p = rt x p := by
  obtain ⟨q, h2, h3, h4, h5, h6, h7⟩ := fm_again _ _ _ _ (rt_back x p h0 h1 hp)
  obtain rfl : p = q := by omega
  unfold fm rt
  rw [h6]
theorem fm_len (x : Int) (p : Nat) (h0 : -1000000000 ≤ x) (h1 : x ≤ 1000000000) (hp : p ≤ 6) : (fm x p).length ≤ 21 := by
  have h1 := pad_len x.natAbs p
  have h2 := nd_le (n := x.natAbs) (by omega)
  have h3 : (fb x.natAbs p).length ≤ 20 := by
    unfold fb
    split
    · omega
    · rw [List.length_append, List.length_cons, List.length_take, List.length_drop]; omega
  unfold fm
  split
  · rw [List.length_cons]; omega
  · omega
set_option maxHeartbeats 4000000 in
theorem ufmt_bad (x p : Int) (hno : ¬ DOk x p) (w : World) : Calls Tryd.prog 9 #[.agg #[.int .i64 x, .int .i64 p]] w fun e w' => e = .returned (.string ⟨#[]⟩) ∧ Bel w w' := by
  have HV : Hid (∀ W, Calls Tryd.prog 25 #[.agg #[.int .i64 x, .int .i64 p]] W fun e w' => e = .returned (.bool false) ∧ Bel W w') := fun W => by
    refine (dvalid_any x p W).mono ?_
    rintro e w' ⟨⟨_, h⟩ | ⟨h, _⟩, hb⟩
    · exact absurd h hno
    · exact ⟨h, hb⟩
  clear hno
  go_enter Tryd.func9, Tryd.ntmps9
  go_wp2_with (go_at_call 25; refine (HV.out _).mono ?_; rintro e w1 ⟨rfl, hb1⟩)
  go_ret
  exact ⟨rfl, (Bel.rf.al _).tr hb1⟩
set_option maxHeartbeats 4000000 in
theorem rfmt_bad (x p : Int) (hno : ¬ DOk x p) (w : World) : Calls Tryd.prog 6 #[.agg #[.int .i64 x, .int .i64 p]] w fun e w' => e = .returned (.string ⟨#[]⟩) ∧ Bel w w' := by
  have HV : Hid (∀ W, Calls Tryd.prog 20 #[.agg #[.int .i64 x, .int .i64 p]] W fun e w' => e = .returned (.bool false) ∧ Bel W w') := fun W => by
    refine (proper_any x p W).mono ?_
    rintro e w' ⟨⟨_, h⟩ | ⟨h, _⟩, hb⟩
    · exact absurd h hno
    · exact ⟨h, hb⟩
  clear hno
  go_enter Tryd.func6, Tryd.ntmps6
  go_wp2_with (go_at_call 20; refine (HV.out _).mono ?_; rintro e w1 ⟨rfl, hb1⟩)
  go_ret
  exact ⟨rfl, (Bel.rf.al _).tr hb1⟩
theorem both_format (x p : Int) : ∃ T : ByteArray, T.size ≤ 21 ∧
    (∀ W, Itab W → Calls Tryd.prog 9 #[.agg #[.int .i64 x, .int .i64 p]] W fun e w' => e = .returned (.string T) ∧ Bel W w') ∧
    (∀ W, Calls Tryd.prog 6 #[.agg #[.int .i64 x, .int .i64 p]] W fun e w' => e = .returned (.string T) ∧ Bel W w') := by
  rcases Classical.em (DOk x p) with h | h
  · obtain ⟨x1, x2, p1, p2⟩ := h
    obtain ⟨q, rfl⟩ := Int.eq_ofNat_of_zero_le p1
    refine ⟨⟨(fm x q).toArray⟩, ?_, fun W hW => fm_any x q x1 x2 (by omega) W hW, fun W => ?_⟩
    · have := fm_len x q x1 x2 (by omega)
      show (fm x q).toArray.size ≤ 21
      rw [List.size_toArray]; exact this
    · rw [fm_rt x q x1 x2 (by omega)]
      exact format_any x q x1 x2 (by omega) W
  · exact ⟨⟨#[]⟩, by decide, fun W _ => ufmt_bad x p h W, fun W => rfmt_bad x p h W⟩
end Go.Proofs.YtgclojonjglikaaDoor.Un
