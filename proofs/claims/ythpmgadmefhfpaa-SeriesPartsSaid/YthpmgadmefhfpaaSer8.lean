/- series: Starts as a call, and the law's example. -/
import Derived.Test.YthpmgadmefhfpaaSer3
import Derived.Test.YthpmgadmefhfpaaSer6
import Derived.Test.YthpmgadmefhfpaaSer7
namespace Go.Proofs.Ythpmgadmefhfpaa.Se
open Go.ChangeShapes Go.WideShapes Go.RowKit Wo Sr Wi
set_option linter.unusedVariables false
def stz (L : List Int) (m : Nat) : List Int := (sts L m).map Int.ofNat
theorem stz_len (L : List Int) (m : Nat) : (stz L m).length = (sts L m).length := by simp [stz]
theorem stz_at {L : List Int} {m i : Nat} (h : i < (sts L m).length) : (stz L m).getD i 0 = ((sts L m).getD i 0 : Nat) := by
  simp [stz, List.getD_eq_getElem?_getD, h]
def SomeStarts (L : List Int) (m : Nat) (w : World) (e : Ending) (w' : World) : Prop := ∃ (A : Option Addr) (k c : Nat), e = .returned (.slice A k c) ∧ k = (sts L m).length ∧ Zi w' A k (stz L m) ∧ Bel w w'
theorem starts_c (st sp : Int) (A : Option Addr) (n c m : Nat) (L : List Int) (h : Sb st sp n) (hs : Sv L) (m1 : 1 ≤ m) (m2 : m ≤ 300) (w : World) (hz : Zi w A n L) :
    Calls Try.prog 12 #[.agg #[.int .i64 st, .int .i64 sp, .slice A n c], .int .i64 (m : Int)] w (SomeStarts L m w) := by
  refine (callsIn_wide.1 (starts_in st sp A n c m L h hs m1 m2 w hz)).mono ?_
  rintro e w' ⟨v, rfl, hr, hb⟩
  obtain ⟨A', c', rfl, hz', _⟩ := row_zi hr (by simp)
  exact ⟨A', _, c', rfl, rfl, hz', hb⟩
theorem sts_ex : sts exL 2 = [0, 3, 4] := by decide
theorem we_ex : we exL 1 2 = 13 := by decide
theorem wz_ex : wz exL 1 2 = [] := by decide
theorem sb_ex : Sb 100 10 6 := by unfold Sb; decide
theorem cut_ex (g : Nat) (W : World) (h : Vs W (some ⟨g, 0, none⟩) 6 6 exL) : Calls Try.prog 17 #[.agg #[.int .i64 100, .int .i64 10, .slice (some ⟨g, 0, none⟩) 6 6], .int .i64 3, .int .i64 2] W (SomeCut 130 10 2 [3, 4] W) :=
  cut_any 100 10 _ 6 6 exL sb_ex exL_sv 3 2 (by decide) 130 (by decide) W h
def SomeMiss (w : World) (e : Ending) (w' : World) : Prop := ∃ (A : Option Addr) (k c : Nat), e = .returned (.tuple #[.slice A k c, .int .i64 13]) ∧ Bel w w'
theorem win_ex (g : Nat) (W : World) (h : Vs W (some ⟨g, 0, none⟩) 6 6 exL) : Calls Try.prog 13 #[.agg #[.int .i64 100, .int .i64 10, .slice (some ⟨g, 0, none⟩) 6 6], .int .i64 1, .int .i64 2] W (SomeMiss W) :=
  (window_any 100 10 _ 6 6 exL sb_ex exL_sv 1 2 (by decide) (by decide) (by decide) W h).mono fun e w' ⟨A, k, c, he, _, _, hb⟩ => ⟨A, k, c, by rw [he, we_ex], hb⟩
theorem starts_ex (g : Nat) (W : World) (h : Vs W (some ⟨g, 0, none⟩) 6 6 exL) : Calls Try.prog 12 #[.agg #[.int .i64 100, .int .i64 10, .slice (some ⟨g, 0, none⟩) 6 6], .int .i64 2] W (SomeStarts exL 2 W) :=
  starts_c 100 10 _ 6 6 2 exL sb_ex exL_sv (by decide) (by decide) W h.1
set_option maxHeartbeats 400000 in
theorem awake_any (w : World) : Calls Try.prog 11 #[] w fun e w' => e = .returned (.bool true) ∧ Bel w w' := by
  go_enter Try.func11, Try.ntmps11
  go_wp2_with fail
  go_at_call 28
  refine (example_ok _).mono ?_
  rintro e w1 ⟨rfl, hv1, hb1⟩
  have HB1 := Lib.hid hb1
  have HV1 := Lib.hid hv1
  clear hb1 hv1
  go_wp2_with fail
  go_at_call 17
  refine (cut_ex _ _ HV1.out).mono ?_
  rintro e w2 ⟨A2, c2, rfl, hv2, hb2⟩
  have HB2 := Lib.hid (HB1.out.tr hb2)
  have HV2 := Lib.hid hv2.1
  have HS := Lib.hid (Bk.nw w2 24 #[.int .i64 130, .int .i64 10, .slice A2 2 c2])
  clear hb2 hv2
  go_wp2_with fail
  go_at_call 28
  refine (example_ok _).mono ?_
  rintro e w3 ⟨rfl, hv3, hb3⟩
  simp only [World.size_alloc] at hv3
  have HB23 : Hid (Bel w2 w3) := (Bel.rf.al _).tr hb3
  have HS3 := Lib.hid (HS.out.bel hb3)
  have HV3 := Lib.hid hv3
  clear hb3 hv3
  go_wp2_with fail
  go_at_call 13
  refine (win_ex _ _ HV3.out).mono ?_
  rintro e w4 ⟨A4, k4, c4, rfl, hb4⟩
  have HB24 : Hid (Bel w2 w4) := HB23.out.tr hb4
  have HS4 := Lib.hid (HS3.out.bel hb4)
  clear hb4
  go_wp2_with fail
  go_at_call 28
  refine (example_ok _).mono ?_
  rintro e w5 ⟨rfl, hv5, hb5⟩
  have HB25 : Hid (Bel w2 w5) := HB24.out.tr hb5
  have HS5 := Lib.hid (HS4.out.bel hb5)
  have HV5 := Lib.hid hv5
  clear hb5 hv5
  go_wp2_with fail
  go_at_call 12
  refine (starts_ex _ _ HV5.out).mono ?_
  rintro e w6 ⟨A6, k6, c6, rfl, hk6, hz6, hb6⟩
  have hk : k6 = 3 := by rw [hk6, sts_ex]; rfl
  subst hk
  have hz6' : Zi w6 A6 3 [0, 3, 4] := by have := hz6; unfold stz at this; rw [sts_ex] at this; exact this
  have HZ6 := Lib.hid hz6'
  have HB26 : Hid (Bel w2 w6) := HB25.out.tr hb6
  have HS6 := Lib.hid (HS5.out.bel hb6)
  clear hk6 hz6 hz6' hb6
  go_wp2_with fail
  go_at_call 15
  refine (ints_same A6 _ c6 3 3 [0, 3, 4] (by decide) _ (HZ6.out.bel (Bel.rf.al _)) (zi_bk (L := [0, 3, 4]) (t := 3) (Bk.nw _ _ _) 3 rfl)).mono ?_
  rintro e w7 ⟨rfl, hb7⟩
  have HB27 : Hid (Bel w2 w7) := (HB26.out.al _).tr hb7
  have S7 := (HS6.out.al _).bel hb7
  have d0 := S7.cell 0
  have d1 := S7.cell 1
  have d2 := S7.cell 2
  have dl := S7.lt
  clear hb7 S7
  go_wp2_with fail
  go_at_call 19
  refine (same_yes 130 10 A2 _ c2 2 2 [3, 4] (by decide) _ (by have := HV2.out.bel (HB27.out.al (.cells #[.int .i64 3, .int .i64 4] 3)); exact this) (zi_bk (L := [3, 4]) (t := 3) (Bk.nw _ _ _) 2 rfl)).mono ?_
  rintro e w8 ⟨rfl, hb8⟩
  go_wp2
  go_ret
  exact ⟨rfl, HB2.out.tr ((HB27.out.al _).tr hb8)⟩
end Go.Proofs.Ythpmgadmefhfpaa.Se
