/- cmp.Compare of numbers, slices.BinarySearchFunc over readings that ascend. -/
import Derived.Test.YtdkibffbaamkkaaRds
import Derived.Test.YtdkibffbaamkkaaHalf
namespace Go.Proofs.Ytdkibffbaamkkaa.Rg
open Go.ChangeShapes Go.WideShapes Go.RowKit Wo Sr Wi Rm
set_option linter.unusedVariables false
def cm (x y : Int) : Int := if x < y then -1 else if y < x then 1 else 0
theorem nan_ok (x : Int) (w : World) : Calls Try.prog 61 #[.int .i64 x] w fun e w' => e = .returned (.bool false) ∧ w = w' := by
  have n := ne_self x
  go_enter Try.func61, Try.ntmps61
  go_wp2
  go_ret
  exact ⟨rfl, rfl⟩
theorem compare_ok (x y : Int) (w : World) : Calls Try.prog 55 #[.int .i64 x, .int .i64 y] w fun e w' => e = .returned (.int .i64 (cm x y)) ∧ w = w' := by
  rcases Int.lt_trichotomy x y with h | h | h
  · have e : cm x y = -1 := if_pos h
    rw [e]
    clear e
    go_enter Try.func55, Try.ntmps55
    go_wp2_with (go_at_call 61; refine (nan_ok _ _).mono ?_; rintro e w' ⟨rfl, rfl⟩)
    go_wp2_with (go_at_call 61; refine (nan_ok _ _).mono ?_; rintro e w' ⟨rfl, rfl⟩)
    go_ret
    exact ⟨rfl, rfl⟩
  · have e : cm x y = 0 := by unfold cm; rw [if_neg (by omega), if_neg (by omega)]
    rw [e]
    clear e
    subst h
    go_enter Try.func55, Try.ntmps55
    go_wp2_with (go_at_call 61; refine (nan_ok _ _).mono ?_; rintro e w' ⟨rfl, rfl⟩)
    go_wp2_with (go_at_call 61; refine (nan_ok _ _).mono ?_; rintro e w' ⟨rfl, rfl⟩)
    go_ret
    exact ⟨rfl, rfl⟩
  · have e : cm x y = 1 := by unfold cm; rw [if_neg (by omega), if_pos h]
    rw [e]
    clear e
    go_enter Try.func55, Try.ntmps55
    go_wp2_with (go_at_call 61; refine (nan_ok _ _).mono ?_; rintro e w' ⟨rfl, rfl⟩)
    go_wp2_with (go_at_call 61; refine (nan_ok _ _).mono ?_; rintro e w' ⟨rfl, rfl⟩)
    go_ret
    exact ⟨rfl, rfl⟩
theorem closure_ok (x v y : Int) (w : World) : Calls Try.prog 54 #[.agg #[.int .i64 x, .int .i64 v], .int .i64 y] w fun e w' => e = .returned (.int .i64 (cm x y)) ∧ Bel w w' := by
  go_enter Try.func54, Try.ntmps54
  go_wp2_with (go_at_call 55; refine (compare_ok _ _ _).mono ?_; rintro e w' ⟨rfl, rfl⟩)
  go_ret
  exact ⟨rfl, by first | exact Bel.rf.al _ | exact (Bel.rf.al _).drwN _⟩
set_option maxHeartbeats 4000000 in
theorem search_ok (A : Option Addr) (c n : Nat) (l : List Rp) (hn : n ≤ 2000) (hs : Asc l) (t : Int) (w : World) (h : Zr w A n l) :
    Calls Try.prog 53 #[.slice A n c, .int .i64 t, .func (.func 54) #[] #[]] w fun e w' => e = .returned (.tuple #[.int .i64 (lb l t : Int), .bool (decide (lb l t < n ∧ tm l (lb l t) = t))]) ∧ Bel w w' := by
  have H1 := Lib.hid h
  have HS := Lib.hid hs
  have ni : (n : Int) ≤ 2000 := by omega
  clear h hs
  go_enter Try.func53, Try.ntmps53
  go_wp2
  go_loopw [9, 10] (fun s9 s10 wr => ∃ (i j : Nat) (V : World), V = wr ∧ i ≤ j ∧ j ≤ n ∧ s9 = .int .i64 (i : Int) ∧ s10 = .int .i64 (j : Int) ∧ Bel w wr ∧ (∀ q, q < i → tm l q < t) ∧ (∀ q, j ≤ q → q < n → t ≤ tm l q)) (fun s9 s10 _ => (intOf s10).toNat - (intOf s9).toNat)
  case atStart => exact ⟨0, n, _, rfl, by omega, by omega, rfl, rfl, Bel.rf, fun q hq => by omega, fun q h1 h2 => by omega⟩
  case round =>
    obtain ⟨i, j, wr, hwr, hij, hjn, rfl, rfl, hb, hlo, hhi⟩ := hrel
    subst hwr
    have HB := Lib.hid hb
    have HLH := Lib.hid (And.intro hlo hhi)
    clear hlo hhi
    rcases Nat.lt_or_ge i j with hlt | hge
    · obtain ⟨hh, hhe⟩ : ∃ h : Nat, (i + j) / 2 = h := ⟨_, rfl⟩
      have h1 : i ≤ hh := by omega
      have h2 : hh < j := by omega
      obtain ⟨g, rfl, hab, hac⟩ := (H1.out.bel hb).2 (by omega)
      obtain ⟨c1, c2⟩ := hac hh (by omega)
      obtain ⟨x, hxe⟩ : ∃ x, tm l hh = x := ⟨_, rfl⟩
      obtain ⟨y, hye⟩ : ∃ x, vl l hh = x := ⟨_, rfl⟩
      rw [hxe] at c1
      rw [hye] at c2
      have hdv : ((i : Int) + (j : Int)) / 2 = (hh : Int) := by omega
      have ki : (i : Int) < (j : Int) := by omega
      have ji : (j : Int) ≤ 2000 := by omega
      have hi1 : (hh : Int) < (n : Int) := by omega
      have hi2 : (hh : Int) ≤ 2000 := by omega
      have HX := Lib.hid (And.intro hxe hye)
      have HD := Lib.hid (And.intro h1 (And.intro h2 hhe))
      clear hb hac hab hxe hye hhe
      rcases Int.lt_or_le x t with hxt | hxt
      · have hcm : cm x t = -1 := if_pos hxt
        go_wp2_with (go_at_call 54; refine (closure_ok x y t _).mono ?_; rintro e w' ⟨rfl, hbr⟩; rw [hcm])
        go_roundw
        case rel => exact ⟨hh + 1, j, _, rfl, by omega, by omega, by go_num, rfl, by first | exact HB.out.tr hbr | exact (HB.out.drwN _).tr hbr | exact HB.out.drw.tr hbr, fun q hq => by
          rcases Nat.lt_or_ge q hh with h3 | h3
          · have := HS.out.lt h3 (by have := H1.out.1; omega)
            have := HX.out.1
            omega
          · rw [show q = hh by omega, HX.out.1]; exact hxt, HLH.out.2⟩
        case measure => simp [intOf]; omega
      · have hcm : 0 ≤ cm x t := by unfold cm; rw [if_neg (by omega)]; split <;> omega
        obtain ⟨cv, hcv⟩ : ∃ c, cm x t = c := ⟨_, rfl⟩
        rw [hcv] at hcm
        go_wp2_with (go_at_call 54; refine (closure_ok x y t _).mono ?_; rintro e w' ⟨rfl, hbr⟩; rw [hcv])
        go_roundw
        case rel => exact ⟨i, hh, _, rfl, by omega, by omega, rfl, rfl, by first | exact HB.out.tr hbr | exact (HB.out.drwN _).tr hbr | exact HB.out.drw.tr hbr, HLH.out.1, fun q hq hqn => by
          rcases Nat.lt_or_ge hh q with h3 | h3
          · have := HS.out.lt h3 (by have := H1.out.1; omega)
            have := HX.out.1
            omega
          · rw [show q = hh by omega, HX.out.1]; exact hxt⟩
        case measure => simp [intOf]; omega
    · obtain rfl : i = j := by omega
      have hlb : lb l t = i := lb_eq l t i HLH.out.1 (by have := H1.out.1; omega) (fun hi => HLH.out.2 i (by omega) (by have := H1.out.1; omega))
      have HLB := Lib.hid hlb
      clear hlb
      rcases Nat.lt_or_ge i n with hin | hin
      · obtain ⟨g, rfl, hab, hac⟩ := (H1.out.bel hb).2 (by omega)
        obtain ⟨c1, c2⟩ := hac i (by omega)
        obtain ⟨x, hxe⟩ : ∃ x, tm l i = x := ⟨_, rfl⟩
        obtain ⟨y, hye⟩ : ∃ x, vl l i = x := ⟨_, rfl⟩
        rw [hxe] at c1
        rw [hye] at c2
        have hi1 : (i : Int) < (n : Int) := by omega
        have hi2 : (i : Int) ≤ 2000 := by omega
        have HX := Lib.hid (And.intro hxe hye)
        clear hb hac hab hxe hye
        rcases Classical.em (x = t) with hxt | hxt
        · subst hxt
          have hcm : cm x x = 0 := by unfold cm; rw [if_neg (by omega), if_neg (by omega)]
          have EQ : Hid (Ending.returned (.tuple #[.int .i64 (lb l x : Int), .bool (decide (lb l x < n ∧ tm l (lb l x) = x))]) = .returned (.tuple #[.int .i64 (i : Int), .bool true])) := by
            show _ = _
            rw [HLB.out, HX.out.1, decide_eq_true (show i < n ∧ x = x from ⟨hin, rfl⟩)]
          go_wp2_with (go_at_call 54; refine (closure_ok x y x _).mono ?_; rintro e w' ⟨rfl, hbr⟩; rw [hcm])
          go_ret2
          exact ⟨EQ.out.symm, by first | exact HB.out.tr hbr | exact (HB.out.drwN _).tr hbr | exact HB.out.drw.tr hbr⟩
        · have hcm : cm x t ≠ 0 := by unfold cm; split <;> (try split) <;> omega
          obtain ⟨cv, hcv⟩ : ∃ c, cm x t = c := ⟨_, rfl⟩
          rw [hcv] at hcm
          have EQ : Hid (Ending.returned (.tuple #[.int .i64 (lb l t : Int), .bool (decide (lb l t < n ∧ tm l (lb l t) = t))]) = .returned (.tuple #[.int .i64 (i : Int), .bool false])) := by
            show _ = _
            rw [HLB.out, HX.out.1, decide_eq_false (show ¬ (i < n ∧ x = t) from fun h => hxt h.2)]
          have hcq : (cv == 0) = false := by simpa using hcm
          go_wp2_with (go_at_call 54; refine (closure_ok x y t _).mono ?_; rintro e w' ⟨rfl, hbr⟩; rw [hcv])
          go_ret2
          exact ⟨EQ.out.symm, by first | exact HB.out.tr hbr | exact (HB.out.drwN _).tr hbr | exact HB.out.drw.tr hbr⟩
      · obtain rfl : i = n := by omega
        have EQ : Hid (Ending.returned (.tuple #[.int .i64 (lb l t : Int), .bool (decide (lb l t < i ∧ tm l (lb l t) = t))]) = .returned (.tuple #[.int .i64 (i : Int), .bool false])) := by
          show _ = _
          rw [HLB.out, decide_eq_false (show ¬ (i < i ∧ tm l i = t) from fun h => by omega)]
        clear hb
        go_wp2
        go_ret2
        exact ⟨EQ.out.symm, by first | exact HB.out | exact HB.out.drwN _⟩
end Go.Proofs.Ytdkibffbaamkkaa.Rg
