/- The contracts of limits.Windows and limits.Window over windows that keep the rules, and of keep's Ints where two lists differ: for a seat without euclid. -/
import Derived.Test.YtkonknkoggfeaaaZi
import Derived.Test.YtkonknkoggfeaaaEucMath
namespace Go.Proofs.Ytkonknkoggfeaaa.Eu
open Go.ChangeShapes Go.WideShapes Go.RowKit Wo Sr Wi
set_option linter.unusedVariables false
theorem sam_l {L : List Int} (h : (L.all fun x => decide (-1000 ≤ x) && decide (x ≤ 1000)) = true) : Sam L := fun x hx => by
  have := List.all_eq_true.1 h x hx
  simpa using this
set_option maxHeartbeats 4000000 in
theorem windows_ok (A A' : Option Addr) (c c' n : Nat) (L M : List Int) (n1 : 2 ≤ n) (n2 : n ≤ 32) (hs : Sam L) (ht : Sam M) (w : World) (h1 : Zi w A n L) (h2 : Zi w A' n M) :
    Calls Try.prog 47 #[.slice A n c, .slice A' n c', .int .i64 0] w fun e w' => e = .returned (.int .i64 0) ∧ Bel w w' := by
  have H1 := Lib.hid h1
  have H2 := Lib.hid h2
  have HS := Lib.hid hs
  have HT := Lib.hid ht
  have i1 : 2 ≤ (n : Int) := by omega
  have i2 : (n : Int) ≤ 32 := by omega
  clear h1 h2 hs ht
  go_enter Try.func47, Try.ntmps47
  go_wp2_with fail
  go_at_call 23
  refine (length_ok (n : Int) i1 i2 _).mono ?_
  rintro e v ⟨rfl, rfl⟩
  go_wp2_with fail
  go_at_call 23
  refine (length_ok (n : Int) i1 i2 _).mono ?_
  rintro e v ⟨rfl, rfl⟩
  go_wp2_with fail
  go_at_call 43
  refine (samples_ok A c n L (by omega) HS.out _ H1.out).mono ?_
  rintro e w1 ⟨rfl, hb1⟩
  have HB1 := Lib.hid hb1
  clear hb1
  go_wp2_with (go_at_call 43; refine (samples_ok A' c' n M (by omega) HT.out _ (H2.out.bel HB1.out)).mono ?_; rintro e w2 ⟨rfl, hb2⟩)
  go_ret
  exact ⟨rfl, HB1.out.tr hb2⟩
theorem window_ok (A : Option Addr) (c n : Nat) (L : List Int) (n1 : 2 ≤ n) (n2 : n ≤ 32) (hs : Sam L) (w : World) (h1 : Zi w A n L) :
    Calls Try.prog 22 #[.slice A n c] w fun e w' => e = .returned (.int .i64 0) ∧ Bel w w' := by
  have H1 := Lib.hid h1
  have HS := Lib.hid hs
  have i1 : 2 ≤ (n : Int) := by omega
  have i2 : (n : Int) ≤ 32 := by omega
  clear h1 hs
  go_enter Try.func22, Try.ntmps22
  go_wp2_with fail
  go_at_call 23
  refine (length_ok (n : Int) i1 i2 _).mono ?_
  rintro e v ⟨rfl, rfl⟩
  go_wp2_with (go_at_call 43; refine (samples_ok A c n L (by omega) HS.out _ H1.out).mono ?_; rintro e w2 ⟨rfl, hb2⟩)
  go_ret
  exact ⟨rfl, hb2⟩
/-- a part of a slice -/
theorem zi_sub {w : World} {h N : Nat} {Z : List Int} (hz : Zi w (some ⟨h, 0, none⟩) N Z) (i n : Nat) (hi : i + n ≤ N) : Zi w (some ⟨h, i, none⟩) n ((Z.drop i).take n) := by
  have hl := hz.1
  refine ⟨by simp; omega, fun hn => ?_⟩
  obtain ⟨ad, e, hx, _⟩ := hz.2 (by omega)
  cases e
  refine ⟨_, rfl, hx, fun j hj => ?_⟩
  have := hz.at (i + j) (by omega)
  rw [show (⟨h, i, none⟩ : Addr).add j = ⟨h, i + j, none⟩ by unfold Addr.add; split <;> simp_all, this]
  simp [List.getD_eq_getElem?_getD, hj]
set_option maxHeartbeats 4000000 in
theorem ints_diff (A A' : Option Addr) (c c' n : Nat) (L M : List Int) (hn : n ≤ 1000000) (hd : L ≠ M) (w : World) (h1 : Zi w A n L) (h2 : Zi w A' n M) :
    Calls Try.prog 11 #[.slice A n c, .slice A' n c'] w fun e w' => e = .returned (.bool false) ∧ Bel w w' := by
  have H1 := Lib.hid h1
  have H2 := Lib.hid h2
  have ni : (n : Int) ≤ 1000000 := by omega
  have HDF : Hid (¬ ∀ j, j < n → L.getD j 0 = M.getD j 0) := by
    show ¬ _
    intro hall
    apply hd
    apply List.ext_getElem?
    intro i
    rcases Nat.lt_or_ge i n with hi | hi
    · have := hall i hi
      rw [List.getD_eq_getElem?_getD, List.getD_eq_getElem?_getD, List.getElem?_eq_getElem (by rw [h1.1]; exact hi), List.getElem?_eq_getElem (by rw [h2.1]; exact hi)] at this
      rw [List.getElem?_eq_getElem (by rw [h1.1]; exact hi), List.getElem?_eq_getElem (by rw [h2.1]; exact hi)]
      exact congrArg some this
    · rw [List.getElem?_eq_none (by rw [h1.1]; exact hi), List.getElem?_eq_none (by rw [h2.1]; exact hi)]
  clear h1 h2 hd
  go_enter Try.func11, Try.ntmps11
  go_wp2
  go_loopw [13] (fun s13 wr => ∃ (k : Nat) (V : World), V = wr ∧ k ≤ n ∧ s13 = .int .i64 (k : Int) ∧ (∀ j, j < k → L.getD j 0 = M.getD j 0) ∧ Bel w wr) (fun s13 _ => n - (intOf s13).toNat)
  case atStart => exact ⟨0, _, rfl, by omega, rfl, fun j hj => by omega, Bel.rf⟩
  case round =>
    obtain ⟨k, wr, hwr, hk, rfl, hall, hb⟩ := hrel
    subst hwr
    have HB := Lib.hid hb
    have HAL := Lib.hid hall
    rcases Nat.lt_or_ge k n with hlt | hge
    · obtain ⟨ad, rfl, hab, hac⟩ := (H1.out.bel hb).2 (by omega)
      obtain ⟨ad', rfl, hab', hac'⟩ := (H2.out.bel hb).2 (by omega)
      have c1 := hac k hlt
      have c2 := hac' k hlt
      obtain ⟨x, hx⟩ : ∃ x, L.getD k 0 = x := ⟨_, rfl⟩
      obtain ⟨y, hy⟩ : ∃ x, M.getD k 0 = x := ⟨_, rfl⟩
      rw [hx] at c1
      rw [hy] at c2
      have ki : (k : Int) < (n : Int) := by omega
      have HXY := Lib.hid (And.intro hx hy)
      clear hb hac hac' hab hab' hx hy hall
      rcases Classical.em (x = y) with rfl | hxy
      · have kn := ne_self x
        go_wp2
        go_quiet (fail)
        go_wp2
        go_roundw
        case rel => exact ⟨k + 1, _, rfl, by omega, by go_num, fun j hj => by
          rcases Nat.lt_or_ge j k with h | h
          · exact HAL.out j h
          · obtain rfl : j = k := by omega
            rw [HXY.out.1, HXY.out.2], HB.out.drwN _⟩
        case measure => simp [intOf]; omega
      · have kn : (x != y) = true := by simpa using hxy
        go_wp2
        go_quiet (fail)
        go_wp2
        go_ret
        exact ⟨rfl, HB.out.drwN _⟩
    · obtain rfl : k = n := by omega
      exact absurd hall HDF.out
end Go.Proofs.Ytkonknkoggfeaaa.Eu
