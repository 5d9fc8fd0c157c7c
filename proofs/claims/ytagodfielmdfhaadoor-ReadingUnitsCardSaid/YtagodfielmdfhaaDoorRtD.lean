/- reading.isTime of any word. -/
import Derived.Test.YtagodfielmdfhaaDoorRtC
namespace Go.Proofs.YtagodfielmdfhaaDoor.Rt
open Go.ChangeShapes Go.WideShapes Go.RowKit Wo Un Rg
open Rm (Rp tm vl)
set_option linter.unusedVariables false
def dg : List UInt8 := [48, 49, 50, 51, 52, 53, 54, 55, 56, 57]
set_option maxRecDepth 100000 in
theorem dg_all : ∀ n : Fin 256, dg.contains (UInt8.ofNat n.val) = (decide (48 ≤ (UInt8.ofNat n.val).toNat) && decide ((UInt8.ofNat n.val).toNat ≤ 57)) := by decide
theorem dg_is (c : UInt8) : dg.contains c = (decide (48 ≤ c.toNat) && decide (c.toNat ≤ 57)) := by
  have h := dg_all ⟨c.toNat, UInt8.toNat_lt c⟩
  rwa [show UInt8.ofNat c.toNat = c from UInt8.ofNat_toNat] at h
theorem dw_nil (p : UInt8 → Bool) : ∀ l : List UInt8, l.dropWhile p = [] ↔ l.all p = true
  | [] => by simp
  | c :: l => by
    have ih := dw_nil p l
    rw [List.dropWhile_cons, List.all_cons]
    cases hc : p c
    · simp
    · simpa using ih
theorem trim_nil (l : List UInt8) : Lib.trimS l dg = [] ↔ l.all (fun c => decide (48 ≤ c.toNat) && decide (c.toNat ≤ 57)) = true := by
  have e : (fun c => decide (48 ≤ c.toNat) && decide (c.toNat ≤ 57)) = (fun c : UInt8 => dg.contains c) := by funext c; exact (dg_is c).symm
  rw [e]
  unfold Lib.trimS Lib.trimLeftS Lib.trimRightS
  constructor
  · intro h
    have h1 := (dw_nil _ _).1 h
    rw [List.all_reverse] at h1
    -- what is left begins (from behind) with no digit
    rcases hq : l.reverse.dropWhile (dg.contains ·) with _ | ⟨c, r⟩
    · have := (dw_nil _ _).1 hq
      rwa [List.all_reverse] at this
    · exfalso
      have hc : dg.contains c = false := by
        have := List.head?_dropWhile_not (dg.contains ·) l.reverse
        rw [hq] at this
        simpa using this
      rw [hq, List.all_cons, hc] at h1
      simp at h1
  · intro h
    have h1 : l.reverse.dropWhile (dg.contains ·) = [] := (dw_nil _ _).2 (by rw [List.all_reverse]; exact h)
    rw [h1]; rfl
theorem tr_emp (l : List UInt8) : (Lib.trimS l [48, 49, 50, 51, 52, 53, 54, 55, 56, 57]).isEmpty = l.all (fun c => decide (48 ≤ c.toNat) && decide (c.toNat ≤ 57)) := by
  rw [Bool.eq_iff_iff, List.isEmpty_iff]
  exact trim_nil l
theorem isT_in (l : List UInt8) (h1 : 1 ≤ l.length) (h2 : l.length ≤ 13) : isT l = (!(l.head? == some 48 && l != [48]) && (Lib.trimS l [48, 49, 50, 51, 52, 53, 54, 55, 56, 57]).isEmpty) := by
  unfold isT
  rw [decide_eq_true h1, decide_eq_true h2, tr_emp, Bool.true_and, Bool.true_and]
set_option maxHeartbeats 2000000 in
theorem isTime_any (s : ByteArray) (hs : s.size ≤ 20000) (w : World) : Calls Tryd.prog 25 #[.string s] w fun e w' => e = .returned (.bool (isT s.data.toList)) ∧ Bel w w' := by
  have hle : s.data.toList.length = s.size := (Lib.size_eq s).symm
  have HT := Lib.hid (trim_any s (by omega))
  obtain ⟨r, hr⟩ : ∃ r, isT s.data.toList = r := ⟨_, rfl⟩
  rw [hr]
  have hu := hr
  unfold isT at hu
  rw [hle] at hu
  rcases Nat.lt_or_ge s.size 1 with h0 | h0
  · have hF : r = false := by rw [decide_eq_false (by omega)] at hu; simpa using hu.symm
    subst hF
    have s1 : (s.size : Int) < 1 := by omega
    clear hu hr hle HT
    go_enter Tryd.func25, Tryd.ntmps25
    go_wp2
    go_ret
    exact ⟨rfl, Bel.rf⟩
  · rcases Nat.lt_or_ge 13 s.size with h13 | h13
    · have hF : r = false := by rw [decide_eq_false (by omega : ¬ s.size ≤ 13)] at hu; simpa using hu.symm
      subst hF
      have s1 : ¬ (s.size : Int) < 1 := by omega
      have s2 : (13 : Int) < (s.size : Int) := by omega
      clear hu hr hle HT
      go_enter Tryd.func25, Tryd.ntmps25
      go_wp2
      go_ret
      exact ⟨rfl, Bel.rf⟩
    · have s1 : ¬ (s.size : Int) < 1 := by omega
      have s2 : ¬ (13 : Int) < (s.size : Int) := by omega
      have s3 : (0 : Int) < (s.size : Int) := by omega
      obtain ⟨c, rest, hl⟩ : ∃ c rest, s.data.toList = c :: rest := by
        rcases hq : s.data.toList with _ | ⟨c, rest⟩
        · rw [hq] at hle; simp at hle; omega
        · exact ⟨c, rest, rfl⟩
      have h00 : s[0] = c := by
        have : s.data.toList[0]? = some c := by rw [hl]; rfl
        have e2 : s.data.toList[0]? = some s[0] := by rw [Array.getElem?_toList]; exact Array.getElem?_eq_getElem _
        rw [e2] at this
        exact Option.some.inj this
      have hin := isT_in s.data.toList (by omega) (by omega)
      rw [hr, hl] at hin
      have htl : s.toList = c :: rest := by rw [Lib.toList_data]; exact hl
      rcases Classical.em (c.toNat = 48) with hc | hc
      · have c1 : ((c.toNat : Int) == 48) = true := by simpa using (by omega : (c.toNat : Int) = 48)
        have c2 : (c.toNat : Int) = 48 := by omega
        have c3 : c = 48 := u8_eq hc
        rcases Classical.em (rest = []) with hre | hre
        · have kq : (s.toList == [48]) = true := by rw [htl, c3, hre]; rfl
          have HR : Hid (r = (Lib.trimS (c :: rest) [48, 49, 50, 51, 52, 53, 54, 55, 56, 57]).isEmpty) := by
            unfold Hid
            rw [hin, c3, hre]; rfl
          clear hu hr hin htl c3 hre
          go_enter Tryd.func25, Tryd.ntmps25
          go_wp2_with fail
          go_at_call 31
          refine (HT.out _).mono ?_
          rintro e w1 ⟨rfl, hb⟩
          go_wp2
          exact bodyPost_ret (v := .bool r) (by rw [HR.out]; simp [results, Tryd.results25, go_sem]) rfl ⟨rfl, hb⟩
        · have kq : (s.toList == [48]) = false := by
            rw [htl, c3]
            simpa using hre
          have hF : r = false := by
            have : ((48 :: rest) != ([48] : List UInt8)) = true := by simpa using hre
            rw [hin, c3, this]; rfl
          subst hF
          clear hu hr hin htl c3 HT
          go_enter Tryd.func25, Tryd.ntmps25
          go_wp2
          go_ret
          exact ⟨rfl, Bel.rf⟩
      · have c1 : ((c.toNat : Int) == 48) = false := by simpa using (by omega : ¬ (c.toNat : Int) = 48)
        have c2 : ¬ (c.toNat : Int) = 48 := by omega
        have HR : Hid (r = (Lib.trimS (c :: rest) [48, 49, 50, 51, 52, 53, 54, 55, 56, 57]).isEmpty) := by
          unfold Hid
          have : (some c == some (48 : UInt8)) = false := by
            simp
            intro e; rw [e] at hc; exact hc rfl
          rw [hin, List.head?_cons, this]; rfl
        clear hu hr hin htl
        go_enter Tryd.func25, Tryd.ntmps25
        go_wp2_with fail
        go_at_call 31
        refine (HT.out _).mono ?_
        rintro e w1 ⟨rfl, hb⟩
        go_wp2
        exact bodyPost_ret (v := .bool r) (by rw [HR.out]; simp [results, Tryd.results25, go_sem]) rfl ⟨rfl, hb⟩
end Go.Proofs.YtagodfielmdfhaaDoor.Rt
