/- ref01.Decimal of any number that is not negative; ref05.Number; ref04.Format. -/
import Derived.Test.YtgclojonjglikaaDoorTxtRound
import Derived.Test.YtgclojonjglikaaDoorUnitRefC
import Derived.Deep.RegionHeld3
import Derived.Laws.IdiomStrings
namespace Go.Proofs.YtgclojonjglikaaDoor.Rd1
open Go.ChangeShapes Go.WideShapes Go.RowKit Wo Un
set_option linter.unusedVariables false
open Go.Lib in
theorem nd_13 {n : Nat} (h : n ≤ 1099511627776) : nDigits n ≤ 13 := by
  rcases Nat.lt_or_ge 13 (nDigits n) with h1 | h1
  · exfalso
    have key : ∀ k u, k < nDigits u → 10 ^ k ≤ u ∨ k = 0 := by
      intro k
      induction k with
      | zero => intro u _; exact .inr rfl
      | succ k ih =>
        intro u hu
        by_cases h10 : u < 10
        · rw [nDigits_small h10] at hu; omega
        · rw [nDigits_big h10] at hu
          rcases ih (u / 10) (by omega) with h2 | h2
          · left; rw [Nat.pow_succ]; omega
          · left; subst h2; simp; omega
    rcases key 13 n h1 with h2 | h2
    · have : (10 : Nat) ^ 13 = 10000000000000 := by decide
      omega
    · omega
  · exact h1
open Go.Lib in
theorem fb_zero (n : Nat) : fb n 0 = decDigits n := by
  unfold fb pad
  have := nDigits_pos n
  rw [if_pos rfl, show 0 + 1 - nDigits n = 0 by omega]; rfl
set_option maxHeartbeats 2000000 in
set_option maxRecDepth 100000 in
theorem decimal_any (N : Nat) (hN : N ≤ 1099511627776) (w : World) : Calls Tryd.prog 22 #[.int .i64 (N : Int)] w fun e w' => e = .returned (.string ⟨(Lib.decDigits N).toArray⟩) ∧ Bel w w' := by
  go_enter Tryd.func22, Tryd.ntmps22
  go_wp2
  go_loopw [0, 3] (fun s0 s3 wr => ∃ (u : Nat) (x : ByteArray) (V : World), V = wr ∧ s0 = .int .i64 (u : Int) ∧ s3 = .string x ∧ u ≤ N ∧ Lib.decDigits N = Lib.decDigits u ++ x.data.toList ∧ Bel w wr) (fun s0 _ _ => (intOf s0).toNat)
  case atStart => exact ⟨N, ⟨#[]⟩, _, rfl, rfl, rfl, Nat.le_refl _, by simp, Bel.rf⟩
  case round =>
    obtain ⟨u, x, wr, hwr, rfl, rfl, hu, hd, hb⟩ := hrel
    subst hwr
    obtain ⟨d, hd1⟩ : ∃ d, u % 10 = d := ⟨_, rfl⟩
    obtain ⟨q, hq1⟩ : ∃ q, u / 10 = q := ⟨_, rfl⟩
    have t1 : Int.tmod (u : Int) 10 = (d : Int) := by rw [Int.tmod_eq_emod_of_nonneg (by omega)]; omega
    have t2 : Int.tdiv (u : Int) 10 = (q : Int) := by rw [Int.tdiv_eq_ediv_of_nonneg (by omega)]; omega
    have d1 : d < 10 := by omega
    have t3 : (48 + (d : Int)) % 256 = 48 + (d : Int) := by omega
    have HD := Lib.hid hd
    have HB := Lib.hid hb
    have HQ := Lib.hid (And.intro hd1 hq1)
    have HXS : Hid (x.size ≤ 100) := by
      have h1 := congrArg List.length hd
      rw [List.length_append, Lib.decDigits_length, ← Lib.size_eq] at h1
      have := nd_13 hN
      show x.size ≤ 100
      omega
    have xs := HXS.out
    clear hd hb hd1 hq1
    obtain ⟨c, hc⟩ : ∃ c : UInt8, c = UInt8.ofNat (48 + d) := ⟨_, rfl⟩
    have hcn : c.toNat = 48 + d := by rw [hc]; exact u8_of d1
    have hcv : (convert 61 9 (.slice (some ⟨wr.heap.size, 0, none⟩) 1 1)).run Tryd.prog (wr.alloc (.cells #[.int .u8 (48 + (d : Int))] 5)) = .ok (.string ⟨#[c]⟩) (wr.alloc (.cells #[.int .u8 (48 + (d : Int))] 5)) :=
      run_convert_bytes_back (P := Tryd.prog) _ 61 9 5 ⟨wr.heap.size, 0, none⟩ 1 [c] Tryd.underlying61 Tryd.underlying5 Tryd.underlying9 (fun j hj => by
        obtain rfl : j = 0 := by simpa using hj
        rw [show ((⟨wr.heap.size, 0, none⟩ : Addr).add 0) = ⟨wr.heap.size, 0, none⟩ from rfl, (Bk.nw wr 5 #[.int .u8 (48 + (d : Int))]).cell]
        show some (Value.int .u8 (48 + (d : Int))) = some (Value.int .u8 (c.toNat : Int))
        rw [hcn]; rfl)
    have HC := Lib.hid (And.intro hc hcn)
    clear hc hcn
    rcases Nat.eq_zero_or_pos q with h0 | h0
    · subst h0
      have hfin : Lib.decDigits N = c :: x.data.toList := by
        have hud : u = d := by have := HQ.out; omega
        rw [HD.out, dec_small (by have := HQ.out; omega), HC.out.1, hud]; rfl
      have key : (⟨#[c]⟩ : ByteArray) ++ x = ⟨(Lib.decDigits N).toArray⟩ := by
        rw [hfin]
        have e : ((⟨#[c]⟩ : ByteArray) ++ x).data.toList = c :: x.data.toList := by rw [ByteArray.data_append, Array.toList_append]; rfl
        rw [← e]
        try exact (Lib.mk_data _).symm
      have HF := Lib.hid key
      clear hfin key
      go_wp2
      exact bodyPost_ret (v := .string ((⟨#[c]⟩ : ByteArray) ++ x)) (by simp [results, Tryd.results22, go_sem]) rfl ⟨by rw [HF.out], HB.out.al _⟩
    · have q0 : ((q : Int) == 0) = false := by simp; omega
      have q1 : ¬ (q : Int) = 0 := by omega
      have q2 : ¬ q = 0 := by omega
      have hnx : Lib.decDigits N = Lib.decDigits q ++ c :: x.data.toList := by
        have h10 : ¬ u < 10 := by have := HQ.out; omega
        rw [HD.out, dec_big h10, HQ.out.1, HQ.out.2, ← HC.out.1]; simp
      have hnx2 : Lib.decDigits N = Lib.decDigits q ++ ((⟨#[c]⟩ : ByteArray) ++ x).data.toList := by
        rw [hnx, ByteArray.data_append, Array.toList_append]; rfl
      have HF := Lib.hid hnx2
      have wq : wrap64 (q : Int) = (q : Int) := IntWalk.wrap64_in _ (by have := HQ.out; omega)
      have HQU : Hid (q < u ∧ q ≤ N) := by have := HQ.out; exact ⟨by omega, by omega⟩
      clear hnx hnx2
      go_wp2
      go_roundw
      case rel => exact ⟨q, _, _, rfl, by rw [wq], rfl, HQU.out.2, HF.out, HB.out.al _⟩
      case measure => rw [wq]; simp [intOf]; exact HQU.out.1
end Go.Proofs.YtgclojonjglikaaDoor.Rd1
