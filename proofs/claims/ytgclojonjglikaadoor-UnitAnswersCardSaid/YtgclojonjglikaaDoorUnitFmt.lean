/- The contract of unit.Format over valid decimals. -/
import Derived.Test.YtgclojonjglikaaDoorTxtRound
import Derived.Test.YtgclojonjglikaaDoorUnitAwake
import Derived.Stop.LaidErr
import Derived.Lib.AppendIntMem
namespace Go.Proofs.YtgclojonjglikaaDoor.Un
open Go.ChangeShapes Go.WideShapes Go.RowKit Wo
set_option linter.unusedVariables false
/-- the library's table of the powers of ten -/
def Itab (w : World) : Prop := Lib.TabIs Tryd.prog w "internal/strconv.uint64pow10" .u64 Lib.pow10Tab
theorem Itab.bel {w w' : World} (h : Itab w) (hb : Bel w w') : Itab w' := by
  unfold Itab Lib.TabIs World.var? at h ⊢
  rcases hg : Tryd.prog.globalNamed "internal/strconv.uint64pow10" with _ | g
  · rw [hg] at h; cases h
  · rw [hg] at h
    simp only [Option.bind_some] at h ⊢
    have hlt : g < w.heap.size := by
      rcases Nat.lt_or_ge g w.heap.size with h1 | h1
      · exact h1
      · rw [Array.getElem?_eq_none h1] at h; cases h
    rw [Below.block hb g hlt]
    exact h
def Both (w : World) : Prop := Itab w ∧ Pows w
theorem Both.bel {w w' : World} (h : Both w) (hb : Bel w w') : Both w' := ⟨h.1.bel hb, h.2.bel hb⟩
theorem both_of {W : World} (h : laidMetH Tryd.prog [("math/bits.deBruijn32tab", Rows.laid_math_bits_deBruijn32tab), ("math/bits.deBruijn64tab", Rows.laid_math_bits_deBruijn64tab), ("internal/strconv.uint64pow10", Rows.laid_internal_strconv_uint64pow10), ("shapesearch/unit.powers", Rows.laid_shapesearch_unit_powers)] W) : Both W := by
  rw [MakeChecks.laidMetH_plain _ _ _ (by kernel_rfl)] at h
  have h2 := h.tail.tail
  have h3 := h2.tail
  refine ⟨Lib.tabIs_of_head (g := 1) (t := 93) (e := 80) (n := 20) (by kernel_rfl) (by kernel_rfl) Tryd.underlying93 Tryd.underlying80 (by kernel_rfl) (by kernel_rfl) h2, pows_of ?_⟩
  rw [MakeChecks.laidMetH_plain _ _ _ (by kernel_rfl)]
  exact h3
theorem valid_ok (x : Int) (p : Nat) (x1 : -1000000000 ≤ x) (x2 : x ≤ 1000000000) (hp : p ≤ 6) (w : World) : Calls Tryd.prog 25 #[.agg #[.int .i64 x, .int .i64 (p : Int)]] w fun e w' => e = .returned (.bool true) ∧ Bel w w' := by
  have p1 : (p : Int) ≤ 6 := by omega
  go_enter Tryd.func25, Tryd.ntmps25
  go_wp2
  go_ret
  exact ⟨rfl, Bel.rf.al _⟩
theorem abs_ok (x : Int) (n : Nat) (hn : x.natAbs = n) (x1 : -1000000000 ≤ x) (x2 : x ≤ 1000000000) (w : World) : Calls Tryd.prog 27 #[.int .i64 x] w fun e w' => e = .returned (.int .i64 (n : Int)) ∧ w = w' := by
  go_enter Tryd.func27, Tryd.ntmps27
  go_wp2
  go_ret
  exact ⟨ret_int (by omega), rfl⟩
theorem itoa_nat (n : Nat) : Lib.itoa (n : Int) = Lib.decDigits n := by
  unfold Lib.itoa
  rw [if_neg (by omega), Int.toNat_natCast]
theorem repeatL_48 (z : Nat) : Lib.repeatL [48] z = List.replicate z 48 := by
  induction z with
  | zero => rfl
  | succ z ih => rw [List.replicate_succ, ← ih]; rfl
theorem nd_le {n : Nat} (h : n ≤ 1000000000) : Lib.nDigits n ≤ 10 := by
  rcases Nat.lt_or_ge 10 (Lib.nDigits n) with h1 | h1
  · exfalso
    have key : ∀ k u, k < Lib.nDigits u → 10 ^ k ≤ u ∨ k = 0 := by
      intro k
      induction k with
      | zero => intro u _; exact .inr rfl
      | succ k ih =>
        intro u hu
        by_cases h10 : u < 10
        · rw [Lib.nDigits_small h10] at hu; omega
        · rw [Lib.nDigits_big h10] at hu
          rcases ih (u / 10) (by omega) with h2 | h2
          · left; rw [Nat.pow_succ]; omega
          · left; subst h2; simp; omega
    rcases key 10 n h1 with h2 | h2
    · have : (10 : Nat) ^ 10 = 10000000000 := by decide
      omega
    · omega
  · exact h1
theorem ba_of (x : ByteArray) (l : List UInt8) (h : x.data.toList = l) : x = ⟨l.toArray⟩ := by
  subst h
  exact (Lib.mk_data x).symm
theorem cut_of (t : ByteArray) (D : List UInt8) (hD : t.data.toList = D) (Q T p : Nat) (hT : T = D.length) (hQ : Q = D.length - p) :
    (t.extract 0 Q ++ ⟨#[46]⟩ ++ t.extract Q T).data.toList = D.take (D.length - p) ++ 46 :: D.drop (D.length - p) := by
  rw [ByteArray.data_append, Array.toList_append, ByteArray.data_append, Array.toList_append, Lib.extract_data, Lib.extract_data, hD, hT, hQ]
  rw [List.drop_zero, Nat.sub_zero, List.take_of_length_le (l := D.drop _) (Nat.le_of_eq (List.length_drop ..))]
  simp
set_option maxHeartbeats 8000000 in
set_option maxRecDepth 100000 in
theorem fm_any (x : Int) (p : Nat) (x1 : -1000000000 ≤ x) (x2 : x ≤ 1000000000) (hp : p ≤ 6) (w : World) (hw : Itab w) :
    Calls Tryd.prog 9 #[.agg #[.int .i64 x, .int .i64 (p : Int)]] w fun e w' => e = .returned (.string ⟨(fm x p).toArray⟩) ∧ Bel w w' := by
  have HW := Lib.hid hw
  obtain ⟨n, hn⟩ : ∃ n, x.natAbs = n := ⟨_, rfl⟩
  have HA : Hid (∀ W, Calls Tryd.prog 27 #[.int .i64 x] W fun e w' => e = .returned (.int .i64 (n : Int)) ∧ W = w') := abs_ok x n hn x1 x2
  have HV : Hid (∀ W, Calls Tryd.prog 25 #[.agg #[.int .i64 x, .int .i64 (p : Int)]] W fun e w' => e = .returned (.bool true) ∧ Bel W w') := valid_ok x p x1 x2 hp
  obtain ⟨s, hs⟩ : ∃ s : ByteArray, (⟨(Lib.decDigits n).toArray⟩ : ByteArray) = s := ⟨_, rfl⟩
  have HI : Hid (∀ W, Itab W → Calls Tryd.prog 26 #[.int .i64 (n : Int)] W fun e w' => e = .returned (.string s) ∧ Bel W w') := fun W hW =>
    (Tryd.strconv_Itoa (n : Int) (by omega) (by omega) W hW).mono fun e w' ⟨he, k, os, hh⟩ => ⟨by rw [he, itoa_nat, hs], by rw [hh]; exact Lib.below_grow _ W (Nat.le_refl _) k os⟩
  obtain ⟨k, hk⟩ : ∃ k, Lib.nDigits n = k := ⟨_, rfl⟩
  have hsk : s.size = k := by rw [← hs, ← hk, ← Lib.decDigits_length]; rfl
  have hk0 : 1 ≤ k := by rw [← hk]; exact Lib.nDigits_pos n
  have hk1 : k ≤ 10 := by rw [← hk]; exact nd_le (by omega)
  have hsd : s.data.toList = Lib.decDigits n := by rw [← hs]
  have HE := Lib.hid (And.intro hn (And.intro hs (And.intro hk hsd)))
  have ki0 : 1 ≤ (k : Int) := by omega
  have ki1 : (k : Int) ≤ 10 := by omega
  have pi0 : 0 ≤ (p : Int) := by omega
  have pi1 : (p : Int) ≤ 6 := by omega
  clear hw hs hk hsd hn
  go_enter Tryd.func9, Tryd.ntmps9
  go_wp2_with fail
  go_at_call 25
  refine (HV.out _).mono ?_
  rintro e w1 ⟨rfl, hb1⟩
  have HB1 : Hid (Bel w w1) := (Bel.rf.al _).tr hb1
  have HK1 : Bk w1 w.heap.size 23 #[.int .i64 x, .int .i64 (p : Int)] := (Bk.nw _ _ _).bel hb1
  have HX1 := Lib.hid HK1
  have l0 : w1.cell? ⟨w.heap.size, 0, none⟩ = some (.int .i64 x) := HK1.cell 0
  have l1 : w1.cell? ⟨w.heap.size, 1, none⟩ = some (.int .i64 (p : Int)) := HK1.cell 1
  clear hb1 HK1
  go_wp2_with fail
  go_at_call 27
  refine (HA.out _).mono ?_
  rintro e w' ⟨rfl, rfl⟩
  go_wp2_with fail
  go_at_call 26
  refine (HI.out _ (HW.out.bel HB1.out)).mono ?_
  rintro e w2 ⟨rfl, hb2⟩
  have HB2 : Hid (Bel w w2) := HB1.out.tr hb2
  have HK2 := HX1.out.bel hb2
  have HX2 := Lib.hid HK2
  have m0 : w2.cell? ⟨w.heap.size, 0, none⟩ = some (.int .i64 x) := HK2.cell 0
  have m1 : w2.cell? ⟨w.heap.size, 1, none⟩ = some (.int .i64 (p : Int)) := HK2.cell 1
  clear hb2 HK2 l0 l1
  rcases Nat.lt_or_ge k (p + 1) with hlk | hlk
  · obtain ⟨z, hz⟩ : ∃ z, p + 1 - k = z := ⟨_, rfl⟩
    have hzi : (p : Int) + 1 - (k : Int) = (z : Int) := by omega
    have z0 : 0 < (z : Int) := by omega
    have z1 : (z : Int) ≤ 7 := by omega
    have z2 : z ≤ 7 := by omega
    obtain ⟨r, hr⟩ : ∃ r : ByteArray, (⟨(Lib.repeatL [48] z).toArray⟩ : ByteArray) = r := ⟨_, rfl⟩
    have hrd : r.data.toList = List.replicate z 48 := by rw [← hr, repeatL_48]
    have hrs : r.size = z := by rw [Lib.size_eq, hrd]; simp
    have HR : Hid (∀ W, Calls Tryd.prog 28 #[.string ⟨#[48]⟩, .int .i64 (z : Int)] W fun e w' => e = .returned (.string r) ∧ Bel W w') := fun W =>
      (Tryd.strings_Repeat ⟨#[48]⟩ z W (by omega) (by show 1 * z ≤ _; omega)).mono fun e w' ⟨he, hb⟩ => ⟨by rw [he, ← hr], hb⟩
    have HZ := Lib.hid (And.intro hz hrd)
    clear hr hrd
    go_wp2_with fail
    go_at_call 28
    refine (HR.out _).mono ?_
    rintro e w3 ⟨rfl, hb3⟩
    have HB3 : Hid (Bel w w3) := HB2.out.tr hb3
    have HK3 := HX2.out.bel hb3
    have q0 : w3.cell? ⟨w.heap.size, 0, none⟩ = some (.int .i64 x) := HK3.cell 0
    have q1 : w3.cell? ⟨w.heap.size, 1, none⟩ = some (.int .i64 (p : Int)) := HK3.cell 1
    obtain ⟨t, ht⟩ : ∃ t : ByteArray, r ++ s = t := ⟨_, rfl⟩
    have htd : t.data.toList = pad n p := by
      rw [← ht, ByteArray.data_append, Array.toList_append, HZ.out.2, HE.out.2.2.2]
      unfold pad
      rw [HE.out.2.2.1, HZ.out.1]
    have hts : t.size = p + 1 := by rw [← ht, ByteArray.size_append]; omega
    have HT := Lib.hid htd
    clear hb3 HK3 m0 m1 htd
    obtain ⟨T, hT⟩ : ∃ T, T = p + 1 := ⟨_, rfl⟩
    have hsT : t.size = T := by rw [hT]; exact hts
    rcases Nat.eq_zero_or_pos p with hp0 | hp0
    · exfalso; omega
    · have pz : 0 < (p : Int) := by omega
      obtain ⟨q, hq⟩ : ∃ q, T - p = q := ⟨_, rfl⟩
      have hqi : (T : Int) - (p : Int) = (q : Int) := by omega
      have hq2 : q ≤ T := by omega
      have hq3 : (q : Int) ≤ (T : Int) := by omega
      have hT1 : (T : Int) ≤ 17 := by omega
      have hT2 : T ≤ 17 := by omega
      have hq4 : q ≤ 17 := by omega
      have hq5 : q ≤ t.size := by omega
      have hlen : (pad n p).length = T := by rw [← HT.out, ← Lib.size_eq]; exact hsT
      have hcut := cut_of t (pad n p) HT.out (1) (p + 1) p (by omega) (by omega)
      have HCUT := Lib.hid hcut
      clear hcut hlen
      rcases Int.lt_or_le x 0 with hx | hx
      · go_wp2
        go_quiet (fail)
        go_wp2
        refine bodyPost_ret (v := .string ((⟨#[45]⟩ : ByteArray) ++ (t.extract 0 (1) ++ ⟨#[46]⟩ ++ t.extract (1) (p + 1)))) (by simp [results, Tryd.results9, go_sem]) rfl ⟨congrArg (fun b => Ending.returned (.string b)) (ba_of _ _ ?_), HB3.out.drwN _⟩
        · rw [ByteArray.data_append, Array.toList_append, HCUT.out, ← HE.out.1]
          unfold fm fb
          rw [if_pos hx, if_neg (by omega)]
          rfl
      · go_wp2
        go_quiet (fail)
        go_wp2
        refine bodyPost_ret (v := .string (t.extract 0 (1) ++ ⟨#[46]⟩ ++ t.extract (1) (p + 1))) (by simp [results, Tryd.results9, go_sem]) rfl ⟨congrArg (fun b => Ending.returned (.string b)) (ba_of _ _ ?_), HB3.out.drwN _⟩
        · rw [HCUT.out, ← HE.out.1]
          unfold fm fb
          rw [if_neg (by omega), if_neg (by omega)]
  · have hlz : (p : Int) + 1 - (k : Int) ≤ 0 := by omega
    have htd : s.data.toList = pad n p := by
      rw [HE.out.2.2.2]
      unfold pad
      rw [HE.out.2.2.1, show p + 1 - k = 0 by omega]
      rfl
    have HT := Lib.hid htd
    have HB3 := HB2
    clear htd
    obtain ⟨T, hT⟩ : ∃ T, T = k := ⟨_, rfl⟩
    have hsT : s.size = T := by rw [hT]; exact hsk
    rcases Nat.eq_zero_or_pos p with hp0 | hp0
    · subst hp0
      rcases Int.lt_or_le x 0 with hx | hx
      · go_wp2
        refine bodyPost_ret (v := .string ((⟨#[45]⟩ : ByteArray) ++ s)) (by simp [results, Tryd.results9, go_sem]) rfl ⟨congrArg (fun b => Ending.returned (.string b)) (ba_of _ _ ?_), HB3.out⟩
        rw [ByteArray.data_append, Array.toList_append, HT.out, ← HE.out.1]
        unfold fm fb
        rw [if_pos hx, if_pos rfl]
        rfl
      · go_wp2
        refine bodyPost_ret (v := .string (s)) (by simp [results, Tryd.results9, go_sem]) rfl ⟨congrArg (fun b => Ending.returned (.string b)) (ba_of _ _ ?_), HB3.out⟩
        rw [HT.out, ← HE.out.1]
        unfold fm fb
        rw [if_neg (by omega), if_pos rfl]
    · have pz : 0 < (p : Int) := by omega
      obtain ⟨q, hq⟩ : ∃ q, T - p = q := ⟨_, rfl⟩
      have hqi : (T : Int) - (p : Int) = (q : Int) := by omega
      have hq2 : q ≤ T := by omega
      have hq3 : (q : Int) ≤ (T : Int) := by omega
      have hT1 : (T : Int) ≤ 17 := by omega
      have hT2 : T ≤ 17 := by omega
      have hq4 : q ≤ 17 := by omega
      have hq5 : q ≤ s.size := by omega
      have hlen : (pad n p).length = T := by rw [← HT.out, ← Lib.size_eq]; exact hsT
      have hcut := cut_of s (pad n p) HT.out (k - p) (k) p (by omega) (by omega)
      have HCUT := Lib.hid hcut
      clear hcut hlen
      rcases Int.lt_or_le x 0 with hx | hx
      · go_wp2
        go_quiet (fail)
        go_wp2
        refine bodyPost_ret (v := .string ((⟨#[45]⟩ : ByteArray) ++ (s.extract 0 (k - p) ++ ⟨#[46]⟩ ++ s.extract (k - p) (k)))) (by simp [results, Tryd.results9, go_sem]) rfl ⟨congrArg (fun b => Ending.returned (.string b)) (ba_of _ _ ?_), HB3.out.drwN _⟩
        · rw [ByteArray.data_append, Array.toList_append, HCUT.out, ← HE.out.1]
          unfold fm fb
          rw [if_pos hx, if_neg (by omega)]
          rfl
      · go_wp2
        go_quiet (fail)
        go_wp2
        refine bodyPost_ret (v := .string (s.extract 0 (k - p) ++ ⟨#[46]⟩ ++ s.extract (k - p) (k))) (by simp [results, Tryd.results9, go_sem]) rfl ⟨congrArg (fun b => Ending.returned (.string b)) (ba_of _ _ ?_), HB3.out.drwN _⟩
        · rw [HCUT.out, ← HE.out.1]
          unfold fm fb
          rw [if_neg (by omega), if_neg (by omega)]
end Go.Proofs.YtgclojonjglikaaDoor.Un
