/- reading.parseLine of any line, the cases put together. -/
import Derived.Test.YtagodfielmdfhaaDoorRtQ
namespace Go.Proofs.YtagodfielmdfhaaDoor.Rt
open Go.ChangeShapes Go.WideShapes Go.RowKit Wo Un Rg Go.MapKept
open Rm (Rp tm vl)
set_option linter.unusedVariables false
theorem splitK_len (sep : List UInt8) : ∀ (k : Nat) (l x : List UInt8), x ∈ Lib.splitK sep 0 k l → x.length ≤ l.length
  | 0, l, x, h => by
    have : x = l := by simpa [Lib.splitK] using h
    rw [this]; exact Nat.le_refl _
  | k + 1, l, x, h => by
    unfold Lib.splitK at h
    split at h
    · have : x = l := by simpa using h
      rw [this]; exact Nat.le_refl _
    · rcases List.mem_cons.1 h with h | h
      · rw [h, List.length_take]; omega
      · have := splitK_len sep k _ x h
        simp only [List.length_drop] at this; omega
theorem dec_val : ∀ (l : List UInt8) (acc : Nat), allD l → Lib.decFrom acc l = some (l.foldl (fun v c => 10 * v + (c.toNat - 48)) acc)
  | [], acc, _ => rfl
  | c :: l, acc, h => by
    have hc := h c (by simp)
    unfold Lib.decFrom Lib.digitVal
    rw [if_pos ⟨hc.1, hc.2⟩]
    show Lib.decFrom (acc * 10 + (c.toNat - 48)) l = _
    rw [dec_val l _ (fun x hx => h x (by simp [hx])), List.foldl_cons, Nat.mul_comm]
theorem atoi_val (l : List UInt8) (h : allD l) (hn : l ≠ []) : Lib.atoi l = some ((val l : Nat) : Int) := by
  rcases l with _ | ⟨c, l⟩
  · exact absurd rfl hn
  · have hc := h c (by simp)
    have n1 : (c == 45) = false := by
      rw [beq_eq_false_iff_ne]; intro e; rw [e] at hc; exact absurd hc (by unfold isD; decide)
    have n2 : (c == 43) = false := by
      rw [beq_eq_false_iff_ne]; intro e; rw [e] at hc; exact absurd hc (by unfold isD; decide)
    show (if (c == 45) = true then _ else if (c == 43) = true then _ else (Lib.decNat (c :: l)).map fun (m : Nat) => (m : Int)) = _
    rw [n1, n2]
    show (Lib.decNat (c :: l)).map (fun (m : Nat) => (m : Int)) = _
    unfold Lib.decNat
    rw [if_neg (by simp), dec_val _ _ h]; rfl
theorem isT_facts {l : List UInt8} (h : isT l = true) : allD l ∧ l ≠ [] ∧ l.length ≤ 13 := by
  unfold isT at h
  simp only [Bool.and_eq_true, decide_eq_true_eq, List.all_eq_true] at h
  obtain ⟨h1, h2, _, h3⟩ := h
  exact ⟨fun c hc => ⟨by simpa using (h3 c hc).1, by simpa using (h3 c hc).2⟩, fun e => by rw [e] at h1; simp at h1, h2⟩
theorem look_mem {US : List Ut} {n : List UInt8} {u : Ut} (h : look US n = some u) : u ∈ US ∧ u.nm = n := by
  have := List.find?_some h
  exact ⟨List.mem_of_find?_eq_some h, by simpa using this⟩
theorem three {α : Type} {l : List α} (h : l.length = 3) : ∃ a b c, l = [a, b, c] := by
  rcases l with _ | ⟨a, _ | ⟨b, _ | ⟨c, _ | ⟨d, l⟩⟩⟩⟩
  all_goals first | exact ⟨_, _, _, rfl⟩ | (simp at h)
theorem line_any (s : ByteArray) (hs : s.size ≤ 20000) (US : List Ut) (hU : ∀ u ∈ US, GoodU u) (r : Nat) (w : World) (hM : Mp w r US) (hPW : Pows w) :
    Calls Tryd.prog 19 #[.string s, .map (some r)] w (LineR US s w) := by
  by_cases h3 : (wds s).length = 3
  · obtain ⟨a, b, n, hW⟩ := three h3
    have hd := wds_data s
    rw [hW] at hd
    have hsp : Lib.split s.data.toList [32] = [a.data.toList, b.data.toList, n.data.toList] := hd.symm
    have hlen : ∀ x : ByteArray, x.data.toList ∈ Lib.split s.data.toList [32] → x.size ≤ s.size := fun x hx => by
      have := splitK_len [32] _ _ _ hx
      rw [Lib.size_eq x, Lib.size_eq s]; exact this
    have ha := hlen a (by rw [hsp]; simp)
    have hb := hlen b (by rw [hsp]; simp)
    have htl : (⟨(Lib.trimPrefix b.data.toList [45]).toArray⟩ : ByteArray).size ≤ 4611686018427387904 := by
      have h1 : (Lib.trimPrefix b.data.toList [45]).length ≤ b.data.toList.length := by
        unfold Lib.trimPrefix
        split
        · simp
        · exact Nat.le_refl _
      rw [Lib.size_eq]
      have h2 := Lib.size_eq b
      show (Lib.trimPrefix b.data.toList [45]).length ≤ _
      omega
    have hL : lineS US s.data.toList = line3 US a.data.toList b.data.toList n.data.toList := by
      unfold lineS
      rw [hsp]
    unfold line3 at hL
    by_cases hn : n.data.toList = []
    · exact line_en s a b n hs US hW (by omega) hn r w (by rw [hL, if_pos (.inl hn)])
    cases hT : isT a.data.toList
    · exact line_nt s a b n hs US hW (by omega) hn hT r w (by rw [hL, if_pos (.inr hT)])
    rw [if_neg (by rw [hT]; simp [hn])] at hL
    obtain ⟨hAD, hne, h13⟩ := isT_facts hT
    have HA : Hid (∀ w, Calls Tryd.prog 27 #[.string a] w fun e w' => e = .returned (.tuple #[.int .i64 ((val a.data.toList : Nat) : Int), .nilIface]) ∧ Bel w w') := fun w =>
      (Tryd.strconv_Atoi a _ (by rw [Lib.size_eq]; omega) (atoi_val _ hAD hne) w).mono fun e w' ⟨he, t, hw⟩ => ⟨he, by rw [hw]; exact Lib.bytesWorld_below _ _ _⟩
    have hok := rn_ok (Lib.trimPrefix b.data.toList [45])
    generalize hS : rn (Lib.trimPrefix b.data.toList [45]) = S at hL hok
    generalize hm : Lib.hasPrefix b.data.toList [45] = m at hL
    by_cases hrej : rej S m = true
    · rw [if_pos hrej] at hL
      exact line_pf s a b n hs US hW (by omega) hn hT htl 0 0 3 (by rw [hS, hm]; unfold prs; rw [if_pos hrej]) rfl r w hL
    rw [if_neg hrej] at hL
    by_cases hdg : 1000000000 < S.digits
    · have hp : prs (rn (Lib.trimPrefix b.data.toList [45])) (Lib.hasPrefix b.data.toList [45]) = .tuple #[.agg #[.int .i64 0, .int .i64 0], .int .i64 1] := by
        rw [hS, hm]; unfold prs; rw [if_neg hrej, if_pos hdg]
      rw [if_pos hdg] at hL
      by_cases htm : 1099511627776 < ((val a.data.toList : Nat) : Int)
      · rw [if_pos htm] at hL
        exact line_late s a b n hs US hW (by omega) hn hT htl 0 0 1 _ hp HA (by decide) htm r w hL
      · rw [if_neg htm] at hL
        exact line_range s a b n hs US hW (by omega) hn hT htl 0 0 1 _ hp HA rfl htm r w hL
    · rw [if_neg hdg] at hL
      have hrf : rej S m = false := by simpa using hrej
      have hpl : S.places ≤ 6 := by
        unfold rej at hrf
        simp only [Bool.or_eq_false_iff, decide_eq_false_iff_not] at hrf
        omega
      obtain ⟨p, hpp⟩ := Int.eq_ofNat_of_zero_le hok.2.2.2.2.1
      have hp : prs (rn (Lib.trimPrefix b.data.toList [45])) (Lib.hasPrefix b.data.toList [45]) = .tuple #[.agg #[.int .i64 (if m = true then -S.digits else S.digits), .int .i64 (p : Int)], .int .i64 0] := by
        rw [hS, hm]; unfold prs; rw [if_neg hrej, if_neg hdg, hpp]
      by_cases htm : 1099511627776 < ((val a.data.toList : Nat) : Int)
      · rw [if_pos htm] at hL
        exact line_late s a b n hs US hW (by omega) hn hT htl _ _ 0 _ hp HA (by decide) htm r w hL
      rw [if_neg htm] at hL
      rcases hlk : look US n.data.toList with _ | u
      · rw [hlk] at hL
        exact line_unit s a b n hs US hW (by omega) hn hT htl _ _ 0 _ hp HA rfl htm hlk r w hM hL
      · rw [hlk] at hL
        obtain ⟨hmem, _⟩ := look_mem hlk
        obtain ⟨g1, g2, g3, g4, g5, g6, g7⟩ := hU u hmem
        have d0 := hok.1
        have hX : -1000000000 ≤ (if m = true then -S.digits else S.digits) ∧ (if m = true then -S.digits else S.digits) ≤ 1000000000 := by split <;> omega
        generalize (if m = true then -S.digits else S.digits) = X at hp hX hL
        have hpv : cv X S.places u = hup (X * u.mul + u.add * 10 ^ p) (u.div * 10 ^ p) := by
          unfold cv p10; rw [hpp]; rfl
        simp only at hL
        rw [hpv] at hL
        by_cases hsm : smp (hup (X * u.mul + u.add * 10 ^ p) (u.div * 10 ^ p)) = true
        · rw [if_pos hsm] at hL
          exact line_conv s a b n hs US hW (by omega) hn hT htl _ _ 0 _ hp HA u.nm u.mul u.add u.div _ 0
            (fun w hw => conv_as X p _ _ _ _ _ hX.1 hX.2 (by omega) g1 g2 g3 g4 g5 g6 g7 (by unfold cvt; rw [if_pos hsm]) w hw) rfl htm hlk r w hM hPW hL
        · rw [if_neg hsm] at hL
          exact line_conv s a b n hs US hW (by omega) hn hT htl _ _ 0 _ hp HA u.nm u.mul u.add u.div 0 12
            (fun w hw => conv_as X p _ _ _ _ _ hX.1 hX.2 (by omega) g1 g2 g3 g4 g5 g6 g7 (by unfold cvt; rw [if_neg hsm]) w hw) rfl htm hlk r w hM hPW hL
  · exact line_short s hs US h3 r w
end Go.Proofs.YtagodfielmdfhaaDoor.Rt
