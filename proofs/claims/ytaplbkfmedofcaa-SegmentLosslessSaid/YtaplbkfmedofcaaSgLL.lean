/- Merged: SgLm SgSs SgLd. -/
import Derived.Test.YtaplbkfmedofcaaSgAll
import Derived.Laws.CopyOwn
namespace Go.Proofs.Ytaplbkfmedofcaa.Se
open Go.ChangeShapes Go.WideShapes Go.RowKit Wo Sr Wi Sg
set_option linter.unusedVariables false
/-- from E on: gaps and then the pieces of l, in order -/
def Tl (W : List Int) : Nat → List (Nat × Nat) → Prop
  | E, [] => E ≤ W.length ∧ ∀ q, E ≤ q → q < W.length → W.getD q 1073741824 = 1073741824
  | E, p :: l => E ≤ p.1 ∧ (∀ q, E ≤ q → q < p.1 → W.getD q 1073741824 = 1073741824) ∧ 1 ≤ p.2 ∧ p.1 + p.2 ≤ W.length ∧ (∀ j, j < p.2 → W.getD (p.1 + j) 1073741824 ≠ 1073741824) ∧ Tl W (p.1 + p.2) l
theorem tl_from (W : List Int) : ∀ (vs : List Int) (i c E : Nat), W.drop i = vs → W.length = i + vs.length → c ≤ i → (∀ q, i - c ≤ q → q < i → W.getD q 1073741824 ≠ 1073741824) → E ≤ i - c → (∀ q, E ≤ q → q < i - c → W.getD q 1073741824 = 1073741824) → Tl W E (rns vs i c)
  | [], i, c, E, hd, hl, hc, hp, hE, hg => by
    have hl : W.length = i := by simpa using hl
    unfold rns
    by_cases h : 0 < c
    · rw [if_pos h]
      refine ⟨hE, hg, h, by omega, fun j hj => hp _ (by omega) (by omega), ?_⟩
      exact ⟨by omega, fun q h1 h2 => by omega⟩
    · rw [if_neg h]
      exact ⟨by omega, fun q h1 h2 => hg q h1 (by omega)⟩
  | v :: vs, i, c, E, hd, hl, hc, hp, hE, hg => by
    have hl : W.length = i + 1 + vs.length := by simp at hl; omega
    have hil : i < W.length := by omega
    have hv : W.getD i 1073741824 = v := by
      rw [List.getD_eq_getElem?_getD, List.getElem?_eq_getElem hil]
      rw [List.drop_eq_getElem_cons hil] at hd
      injection hd
    have hd2 : W.drop (i + 1) = vs := by
      rw [List.drop_eq_getElem_cons hil] at hd
      injection hd
    unfold rns
    by_cases hvm : v = 1073741824
    · rw [if_pos hvm]
      by_cases h : 0 < c
      · rw [if_pos h]
        refine ⟨hE, hg, h, by show i - c + c ≤ _; omega, fun j hj => hp _ (by show _ ≤ i - c + j; omega) (by show i - c + j < i; have : j < c := hj; omega), ?_⟩
        have e : i - c + c = i := by omega
        show Tl W (i - c + c) _
        rw [e]
        refine tl_from W vs (i + 1) 0 i hd2 hl (by omega) (fun q h1 h2 => by omega) (by omega) (fun q h1 h2 => ?_)
        rw [show q = i by omega, hv]; exact hvm
      · rw [if_neg h]
        refine tl_from W vs (i + 1) 0 E hd2 hl (by omega) (fun q h1 h2 => by omega) (by omega) (fun q h1 h2 => ?_)
        rcases Nat.lt_or_ge q i with h3 | h3
        · exact hg q h1 (by omega)
        · rw [show q = i by omega, hv]; exact hvm
    · rw [if_neg hvm]
      refine tl_from W vs (i + 1) (c + 1) E hd2 hl (by omega) (fun q h1 h2 => ?_) (by omega) (fun q h1 h2 => hg q h1 (by omega))
      rcases Nat.lt_or_ge q i with h3 | h3
      · exact hp q (by omega) h3
      · rw [show q = i by omega, hv]; exact hvm
theorem tl_runs (W : List Int) : Tl W 0 (rns W 0 0) := tl_from W W 0 0 0 rfl (by omega) (by omega) (fun q h1 h2 => by omega) (by omega) (fun q h1 h2 => by omega)
theorem tl_ckt (W : List Int) (f c : Nat) (rest : List (Nat × Nat)) (hc : f + c ≤ W.length) (hp : ∀ j, j < c → W.getD (f + j) 1073741824 ≠ 1073741824) (hr : Tl W (f + c) rest) :
    ∀ d t : Nat, t + d = (c + 63) / 64 → 1 ≤ t → Tl W (f + min (64 * t) c) (((List.range' t d).map fun t => (f + 64 * t, min 64 (c - 64 * t))) ++ rest)
  | 0, t, ht, h1 => by
    have e : min (64 * t) c = c := by omega
    rw [e]; exact hr
  | d + 1, t, ht, h1 => by
    have htc : 64 * t < c := by omega
    have ih := tl_ckt W f c rest hc hp hr d (t + 1) (by omega) (by omega)
    rw [List.range'_succ]
    refine ⟨by show _ ≤ f + 64 * t; omega, fun q h2 h3 => by have h3 : q < f + 64 * t := h3; omega, by show 1 ≤ min 64 (c - 64 * t); omega, by show f + 64 * t + min 64 (c - 64 * t) ≤ _; omega, fun j hj => ?_, ?_⟩
    · have hj : j < min 64 (c - 64 * t) := hj
      show W.getD (f + 64 * t + j) _ ≠ _
      rw [Nat.add_assoc]
      exact hp _ (by omega)
    · have e : f + 64 * t + min 64 (c - 64 * t) = f + min (64 * (t + 1)) c := by omega
      show Tl W (f + 64 * t + min 64 (c - 64 * t)) _
      rw [e]; exact ih
theorem tl_cks (W : List Int) : ∀ (l : List (Nat × Nat)) (E : Nat), Tl W E l → Tl W E (l.flatMap ck)
  | [], E, h => h
  | p :: l, E, ⟨h1, h2, h3, h4, h5, h6⟩ => by
    have ih := tl_cks W l _ h6
    rw [List.flatMap_cons]
    obtain ⟨d, hd⟩ : ∃ d, (p.2 + 63) / 64 = d + 1 := ⟨(p.2 + 63) / 64 - 1, by omega⟩
    have e : ck p = (p.1, min 64 p.2) :: ((List.range' 1 d).map fun t => (p.1 + 64 * t, min 64 (p.2 - 64 * t))) := by
      unfold ck ckt
      rw [hd, List.range_eq_range', List.range'_succ]
      rfl
    rw [e]
    refine ⟨h1, h2, by show 1 ≤ min 64 p.2; omega, by show p.1 + min 64 p.2 ≤ _; omega, fun j hj => h5 j (by have hj : j < min 64 p.2 := hj; omega), ?_⟩
    have := tl_ckt W p.1 p.2 (l.flatMap ck) h4 h5 ih d 1 (by omega) (by omega)
    rw [show 64 * 1 = 64 from rfl] at this
    exact this
theorem tl_all (L : List Int) : Tl L 0 (cks L) := tl_cks L _ 0 (tl_runs L)
/-- where the piece before the j-th ends -/
def en (l : List (Nat × Nat)) : Nat → Nat
  | 0 => 0
  | t + 1 => fr l t + ct l t
theorem tl_at {W : List Int} : ∀ (l : List (Nat × Nat)) (E t : Nat), Tl W E l → t < l.length → (t = 0 → E ≤ fr l 0 ∧ ∀ q, E ≤ q → q < fr l 0 → W.getD q 1073741824 = 1073741824) ∧ (∀ u, t = u + 1 → fr l u + ct l u ≤ fr l t ∧ ∀ q, fr l u + ct l u ≤ q → q < fr l t → W.getD q 1073741824 = 1073741824) ∧ 1 ≤ ct l t ∧ fr l t + ct l t ≤ W.length ∧ ∀ j, j < ct l t → W.getD (fr l t + j) 1073741824 ≠ 1073741824
  | [], E, t, _, ht => by simp at ht
  | r :: rs, E, 0, h, ht => ⟨fun _ => ⟨h.1, h.2.1⟩, fun u hu => by omega, h.2.2.1, h.2.2.2.1, h.2.2.2.2.1⟩
  | r :: rs, E, t + 1, h, ht => by
    have ih := tl_at rs (r.1 + r.2) t h.2.2.2.2.2 (by simpa using ht)
    refine ⟨fun h0 => by omega, fun u hu => ?_, ih.2.2.1, ih.2.2.2.1, ih.2.2.2.2⟩
    have : u = t := by omega
    subst this
    rcases u with _ | u
    · exact ih.1 rfl
    · exact ih.2.1 u rfl
theorem tl_end {W : List Int} : ∀ (l : List (Nat × Nat)) (E : Nat), Tl W E l → l ≠ [] → en l l.length ≤ W.length ∧ ∀ q, en l l.length ≤ q → q < W.length → W.getD q 1073741824 = 1073741824
  | [r], E, h, _ => h.2.2.2.2.2
  | r :: r' :: rs, E, h, _ => by
    have := tl_end (r' :: rs) (r.1 + r.2) h.2.2.2.2.2 (by simp)
    exact this
/-- a piece: where it lies, what is missing ahead of it -/
theorem piece_at {L : List Int} {t : Nat} (ht : t < (cks L).length) : en (cks L) t ≤ fr (cks L) t ∧ (∀ q, en (cks L) t ≤ q → q < fr (cks L) t → L.getD q 1073741824 = 1073741824) ∧ 1 ≤ ct (cks L) t ∧ fr (cks L) t + ct (cks L) t ≤ L.length ∧ ∀ j, j < ct (cks L) t → L.getD (fr (cks L) t + j) 1073741824 ≠ 1073741824 := by
  have h := tl_at (cks L) 0 t (tl_all L) ht
  rcases t with _ | t
  · exact ⟨(h.1 rfl).1, (h.1 rfl).2, h.2.2⟩
  · exact ⟨(h.2.1 t rfl).1, (h.2.1 t rfl).2, h.2.2⟩
theorem piece_end (L : List Int) : en (cks L) (cks L).length ≤ L.length ∧ ∀ q, en (cks L) (cks L).length ≤ q → q < L.length → L.getD q 1073741824 = 1073741824 := by
  rcases h : cks L with _ | ⟨r, rs⟩
  · have := tl_all L
    rw [h] at this
    exact this
  · have := tl_end (cks L) 0 (tl_all L) (by rw [h]; simp)
    rw [h] at this
    exact this
theorem ckt_sum (p : Nat × Nat) : ∀ t, ((ckt p t).map Prod.snd).sum = min (64 * t) p.2
  | 0 => by simp [ckt]
  | t + 1 => by
    rw [ckt_next, List.map_append, List.sum_append, ckt_sum p t]
    simp
    omega
theorem cks_sum (L : List Int) : ((cks L).map Prod.snd).sum = cnt L := by
  have h : ∀ l : List (Nat × Nat), ((l.flatMap ck).map Prod.snd).sum = (l.map Prod.snd).sum := by
    intro l
    induction l with
    | nil => rfl
    | cons p l ih =>
      rw [List.flatMap_cons, List.map_append, List.sum_append, ih, List.map_cons, List.sum_cons]
      unfold ck
      rw [ckt_sum]
      omega
  unfold cks
  rw [h, rns_sum]
  omega
theorem ckt_le (p : Nat × Nat) (t : Nat) : ∀ q ∈ ckt p t, q.2 ≤ 64 := by
  intro q hq
  obtain ⟨u, _, rfl⟩ := List.mem_map.1 hq
  show min 64 _ ≤ 64
  omega
theorem cks_le {L : List Int} {t : Nat} (ht : t < (cks L).length) : ct (cks L) t ≤ 64 := by
  have hm : (cks L).getD t (0, 0) ∈ cks L := by rw [List.getD_eq_getElem?_getD, List.getElem?_eq_getElem ht]; exact List.getElem_mem ht
  obtain ⟨p, _, hp⟩ := List.mem_flatMap.1 hm
  exact ckt_le p _ _ hp
/-- what has been loaded when the pieces up to E stand -/
def ld (L : List Int) (E : Nat) : List Int := L.take E ++ List.replicate (L.length - E) 1073741824
theorem ld_zero (L : List Int) : ld L 0 = List.replicate L.length 1073741824 := by simp [ld]
theorem ld_len {L : List Int} {E : Nat} (h : E ≤ L.length) : (ld L E).length = L.length := by simp [ld]; omega
theorem ld_gap {L : List Int} {E f : Nat} (hE : E ≤ f) (hf : f ≤ L.length) (hg : ∀ q, E ≤ q → q < f → L.getD q 1073741824 = 1073741824) : ld L E = ld L f := by
  apply List.ext_getElem?
  intro i
  unfold ld
  rcases Nat.lt_or_ge i E with h | h
  · rw [List.getElem?_append_left (by simp; omega), List.getElem?_append_left (by simp; omega), List.getElem?_take_of_lt h, List.getElem?_take_of_lt (by omega)]
  · rcases Nat.lt_or_ge i f with h2 | h2
    · have := hg i h h2
      rw [List.getD_eq_getElem?_getD, List.getElem?_eq_getElem (by omega)] at this
      rw [List.getElem?_append_right (by simp; omega), List.getElem?_replicate, if_pos (by rw [List.length_take]; omega), List.getElem?_append_left (by simp; omega), List.getElem?_take_of_lt h2, List.getElem?_eq_getElem (show i < L.length by omega)]
      exact congrArg some this.symm
    · rw [List.getElem?_append_right (by simp; omega), List.getElem?_append_right (by simp; omega)]
      rw [List.getElem?_replicate, List.getElem?_replicate]
      by_cases h3 : i < L.length
      · rw [if_pos (by simp; omega), if_pos (by simp; omega)]
      · rw [if_neg (by simp; omega), if_neg (by simp; omega)]
theorem ld_next {L : List Int} {f m : Nat} (h : f + m ≤ L.length) : splice (ld L f) f ((L.drop f).take m) = ld L (f + m) := by
  apply List.ext_getElem?
  intro i
  unfold ld splice
  have l1 : ((L.drop f).take m).length = m := by simp; omega
  rcases Nat.lt_or_ge i f with h1 | h1
  · rw [List.getElem?_append_left (by simp; omega), List.getElem?_take_of_lt h1, List.getElem?_append_left (by simp; omega), List.getElem?_append_left (by simp; omega), List.getElem?_take_of_lt h1, List.getElem?_take_of_lt (by omega)]
  · rcases Nat.lt_or_ge i (f + m) with h2 | h2
    · rw [List.getElem?_append_right (by simp; omega), List.getElem?_append_left (by simp; omega), List.getElem?_append_left (by simp; omega), List.getElem?_take_of_lt h2]
      simp
      rw [List.getElem?_take_of_lt (by omega)]
      simp
      congr 1
      omega
    · have lz : (List.take f L ++ List.replicate (L.length - f) 1073741824).length = L.length := by simp; omega
      have lt : (List.take f (List.take f L ++ List.replicate (L.length - f) 1073741824)).length = f := by rw [List.length_take, lz]; omega
      have lf : (List.take f L).length = f := by rw [List.length_take]; omega
      have lg : (List.take (f + m) L).length = f + m := by rw [List.length_take]; omega
      rw [List.getElem?_append_right (by omega), List.getElem?_append_right (by omega), List.getElem?_drop, l1, lt, List.getElem?_append_right (by omega), List.getElem?_append_right (by omega), lf, lg, List.getElem?_replicate, List.getElem?_replicate]
      by_cases h3 : i < L.length
      · rw [if_pos (by omega), if_pos (by omega)]
      · rw [if_neg (by omega), if_neg (by omega)]
end Go.Proofs.Ytaplbkfmedofcaa.Se
namespace Go.Proofs.Ytaplbkfmedofcaa.Se
open Go.ChangeShapes Go.WideShapes Go.RowKit Wo Sr Wi Sg
set_option linter.unusedVariables false
theorem wr_both {x : Int} {y : Nat} (h : x = (y : Int)) (hb : y ≤ 100000) : wrap64 x = (y : Int) ∧ IntKind.i64.wrap x = (y : Int) := by
  rw [h]
  exact ⟨IntWalk.wrap64_in _ (by omega), IntWalk.i64_in _ (by omega)⟩
set_option maxHeartbeats 8000000 in
set_option maxRecDepth 100000 in
theorem rstarts_ok (st sp : Int) (A : Option Addr) (n c : Nat) (L : List Int) (h : Sb st sp n) (hs : Sv L) (w : World) (hz : Zi w A n L) :
    Calls Try.prog 21 #[.agg #[.int .i64 st, .int .i64 sp, .slice A n c], .int .i64 1] w fun e w' => ∃ (B : Option Addr) (k b : Nat), e = .returned (.slice B k b) ∧ k = cnt L ∧ Bel w w' := by
  have VA : Hid (∀ W, Zi W A n L → _) := fun W hW => rvalid_ok st sp A n c L h hs W hW
  have RU : Hid (∀ W, Zi W A n L → _) := fun W hW => rruns_ok st sp A n c L h hs W hW
  have HZ := Lib.hid hz
  have HL := Lib.hid hz.1
  have ni : (n : Int) ≤ 2000 := by have := h.2.2.2.2; omega
  have HK := Lib.hid (Bk.nw w 43 #[.int .i64 st, .int .i64 sp, .slice A n c])
  clear hs hz h
  go_enter Try.func21, Try.ntmps21
  go_wp2_with fail
  go_at_call 39
  refine (VA.out _ (HZ.out.bel (Bel.rf.al _))).mono ?_
  rintro e w2 ⟨rfl, hb2⟩
  have HK2 := Lib.hid (HK.out.bel hb2)
  have d0 : w2.cell? ⟨w.heap.size, 0, none⟩ = some (.int .i64 st) := HK2.out.cell 0
  have d1 : w2.cell? ⟨w.heap.size, 1, none⟩ = some (.int .i64 sp) := HK2.out.cell 1
  have d2 : w2.cell? ⟨w.heap.size, 2, none⟩ = some (.slice A n c) := HK2.out.cell 2
  have dl := HK2.out.lt
  have HB2 : Hid (Bel w w2) := (Bel.rf.al _).tr hb2
  clear hb2
  go_wp2_with fail
  go_at_call 24
  refine (RU.out _ (HZ.out.bel (by first | exact HB2.out | exact HB2.out.drwN _))).mono ?_
  rintro e w3 ⟨A3, m, c3, rfl, hm, hz3, hb3⟩
  have HB3 : Hid (Bel w w3) := by first | exact HB2.out.tr hb3 | exact (HB2.out.drwN _).tr hb3
  have HSUM := Lib.hid (sm_cnt L)
  have HLE := Lib.hid (sm_le (rns L 0 0))
  have HAS : Hid (∀ t, t < m → 1 ≤ ct (rns L 0 0) t ∧ fr (rns L 0 0) t + ct (rns L 0 0) t ≤ n) := fun t ht => by
    have h := asc_at (rns L 0 0) (-1) t (asc_all L) (by rw [← hm]; exact ht)
    rw [HL.out] at h
    exact ⟨h.2.2.1, h.2.2.2.1⟩
  have HML : Hid (m ≤ 2000) := by have := runs_len L; have := HL.out; show m ≤ 2000; omega
  have HCN : Hid (cnt L ≤ 2000) := by have := cnt_le L; have := HL.out; show cnt L ≤ 2000; omega
  rw [← hm] at HSUM
  obtain ⟨R, hR⟩ : ∃ R, rns L 0 0 = R := ⟨_, rfl⟩
  rw [hR] at HAS HSUM HLE hz3
  have HZ3 := Lib.hid hz3
  have mi : (m : Int) ≤ 2000 := by have := HML.out; omega
  clear hm hR hz3 hb3 d0 d1 d2 dl
  go_wp2
  go_loopw [5, 20] (fun s5 s20 wr => ∃ (j N : Nat) (Z : List Int) (u : Value) (V : World), V = wr ∧ u = s5 ∧ j ≤ m ∧ s20 = .int .i64 (j : Int) ∧ N = sm R j ∧ wr.ownsRow w3.heap.size 3 1 u N (zs Z) ∧ Bel w3 wr) (fun s5 s20 _ => m - (intOf s20).toNat)
  case atStart => exact ⟨0, 0, [], _, _, rfl, rfl, by omega, rfl, rfl, World.ownsRow_nil _ _ _ _, by first | exact Bel.rf | exact Bel.rf.drw | exact Bel.rf.drwN _⟩
  case round =>
    obtain ⟨j, N, Z, u, wr, hwr, hu, hj, rfl, hN, hown, hb⟩ := hrel
    subst hwr
    subst hu
    have HO := Lib.hid hown
    have HB := Lib.hid hb
    have HN := Lib.hid hN
    rcases Nat.lt_or_ge j m with hlt | hge
    · obtain ⟨Q, rfl, hql, hqc⟩ := (HZ3.out.bel hb).2 (by omega)
      have hfk := HAS.out j hlt
      have hS := HLE.out m (j + 1) hlt
      have hS2 : sm R (j + 1) = sm R j + ct R j := rfl
      have hS3 := HSUM.out
      have hS4 := HCN.out
      have c1 := (hqc j hlt).1
      obtain ⟨f, hf⟩ : ∃ f, fr R j = f := ⟨_, rfl⟩
      obtain ⟨k, hk⟩ : ∃ f, ct R j = f := ⟨_, rfl⟩
      obtain ⟨E, hE⟩ : ∃ E, f + k = E := ⟨_, rfl⟩
      rw [hf, hk] at hfk
      rw [hk] at hS2
      rw [hf] at c1
      have hNk : N + k ≤ 2000 := by omega
      have HFK := Lib.hid (And.intro hfk (And.intro hE (And.intro hS2 (And.intro hf (And.intro hk hNk)))))
      have ji : (j : Int) < (m : Int) := by omega
      clear hown hb hN hql hqc hf hk hfk hE hS hS2 hS3 hS4 hNk
      go_wp2
      go_loopw [5, 8] (fun s5 s8 W => ∃ (i M : Nat) (Z : List Int) (u : Value) (V : World), V = W ∧ u = s5 ∧ i ≤ k ∧ s8 = .int .i64 ((f + i : Nat) : Int) ∧ M = N + i ∧ W.ownsRow w3.heap.size 3 1 u M (zs Z) ∧ Bel w3 W) (fun s5 s8 _ => E - (intOf s8).toNat)
      case atStart => exact ⟨0, N, Z, _, _, rfl, rfl, by omega, by simp, rfl, by first | exact HO.out | exact own_bel HO.out (Bel.rf.drwN _), by first | exact HB.out | exact HB.out.drwN _⟩
      case round =>
        clear c1
        obtain ⟨i, M, Z2, u2, W, hW, hu2, hi, rfl, hM, ho2, hb2⟩ := hrel
        subst hW
        subst hu2
        have HO2 := Lib.hid ho2
        have HB2' := Lib.hid hb2
        obtain ⟨Q', e', hql, hqc⟩ := (HZ3.out.bel hb2).2 (by omega)
        injection e' with e'
        injection e' with e' _ _
        subst e'
        obtain ⟨hfk, hE, hS2, hf, hk, hNk⟩ := HFK.out
        have c1 := (hqc j hlt).1
        have c2 := (hqc j hlt).2
        rw [hf] at c1
        rw [hk] at c2
        obtain ⟨a, ha⟩ : ∃ a, f + i = a := ⟨_, rfl⟩
        rw [ha]
        obtain ⟨E1, hE1⟩ : ∃ E1, E1 + 1 = E := ⟨E - 1, by omega⟩
        have q1 : (f : Int) + (k : Int) = (E : Int) := by omega
        have q2 : (E : Int) - 1 = (E1 : Int) := by omega
        have HQ3 := Lib.hid (wr_both q1 (by omega))
        have HQ4 := Lib.hid (wr_both q2 (by omega))
        have HM := Lib.hid (And.intro hM (And.intro ha hE1))
        rcases Nat.lt_or_ge i k with hik | hik
        · have g1 : (a : Int) ≤ (E1 : Int) := by omega
          have g1n : a ≤ E1 := by omega
          have HAE := Lib.hid (show a < E by omega)
          have hMb : M ≤ 100000 := by omega
          have ab : (a : Int) ≤ 2000 := by omega
          clear ho2 hb2 hql hqc hfk hE hS2 hf hk hNk ha hE1 q1 q2 hM
          obtain ⟨q3, q4⟩ := HQ3.out
          obtain ⟨q5, q6⟩ := HQ4.out
          clear HQ3 HQ4
          go_wp2
          go_quiet (fail)
          clear q3 q4 q5 q6
          go_wp2_with (at_builtin; refine list_app _ rfl (.tmp 45) (.tmp 47) rfl w3.heap.size _ _ _ rfl (own_bel HO2.out (by repeat (first | exact Bel.rf | (with_reducible refine Bel.drwN ?_ _) | (with_reducible refine Bel.drw ?_) | (with_reducible refine Bel.al ?_ _)))) _ 1 1 [(a : Int)] rfl (zi_bk (L := [(a : Int)]) (t := 3) (Bk.nw _ _ _) 1 rfl) (by omega) (by have := HB2'.out.size; simp; omega) ?_; intro v' w9 h9 hg9 hat9; have H9 := Lib.hid (And.intro h9 (And.intro hg9 hat9)); clear h9 hg9 hat9)
          go_roundw
          case rel =>
            obtain ⟨x1, x2, x3⟩ := HM.out
            exact ⟨i + 1, M + 1, _, _, _, rfl, rfl, hik, by rw [show f + (i + 1) = a + 1 by omega]; go_num, by rw [x1]; omega, H9.out.1, bel_grown (by repeat (first | exact HB2'.out | (with_reducible refine Bel.drwN ?_ _) | (with_reducible refine Bel.drw ?_) | (with_reducible refine Bel.al ?_ _))) H9.out.2.1 (own_base HO2.out)⟩
          case measure => (have := HAE.out; simp [intOf]; omega)
        · have g1 : ¬ (a : Int) ≤ (E1 : Int) := by omega
          have g1n : ¬ a ≤ E1 := by omega
          have HI := Lib.hid (show M = sm R (j + 1) by rw [hM, hS2, ← HN.out]; omega)
          clear ho2 hb2 hql hqc hfk hE hS2 hf hk hNk ha hE1 q1 q2 hM
          obtain ⟨q3, q4⟩ := HQ3.out
          obtain ⟨q5, q6⟩ := HQ4.out
          clear HQ3 HQ4
          go_wp2
          go_quiet (fail)
          clear q3 q4 q5 q6
          go_wp2
          go_roundw
          case rel => exact ⟨j + 1, M, Z2, _, _, rfl, rfl, by omega, by go_num, HI.out, by first | exact HO2.out | exact own_bel HO2.out (Bel.rf.drwN _), by first | exact HB2'.out | exact HB2'.out.drwN _⟩
          case measure => simp [intOf]; omega
    · obtain rfl : j = m := by omega
      have HNN := Lib.hid (show N = cnt L by rw [hN]; exact HSUM.out)
      clear hown hb hN
      go_wp2
      go_ret
      rcases HO.out.2 with ⟨h1, h2⟩ | ⟨g, cap, cur, rfl, _⟩
      · rw [h1]
        exact ⟨none, 0, 0, rfl, by rw [← HNN.out]; exact h2.symm, HB3.out.tr HB.out⟩
      · exact ⟨_, _, _, rfl, HNN.out, HB3.out.tr HB.out⟩
end Go.Proofs.Ytaplbkfmedofcaa.Se
namespace Go.Proofs.Ytaplbkfmedofcaa.Se
open Go.ChangeShapes Go.WideShapes Go.RowKit Wo Sr Wi Sg
set_option linter.unusedVariables false
theorem ch_setRow {g : Nat} (w : World) (cs : Array Value) : Ch g w (w.setRow g cs) :=
  ⟨rfl, rfl, rfl, by simp [World.setRow], fun k hk hn => setRow_other w g k cs (fun e => hn (by rw [e]))⟩
/-- a copy in a region that draws its order: only the row has changed -/
theorem step_copy_ch {P : Program} {ops : Array Oper} {o : Oper} {a : Act} {w : World} {K : Act → World → Prop} {Q : Exit → Act → World → Prop} {E : Prop} (hgd : o.guard = none) (d s : Operand) (dT sT : TypeId)
    (ho : o.op = .call { callee := .builtin .copy, args := #[d, s], argTypes := #[dT, sT] }) (elem : TypeId) (hu : P.underlying dT = some (.slice elem)) (hsz : (P.info? elem).map (·.size) = some 1)
    (g off dLen dCap : Nat) (ad : Addr) (sLen sCap : Nat) (hd : a.eval d = .slice (some ⟨g, off, none⟩) dLen dCap) (hs : a.eval s = .slice (some ad) sLen sCap)
    (cur : List Value) (t : TypeId) (hg : w.heap[g]? = some (.cells cur.toArray t (0, 0))) (cs : List Value) (hn : cs.length = Nat.min sLen dLen)
    (hsrc : ∀ j v, cs[j]? = some v → w.cell? (ad.add j) = some v) (hfit : off + cs.length ≤ cur.length) (h1 : ∀ v ∈ cs, v.oneCell' = true)
    (h : ∀ w', Bk w' g t (splice cur off cs).toArray → Ch g w w' → K (a.put o.dst (goInt cs.length)) w') :
    if Region.wanted o (yielded ops a.tmps) = true then Oper.wp P o a w K Q else E := by
  rw [if_pos (by simp [Region.wanted, hgd])]
  have hrun := run_copy_row (P := P) w dT sT o.type elem g off dLen dCap ad sLen sCap cur.toArray t cs hu hsz hg hn hsrc (by simpa using hfit) h1
  unfold Oper.wp
  simp [execOp, ho, resolve, invoke, builtin, hd, hs, hrun, Result.andThen]
  exact h _ (show _ = _ by simpa [splice] using setRow_heap w g _ _ t _ hg) (ch_setRow w _)
def SomeRepB (x : Int) (k : Nat) (w : World) (e : Ending) (w' : World) : Prop := ∃ a, e = .returned (.slice (some ⟨a, 0, none⟩) k k) ∧ w.heap.size ≤ a ∧ (0 < k → Bk w' a 3 (zs (List.replicate k x)).toArray) ∧ Bel w w'
theorem repeat_b (g : Nat) (x : Int) (k : Nat) (k2 : k ≤ 300) (w : World) (hc : w.cell? ⟨g, 0, none⟩ = some (.int .i64 x)) :
    Calls Try.prog 38 #[.slice (some ⟨g, 0, none⟩) 1 1, .int .i64 (k : Int)] w (SomeRepB x k w) := by
  rcases Nat.eq_zero_or_pos k with h | h
  · subst h
    refine (repeat_zero g x w hc).mono ?_
    rintro e w' ⟨a, rfl, ha, _, hb⟩
    exact ⟨a, rfl, ha, fun h => by omega, hb⟩
  · refine (repeat_ok g x k h k2 w hc).mono ?_
    rintro e w' ⟨rfl, hk, hb⟩
    exact ⟨w.heap.size, rfl, Nat.le_refl _, fun _ => hk, hb⟩
set_option maxHeartbeats 8000000 in
set_option maxRecDepth 100000 in
theorem load_ok (st sp : Int) (n : Nat) (L : List Int) (h : Sb st sp n) (hs : Sv L) (hl : L.length = n) (n200 : n ≤ 200) (A3 : Option Addr) (c3 N : Nat) (us : List (Nat × Value)) (hN : N = (cks L).length) (w : World) (hz : Zsg w A3 N us) (hsr : Srl w L (cks L) us) :
    Calls Try.prog 19 #[.slice A3 N c3, .int .i64 st, .int .i64 sp, .int .i64 (n : Int)] w fun e w' => ∃ a, e = .returned (.tuple #[.agg #[.int .i64 st, .int .i64 sp, .slice (some ⟨a, 0, none⟩) n n], .int .i64 0]) ∧ Zi w' (some ⟨a, 0, none⟩) n L ∧ Bel w w' := by
  have HS := Lib.hid h
  have ni : (n : Int) ≤ 200 := by omega
  have HZ := Lib.hid hz
  have HSR := Lib.hid hsr
  have HL := Lib.hid hl
  have HN := Lib.hid hN
  have HQ0 := Lib.hid (Bk.nw w 43 #[.int .i64 0, .int .i64 0, .slice none 0 0])
  clear hz hsr hl hN h
  go_enter Try.func19, Try.ntmps19
  go_wp2_with fail
  go_at_call 38
  refine (repeat_b (w.heap.size + 1) 1073741824 n (by omega) _ (by first | exact (Bk.nw _ _ _).cell 0 | exact (Bk.nq _ _ _ (g := w.heap.size + 1) (by simp)).cell 0)).mono ?_
  rintro e w2 ⟨a, rfl, ha, hk, hb2⟩
  have ha2 : w.heap.size + 2 ≤ a := by simp at ha; omega
  have HB2 : Hid (Bel w w2) := ((Bel.rf.al _).al _).tr hb2
  have HQ2 : Hid (Bk w2 w.heap.size 43 #[.int .i64 0, .int .i64 0, .slice none 0 0]) := (HQ0.out.al _).bel hb2
  have HK2 := Lib.hid hk
  have hal : 0 < n → a < w2.heap.size := fun hn => (hk hn).lt
  have HAL := Lib.hid hal
  have hzr : Zi w2 (some ⟨a, 0, none⟩) n (List.replicate n 1073741824) := by
    rcases Nat.eq_zero_or_pos n with h0 | h0
    · subst h0; exact zi_none
    · exact zi_bk (hk h0) n (by simp)
  have VA : Hid (∀ W, Bel w2 W → _) := fun W hW => valid_ok st sp (some ⟨a, 0, none⟩) n n (List.replicate n 1073741824) HS.out (Sv.rep n) W (hzr.bel hW)
  have HKS := Lib.hid (Bk.nw w2 43 #[.int .i64 st, .int .i64 sp, .slice (some ⟨a, 0, none⟩) n n])
  have hsz2 : w.heap.size + 2 ≤ w2.heap.size := by have := hb2.size; simp at this; omega
  obtain ⟨b, hab, hbl, hbg⟩ : ∃ b, (0 < n → a = b) ∧ b < w2.heap.size ∧ w.heap.size + 1 ≤ b := by
    rcases Nat.eq_zero_or_pos n with h0 | h0
    · exact ⟨w.heap.size + 1, fun h => by omega, by omega, by omega⟩
    · exact ⟨a, fun _ => rfl, hal h0, by omega⟩
  have HAB := Lib.hid hab
  clear ha hk hb2 hal hzr hab
  go_wp2_with fail
  go_at_call 36
  refine (VA.out _ (Bel.rf.al _)).mono ?_
  rintro e w4 ⟨rfl, hb4⟩
  have HB4 : Hid (Bel w2 w4) := (Bel.rf.al _).tr hb4
  have HQ4 : Hid (Bk w4 w.heap.size 43 #[.int .i64 0, .int .i64 0, .slice none 0 0]) := HQ2.out.bel HB4.out
  have HS4 : Hid (Bk w4 w2.heap.size 43 #[.int .i64 st, .int .i64 sp, .slice (some ⟨a, 0, none⟩) n n]) := HKS.out.bel hb4
  have HK4 : Hid (0 < n → Bk w4 a 3 (zs (List.replicate n 1073741824)).toArray) := fun hn => (HK2.out hn).bel HB4.out
  have HN2 : Hid (N ≤ 2000) := by
    have h1 : ∀ t, t ≤ N → t ≤ en (cks L) t := fun t => by
      induction t with
      | zero => intro _; exact Nat.zero_le _
      | succ t ih =>
        intro h
        have h2 := ih (by omega)
        have h3 := piece_at (L := L) (t := t) (by rw [← HN.out]; omega)
        show t + 1 ≤ fr (cks L) t + ct (cks L) t
        omega
    have h2 := h1 N (Nat.le_refl _)
    have h3 := (piece_end L).1
    rw [← HN.out] at h3
    have := HL.out
    show N ≤ 2000
    omega
  have Ni : (N : Int) ≤ 2000 := by have := HN2.out; omega
  clear hb4
  go_wp2
  go_loopw [11, 35] (fun s11 s35 wr => ∃ (j : Nat) (V : World), V = wr ∧ j ≤ N ∧ s35 = .int .i64 (j : Int) ∧ s11 = .int .i64 (en (cks L) j : Int) ∧ Ch b w4 wr ∧ (0 < n → Bk wr b 3 (zs (ld L (en (cks L) j))).toArray)) (fun s11 s35 _ => N - (intOf s35).toNat)
  case atStart => exact ⟨0, _, rfl, Nat.zero_le _, rfl, rfl, by first | exact Ch.rf | exact Ch.rf.drw | exact Ch.rf.drwN _, fun hn => by show Bk _ b _ (zs (ld L 0)).toArray; rw [ld_zero, HL.out, ← HAB.out hn]; first | exact HK4.out hn | exact (HK4.out hn).drw | exact (HK4.out hn).drwN _⟩
  case round =>
    obtain ⟨j, wr, hwr, hj, rfl, rfl, hch, hbk⟩ := hrel
    subst hwr
    have HC := Lib.hid hch
    have HB := Lib.hid hbk
    have HBW : Hid (Bel w wr) := Bel.ch (HB2.out.tr HB4.out) hch (by omega)
    rcases Nat.lt_or_ge j N with hlt | hge
    · have hbw := HBW.out
      obtain ⟨P, rfl, hpl, hpc⟩ := (HZ.out.bel hbw).2 (by omega)
      have p1 := (hpc j hlt).1
      have p2 := (hpc j hlt).2
      have hjc : j < (cks L).length := by rw [← HN.out]; exact hlt
      obtain ⟨q1, N1, q2, q3⟩ := (HSR.out.2 j hjc).bel hbw
      obtain ⟨g1, g2, g3, g4, g5⟩ := piece_at hjc
      have g6 := cks_le hjc
      have q1' : (us.getD j (0, undef)).1 = fr (cks L) j := q1
      have q2' : (seg ((L.drop (fr (cks L) j)).take (ct (cks L) j))).length = N1 := q2
      have q3' : wr.ownsRow 0 5 1 (us.getD j (0, undef)).2 N1 (By.bys (seg ((L.drop (fr (cks L) j)).take (ct (cks L) j)))) := q3
      rw [q1'] at p1
      have HEN : Hid (en (cks L) (j + 1) = fr (cks L) j + ct (cks L) j) := rfl
      obtain ⟨f, hf⟩ : ∃ f, fr (cks L) j = f := ⟨_, rfl⟩
      obtain ⟨m, hm⟩ : ∃ m, ct (cks L) j = m := ⟨_, rfl⟩
      obtain ⟨E, hE⟩ : ∃ E, en (cks L) j = E := ⟨_, rfl⟩
      obtain ⟨U, hU⟩ : ∃ U, (us.getD j (0, undef)).2 = U := ⟨_, rfl⟩
      rw [hf, hm] at HEN
      rw [hE] at hbk g1 g2 ⊢
      rw [hU] at p2 q3'
      rw [hf] at p1 g1 g2
      rw [hf, hm] at g4 g5 q2' q3'
      rw [hm] at g3 g6
      rw [HL.out] at g4
      have n1 : 0 < n := by omega
      obtain rfl : a = b := HAB.out n1
      have hbk1 := hbk n1
      have hlg : ld L E = ld L f := ld_gap g1 (by rw [HL.out]; omega) g2
      rw [hlg] at hbk1
      have hv : Vx ((L.drop f).take m) := by
        have h9 := piece_vx (t := 0) hs HL.out g4 (fun i hi => by have := g5 i hi; rwa [getD_two (by rw [HL.out]; omega)] at this) (by omega)
        rwa [show f + 64 * 0 = f by omega, show min 64 (m - 64 * 0) = m by omega] at h9
      have hN1 := (seg_len hv).1
      have hN2 := (seg_len hv).2.1
      rw [q2'] at hN1 hN2
      obtain ⟨h1, c1, rfl, hc1, hcm, _, hrd⟩ := own_rd q3' (seg_byte hv) q2' (by omega)
      have hsp := ld_next (L := L) (f := f) (m := m) (by rw [HL.out]; exact g4)
      obtain ⟨x, hx⟩ : ∃ x, (L.drop f).take m = x := ⟨_, rfl⟩
      have hxl : x.length = m := by rw [← hx]; have := HL.out; simp; omega
      rw [hx] at hv hrd hsp
      have HDC : Hid (∀ W, Bel wr W → _) := fun W hW => dec_any (some ⟨h1, 0, none⟩) c1 N1 (seg x) (by omega) hc1 hcm W (hrd.bel hW)
      have HX := Lib.hid (And.intro hv (And.intro hxl (And.intro hsp HEN.out)))
      have HBK := Lib.hid hbk1
      have hkt := HC.out.bk HS4.out (by omega)
      have HKT := Lib.hid hkt
      have HSG := Lib.hid (Bk.nw wr 52 #[.int .i64 (f : Int), .slice (some ⟨h1, 0, none⟩) N1 c1])
      have ji : (j : Int) < (N : Int) := Int.ofNat_lt.2 hlt
      have HG := Lib.hid (And.intro g1 (And.intro g3 (And.intro g4 g6)))
      have HLF : Hid ((ld L f).length = n) := by show _ = _; rw [ld_len (by rw [HL.out]; omega)]; exact HL.out
      clear hbw hpl hpc hjc q1 q2 q3 q1' q2' q3' g1 g2 g3 g4 g5 g6 hf hm hE hU hbk hbk1 hlg hv hN1 hN2 hc1 hcm hrd hsp hx hxl hkt hch HEN HB
      go_wp2_with fail
      go_at_call 12
      refine (HDC.out _ (by repeat (first | exact Bel.rf | (with_reducible refine Bel.drwN ?_ _) | (with_reducible refine Bel.drw ?_) | (with_reducible refine Bel.al ?_ _)))).mono ?_
      rintro e v6 ⟨A6, n6, c6, L6, er, rfl, hz6, h61, h62, h63, h64, h65, hb6, _, _, hx6⟩
      obtain ⟨her, hLx⟩ := hx6 x HX.out.1 rfl
      subst her hLx
      have HB6 : Hid (Bel wr v6) := by first | exact (Bel.rf.al _).tr hb6 | exact ((Bel.rf.al _).drwN _).tr hb6
      have hn6 := hz6.1
      obtain rfl : n6 = m := by have := HX.out.2.1; omega
      obtain ⟨ad, rfl, had, hac⟩ := hz6.2 (by have := HG.out; omega)
      have HZ6 := Lib.hid (zi_news hz6)
      have hsg : Bk v6 wr.heap.size 52 #[.int .i64 (f : Int), .slice (some ⟨h1, 0, none⟩) N1 c1] := by first | exact HSG.out.bel hb6 | exact (HSG.out.drwN _).bel hb6
      have s0 : v6.cell? ⟨wr.heap.size, 0, none⟩ = some (.int .i64 (f : Int)) := hsg.cell 0
      have t2 : v6.cell? ⟨w2.heap.size, 2, none⟩ = some (.slice (some ⟨a, 0, none⟩) n n) := (HKT.out.bel HB6.out).cell 2
      have sl := hsg.lt
      have HA6 : Hid (Bk v6 a 3 (zs (ld L f)).toArray) := HBK.out.bel HB6.out
      have al := HA6.out.lt
      obtain ⟨u1, u2, u3, u4⟩ := HG.out
      have i1 : ¬ (f : Int) < (E : Int) := by omega
      have i2 : (n : Int) - (n6 : Int) = ((n - n6 : Nat) : Int) := by omega
      have i3 : ¬ ((n - n6 : Nat) : Int) < (f : Int) := by omega
      have i4 : (f : Int) ≤ (n : Int) := by omega
      have i5 : (n = f) = False := by simp; omega
      have i6 : (f : Int) + (n6 : Int) = ((f + n6 : Nat) : Int) := by omega
      have i7 : Nat.min n6 (n - f) = n6 := Nat.min_eq_left (by omega)
      have HI := Lib.hid (And.intro i6 i7)
      clear hb6 hx6 hz6 h61 h62 h63 h64 h65 hn6 had hac hsg u1 u2 u3 u4 i6 i7
      have HMN : Hid ((zs L6).length = Nat.min n6 (n - f)) := by show _ = _; rw [zs_len, HX.out.2.1, HI.out.2]
      have HFT : Hid (f + (zs L6).length ≤ (zs (ld L f)).length) := by show _ ≤ _; rw [zs_len, zs_len, HX.out.2.1, HLF.out]; exact HG.out.2.2.1
      have hzl : (zs L6).length = n6 := by rw [zs_len, HX.out.2.1]
      have HSRC : Hid (∀ W, Bel v6 W → ∀ j u, (zs L6)[j]? = some u → W.cell? (ad.add j) = some u) := fun W hW j u hu => hW.kp (HZ6.out j u hu)
      obtain ⟨E2, hE2⟩ : ∃ E2, f + n6 = E2 := ⟨_, rfl⟩
      have HE2 := Lib.hid hE2
      have i6 : (f : Int) + (n6 : Int) = (E2 : Int) := by omega
      have e2b : E2 ≤ 100000 := by have := HG.out; omega
      have HW := Lib.hid (wr_both (x := (E2 : Int)) rfl e2b)
      have HZL := Lib.hid hzl
      clear hE2 e2b hzl i6
      have HNE : Hid ((⟨wr.heap.size, 0, none⟩ : Addr).block ≠ a) := by
        show wr.heap.size ≠ a
        have k1 := HB4.out.size
        have k2 := HC.out.sz
        omega
      have HS0 := Lib.hid s0
      go_wp2
      go_region_law (refine step_copy_ch rfl (.tmp 68) (.tmp 69) 22 22 rfl 3 Try.underlying22 size_int a f (n - f) (n - f) ad n6 c6 (by simp [Act.eval, Act.put]) (by simp [Act.eval, Act.put]) (zs (ld L f)) 3 (HA6.out.bel (by repeat (first | exact Bel.rf | (with_reducible refine Bel.drwN ?_ _) | (with_reducible refine Bel.drw ?_) | (with_reducible refine Bel.al ?_ _)))) (zs L6) HMN.out (HSRC.out _ (by repeat (first | exact Bel.rf | (with_reducible refine Bel.drwN ?_ _) | (with_reducible refine Bel.drw ?_) | (with_reducible refine Bel.al ?_ _)))) HFT.out (zs_one _) ?_; intro w7 hk7 hc7; have s7 : w7.cell? ⟨wr.heap.size, 0, none⟩ = some (.int .i64 (f : Int)) := Ch.kp hc7 (Bel.kp (by repeat (first | exact Bel.rf | (with_reducible refine Bel.drwN ?_ _) | (with_reducible refine Bel.drw ?_) | (with_reducible refine Bel.al ?_ _))) HS0.out) HNE.out)
      all_goals
        rw [splice_zs, HX.out.2.2.1, HE2.out] at hk7
        have H7 : Hid (Ch a w4 w7) := (HC.out.tr (Ch.of_bel HB6.out)).tr (by first | exact hc7 | exact (Ch.rf.drwN _).tr hc7 | exact (Ch.rf.drw).tr hc7)
        have HK7 := Lib.hid hk7
        clear hk7 hc7
        have i6 : (f : Int) + (n6 : Int) = (E2 : Int) := by have := HE2.out; omega
        have hzl := HZL.out
        obtain ⟨i7, i8⟩ := HW.out
        (try simp only [hzl, i6, i8])
        (try go_simp)
        clear i7 i8 i6
        go_wp2
        go_roundw
        case rel => exact ⟨j + 1, _, rfl, hlt, by go_num, by rw [HX.out.2.2.2, HE2.out], H7.out, fun _ => by rw [HX.out.2.2.2, HE2.out]; exact HK7.out⟩
        case measure => simp [intOf]; omega
    · obtain rfl : j = N := by omega
      have hkq := HC.out.bk HQ4.out (by omega)
      have hkt := HC.out.bk HS4.out (by omega)
      have HKQ := Lib.hid hkq
      have q0 := hkq.cell 0
      have q1 := hkq.cell 1
      have q2 := hkq.cell 2
      have f0 := hkq.fr 0
      have f1 := hkq.fr 1
      have f2 := hkq.fr 2
      have ql := hkq.lt
      have t0 := hkt.cell 0
      have t1 := hkt.cell 1
      have t2 := hkt.cell 2
      have tl := hkt.lt
      have hfin : Zi wr (some ⟨a, 0, none⟩) n L := by
        rcases Nat.eq_zero_or_pos n with h0 | h0
        · have := HL.out
          subst h0
          obtain rfl : L = [] := List.eq_nil_of_length_eq_zero this
          exact zi_none
        · have h2 := hbk h0
          have h3 := piece_end L
          rw [← HN.out] at h3
          rw [ld_gap h3.1 (Nat.le_refl _) h3.2] at h2
          have h4 : ld L L.length = L := by simp [ld]
          rw [h4, ← HAB.out h0] at h2
          exact zi_bk h2 n HL.out
      have HF := Lib.hid hfin
      clear hch hbk hkq hkt hfin
      go_wp2
      refine bodyPost_ret (v := .tuple #[.agg #[.int .i64 st, .int .i64 sp, .slice (some ⟨a, 0, none⟩) n n], .int .i64 0]) (results_s2 Try.results19 _ _ w.heap.size _ _ _ rfl (((HKQ.out.st 0 _).st 1 _).st 2 _)) rfl ?_
      have hf : ∀ ad, (some ⟨a, 0, none⟩ : Option Addr) = some ad → ad.block ≠ w.heap.size := fun ad e => by cases e; show a ≠ w.heap.size; omega
      have HV9 : Vs wr (some ⟨a, 0, none⟩) n n L := ⟨HF.out, Nat.le_refl _, .inr ⟨_, rfl⟩⟩
      exact ⟨a, rfl, (((HV9.far (q := ⟨w.heap.size, 0, none⟩) hf _).far (q := ⟨w.heap.size, 1, none⟩) hf _).far (q := ⟨w.heap.size, 2, none⟩) hf _).1, ((HBW.out.st (p := ⟨w.heap.size, 0, none⟩) (Nat.le_refl _) _).st (p := ⟨w.heap.size, 1, none⟩) (Nat.le_refl _) _).st (p := ⟨w.heap.size, 2, none⟩) (Nat.le_refl _) _⟩
end Go.Proofs.Ytaplbkfmedofcaa.Se
