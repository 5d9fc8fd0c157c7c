/- Plain facts about the queue of envelope.greatest: the indices whose numbers fall (layer 20): no program here. -/
import Derived.Test.YtkonknkoggfeaaaEnvMath
namespace Go.Proofs.Ytkonknkoggfeaaa.Wi
set_option linter.unusedVariables false
def iq (K : List Nat) : List Int := K.map Int.ofNat
theorem iq_len (K : List Nat) : (iq K).length = K.length := by simp [iq]
theorem iq_at (K : List Nat) (i : Nat) (h : i < K.length) : (iq K).getD i 0 = ((K.getD i 0 : Nat) : Int) := by
  simp [iq, List.getD_eq_getElem?_getD, h]
/-- what is true of the queue: K, where all indices below nx were seen, and those from j - b on count -/
structure Qi (X : List Int) (b : Int) (j nx : Nat) (K : List Nat) : Prop where
  lt : ∀ q ∈ K, q < nx
  fall : K.Pairwise fun p q => p < q ∧ X.getD q 0 < X.getD p 0
  cover : ∀ i, i < nx → (j : Int) - (i : Int) ≤ b → ∃ q ∈ K, i ≤ q ∧ X.getD i 0 ≤ X.getD q 0
theorem Qi.nil (X : List Int) (b : Int) (j : Nat) : Qi X b j 0 [] := ⟨fun q h => by simp at h, List.Pairwise.nil, fun i h => by omega⟩
theorem Qi.next {X : List Int} {b : Int} {j nx : Nat} {K : List Nat} (h : Qi X b j nx K) : Qi X b (j + 1) nx K := ⟨h.lt, h.fall, fun i hi hb => h.cover i hi (by omega)⟩
theorem Qi.push {X : List Int} {b : Int} {j nx last : Nat} {K : List Nat} (h : Qi X b j nx K) (hl : last ≤ K.length) (h1 : ∀ t, last ≤ t → t < K.length → X.getD (K.getD t 0) 0 ≤ X.getD nx 0) (h2 : 0 < last → X.getD nx 0 < X.getD (K.getD (last - 1) 0) 0) :
    Qi X b j (nx + 1) (K.take last ++ [nx]) := by
  have mem : ∀ q ∈ K.take last, q ∈ K := fun q hq => List.mem_of_mem_take hq
  have gt : ∀ q ∈ K.take last, X.getD nx 0 < X.getD q 0 := fun q hq => by
    obtain ⟨i, hi, rfl⟩ := List.getElem_of_mem hq
    have hil : i < last := by rw [List.length_take] at hi; omega
    have h3 := h2 (by omega)
    rw [List.getElem_take]
    rcases Nat.lt_or_ge i (last - 1) with h4 | h4
    · have := (List.pairwise_iff_getElem.1 h.fall i (last - 1) (by omega) (by omega) h4).2
      rw [List.getD_eq_getElem?_getD (l := K), List.getElem?_eq_getElem (show last - 1 < K.length by omega), Option.getD_some] at h3
      omega
    · have e : i = last - 1 := by omega
      subst e
      rwa [List.getD_eq_getElem?_getD (l := K), List.getElem?_eq_getElem (show last - 1 < K.length by omega), Option.getD_some] at h3
  refine ⟨fun q hq => ?_, ?_, fun i hi hb => ?_⟩
  · rcases List.mem_append.1 hq with hq | hq
    · have := h.lt q (mem q hq); omega
    · rw [List.mem_singleton.1 hq]; omega
  · refine List.pairwise_append.2 ⟨h.fall.sublist (List.take_sublist _ _), List.pairwise_singleton .., fun p hp q hq => ?_⟩
    rw [List.mem_singleton.1 hq]
    exact ⟨h.lt p (mem p hp), gt p hp⟩
  · rcases Nat.lt_or_ge i nx with hin | hin
    · obtain ⟨q, hq, hiq, hx⟩ := h.cover i hin hb
      obtain ⟨t, ht, rfl⟩ := List.getElem_of_mem hq
      rcases Nat.lt_or_ge t last with h5 | h5
      · refine ⟨K[t], List.mem_append_left _ ?_, hiq, hx⟩
        rw [← List.getElem_take (j := last) (h := by rw [List.length_take]; omega)]
        exact List.getElem_mem _
      · have h6 := h1 t h5 ht
        rw [List.getD_eq_getElem?_getD (l := K), List.getElem?_eq_getElem ht, Option.getD_some] at h6
        have := h.lt K[t] hq
        exact ⟨nx, List.mem_append_right _ (List.mem_singleton.2 rfl), by omega, by omega⟩
    · obtain rfl : i = nx := by omega
      exact ⟨i, List.mem_append_right _ (List.mem_singleton.2 rfl), Nat.le_refl _, Int.le_refl _⟩
theorem Qi.pop {X : List Int} {b : Int} {j nx : Nat} {K : List Nat} (h : Qi X b j nx K) (h0 : 0 < K.length) (hk : ((K.getD 0 0 : Nat) : Int) < (j : Int) - b) : Qi X b j nx (K.drop 1) := by
  rcases K with _ | ⟨k, K⟩
  · simp at h0
  · have hk' : (k : Int) < (j : Int) - b := hk
    refine ⟨fun q hq => h.lt q (List.mem_cons_of_mem _ hq), (List.pairwise_cons.1 h.fall).2, fun i hi hb => ?_⟩
    obtain ⟨q, hq, hiq, hx⟩ := h.cover i hi hb
    rcases List.mem_cons.1 hq with rfl | hq
    · omega
    · exact ⟨q, hq, hiq, hx⟩
theorem Qi.some {X : List Int} {b : Int} {j nx i : Nat} {K : List Nat} (h : Qi X b j nx K) (hi : i < nx) (hb : (j : Int) - (i : Int) ≤ b) : 0 < K.length := by
  obtain ⟨q, hq, _⟩ := h.cover i hi hb
  exact List.length_pos_of_mem hq
theorem Qi.max {X : List Int} {b : Int} {j nx : Nat} {K : List Nat} (h : Qi X b j nx K) (hn : nx ≤ X.length) (h0 : 0 < K.length) (hk : (j : Int) - b ≤ ((K.getD 0 0 : Nat) : Int)) (hx : (nx : Int) ≤ (j : Int) + b + 1) (he : nx = X.length ∨ (j : Int) + b < (nx : Int)) :
    IsMx X b j (X.getD (K.getD 0 0) 0) := by
  rcases K with _ | ⟨k, K⟩
  · simp at h0
  · have hk' : (j : Int) - b ≤ (k : Int) := hk
    have hkn := h.lt k (List.mem_cons_self ..)
    refine ⟨⟨k, by omega, ⟨by omega, by omega⟩, rfl⟩, fun i hi hB => ?_⟩
    have hin : i < nx := by have := hB.1; omega
    obtain ⟨q, hq, _, hxq⟩ := h.cover i hin hB.2
    show X.getD i 0 ≤ X.getD k 0
    rcases List.mem_cons.1 hq with rfl | hq
    · exact hxq
    · have := ((List.pairwise_cons.1 h.fall).1 q hq).2
      omega
theorem iq_take (K : List Nat) (t : Nat) : (iq K).take t = iq (K.take t) := by simp [iq, List.map_take]
theorem iq_drop (K : List Nat) (t : Nat) : (iq K).drop t = iq (K.drop t) := by simp [iq, List.map_drop]
theorem iq_app (K : List Nat) (x : Nat) : iq K ++ [(x : Int)] = iq (K ++ [x]) := by simp [iq]
theorem iq_bd {X : List Int} {b : Int} {j nx : Nat} {K : List Nat} (h : Qi X b j nx K) (i : Nat) (hi : i < K.length) : K.getD i 0 < nx := by
  rw [List.getD_eq_getElem?_getD, List.getElem?_eq_getElem hi, Option.getD_some]
  exact h.lt _ (List.getElem_mem _)
theorem len_le {X : List Int} {b : Int} {j nx : Nat} {K : List Nat} (h : Qi X b j nx K) : K.length ≤ nx := by
  have key : ∀ (K : List Nat) (m : Nat), (∀ q ∈ K, m ≤ q ∧ q < nx) → K.Pairwise (fun p q => p < q ∧ X.getD q 0 < X.getD p 0) → m ≤ nx → K.length + m ≤ nx := by
    intro K
    induction K with
    | nil => intro m _ _ hm; simpa using hm
    | cons k K ih =>
      intro m h1 h2 hm
      have h3 := h1 k (List.mem_cons_self ..)
      have := ih (k + 1) (fun q hq => ⟨((List.pairwise_cons.1 h2).1 q hq).1, (h1 q (List.mem_cons_of_mem _ hq)).2⟩) (List.pairwise_cons.1 h2).2 (by omega)
      simp only [List.length_cons]
      omega
  have := key K 0 (fun q hq => ⟨Nat.zero_le _, h.lt q hq⟩) h.fall (Nat.zero_le _)
  omega
end Go.Proofs.Ytkonknkoggfeaaa.Wi
