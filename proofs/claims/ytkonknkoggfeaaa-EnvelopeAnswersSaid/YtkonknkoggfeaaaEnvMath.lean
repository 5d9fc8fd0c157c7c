/- Plain facts about envelopes and the bounds by them (layer 20): no program here. -/
import Derived.Test.YtkonknkoggfeaaaWarpMath
import Derived.Test.YtkonknkoggfeaaaPieM2
namespace Go.Proofs.Ytkonknkoggfeaaa.Wi
open Ra
set_option linter.unusedVariables false
/-- the greatest number within the band of a place -/
def IsMx (X : List Int) (b : Int) (j : Nat) (v : Int) : Prop := (∃ i, i < X.length ∧ Bnd b i j ∧ X.getD i 0 = v) ∧ ∀ i, i < X.length → Bnd b i j → X.getD i 0 ≤ v
/-- the least one -/
def IsMn (X : List Int) (b : Int) (j : Nat) (v : Int) : Prop := (∃ i, i < X.length ∧ Bnd b i j ∧ X.getD i 0 = v) ∧ ∀ i, i < X.length → Bnd b i j → v ≤ X.getD i 0
theorem IsMx.eq {X : List Int} {b : Int} {j : Nat} {v u : Int} (h : IsMx X b j v) (k : IsMx X b j u) : v = u := by
  obtain ⟨⟨i, hi, hb, e⟩, h2⟩ := h
  obtain ⟨⟨i', hi', hb', e'⟩, k2⟩ := k
  have a := k2 i hi hb
  have c := h2 i' hi' hb'
  omega
theorem IsMn.eq {X : List Int} {b : Int} {j : Nat} {v u : Int} (h : IsMn X b j v) (k : IsMn X b j u) : v = u := by
  obtain ⟨⟨i, hi, hb, e⟩, h2⟩ := h
  obtain ⟨⟨i', hi', hb', e'⟩, k2⟩ := k
  have a := k2 i hi hb
  have c := h2 i' hi' hb'
  omega
def ng (X : List Int) : List Int := X.map fun x => -x
theorem ng_len (X : List Int) : (ng X).length = X.length := by simp [ng]
theorem ng_at (X : List Int) (i : Nat) : (ng X).getD i 0 = -(X.getD i 0) := by
  unfold ng
  rw [List.getD_eq_getElem?_getD, List.getD_eq_getElem?_getD, List.getElem?_map]
  cases X[i]? <;> simp
theorem ng_sam {X : List Int} (h : Sam X) : Sam (ng X) := fun y hy => by
  obtain ⟨x, hx, rfl⟩ := List.mem_map.1 hy
  have := h x hx
  omega
theorem mn_of_ng {X : List Int} {b : Int} {j : Nat} {v : Int} (h : IsMx (ng X) b j v) : IsMn X b j (-v) := by
  obtain ⟨⟨i, hi, hb, e⟩, h2⟩ := h
  rw [ng_len] at hi h2
  refine ⟨⟨i, hi, hb, by rw [ng_at] at e; omega⟩, fun i hi hb => ?_⟩
  have := h2 i hi hb
  rw [ng_at] at this
  omega
theorem ext_at {X Y : List Int} (hl : X.length = Y.length) (h : ∀ j, j < X.length → X.getD j 0 = Y.getD j 0) : X = Y := by
  refine List.ext_getElem hl (fun i h1 h2 => ?_)
  have := h i h1
  rwa [List.getD_eq_getElem?_getD, List.getD_eq_getElem?_getD, List.getElem?_eq_getElem h1, List.getElem?_eq_getElem h2] at this
/-- the upper and the lower ends of an envelope -/
def Env (X : List Int) (b : Int) (c : Nat) (U L : List Int) : Prop := U.length = c ∧ L.length = c ∧ ∀ j, j < c → IsMx X b j (U.getD j 0) ∧ IsMn X b j (L.getD j 0)
theorem Env.eq {X : List Int} {b : Int} {c : Nat} {U L U' L' : List Int} (h : Env X b c U L) (k : Env X b c U' L') : U = U' ∧ L = L' := by
  obtain ⟨a1, a2, a3⟩ := h
  obtain ⟨b1, b2, b3⟩ := k
  exact ⟨ext_at (by omega) (fun j hj => (a3 j (by omega)).1.eq (b3 j (by omega)).1), ext_at (by omega) (fun j hj => (a3 j (by omega)).2.eq (b3 j (by omega)).2)⟩
theorem Env.le {X : List Int} {b : Int} {c : Nat} {U L : List Int} (h : Env X b c U L) (j : Nat) (hj : j < c) : L.getD j 0 ≤ U.getD j 0 := by
  obtain ⟨⟨i, hi, hb, e⟩, h2⟩ := (h.2.2 j hj).1
  have := (h.2.2 j hj).2.2 i hi hb
  omega
theorem sam_of_at {X : List Int} (h : ∀ j, j < X.length → -1000 ≤ X.getD j 0 ∧ X.getD j 0 ≤ 1000) : Sam X := fun x hx => by
  obtain ⟨i, hi, rfl⟩ := List.getElem_of_mem hx
  have := h i hi
  rwa [List.getD_eq_getElem?_getD, List.getElem?_eq_getElem hi, Option.getD_some] at this
theorem Env.sam {X : List Int} {b : Int} {c : Nat} {U L : List Int} (hs : Sam X) (h : Env X b c U L) : Sam U ∧ Sam L := by
  refine ⟨sam_of_at (fun j hj => ?_), sam_of_at (fun j hj => ?_)⟩
  · obtain ⟨⟨i, _, _, e⟩, _⟩ := (h.2.2 j (by rw [← h.1]; exact hj)).1
    rw [← e]; exact hs.at i
  · obtain ⟨⟨i, _, _, e⟩, _⟩ := (h.2.2 j (by rw [← h.2.1]; exact hj)).2
    rw [← e]; exact hs.at i
theorem mx_shift {X : List Int} {b : Int} {j : Nat} {v : Int} (s : Int) (h : IsMx X b j v) : IsMx (af 1 s X) b j (v + s) := by
  obtain ⟨⟨i, hi, hb, e⟩, h2⟩ := h
  refine ⟨⟨i, by rw [af_len]; exact hi, hb, by rw [af_at _ _ _ _ hi]; omega⟩, fun i hi hb => ?_⟩
  rw [af_len] at hi
  rw [af_at _ _ _ _ hi]
  have := h2 i hi hb
  omega
theorem mn_shift {X : List Int} {b : Int} {j : Nat} {v : Int} (s : Int) (h : IsMn X b j v) : IsMn (af 1 s X) b j (v + s) := by
  obtain ⟨⟨i, hi, hb, e⟩, h2⟩ := h
  refine ⟨⟨i, by rw [af_len]; exact hi, hb, by rw [af_at _ _ _ _ hi]; omega⟩, fun i hi hb => ?_⟩
  rw [af_len] at hi
  rw [af_at _ _ _ _ hi]
  have := h2 i hi hb
  omega
theorem Env.shift {X : List Int} {b : Int} {c : Nat} {U L : List Int} (s : Int) (h : Env X b c U L) : Env (af 1 s X) b c (af 1 s U) (af 1 s L) := by
  obtain ⟨a1, a2, a3⟩ := h
  refine ⟨by rw [af_len, a1], by rw [af_len, a2], fun j hj => ?_⟩
  rw [af_at _ _ _ _ (by omega), af_at _ _ _ _ (by omega), Int.mul_one, Int.mul_one]
  exact ⟨mx_shift s (a3 j hj).1, mn_shift s (a3 j hj).2⟩
theorem Bnd.wide {b b' : Int} {i j : Nat} (h : Bnd b i j) (hb : b ≤ b') : Bnd b' i j := ⟨Int.le_trans h.1 hb, Int.le_trans h.2 hb⟩
theorem Env.wide {X : List Int} {b b' : Int} {c : Nat} {U L U' L' : List Int} (h : Env X b c U L) (k : Env X b' c U' L') (hb : b ≤ b') (j : Nat) (hj : j < c) : U.getD j 0 ≤ U'.getD j 0 ∧ L'.getD j 0 ≤ L.getD j 0 := by
  obtain ⟨⟨i, hi, hB, e⟩, _⟩ := (h.2.2 j hj).1
  obtain ⟨⟨i', hi', hB', e'⟩, _⟩ := (h.2.2 j hj).2
  have a := (k.2.2 j hj).1.2 i hi (hB.wide hb)
  have c := (k.2.2 j hj).2.2 i' hi' (hB'.wide hb)
  omega
/-- by how much a number passes an interval -/
def ps (n lo hi : Int) : Int := max (max 0 (n - hi)) (lo - n)
theorem ps_nn (n lo hi : Int) : 0 ≤ ps n lo hi := by unfold ps; omega
/-- the numbers by which samples pass an envelope -/
def pz (Y U L : List Int) : List Int := (List.range Y.length).map fun j => ps (Y.getD j 0) (L.getD j 0) (U.getD j 0)
theorem pz_len (Y U L : List Int) : (pz Y U L).length = Y.length := by simp [pz]
theorem pz_at (Y U L : List Int) (j : Nat) (h : j < Y.length) : (pz Y U L).getD j 0 = ps (Y.getD j 0) (L.getD j 0) (U.getD j 0) := by
  rw [List.getD_eq_getElem?_getD, pz, List.getElem?_map, List.getElem?_range h]; rfl
def kv (Y U L : List Int) : Int := su sq (pz Y U L)
theorem pz_bd {Y U L : List Int} (hY : Sam Y) (hU : Sam U) (hL : Sam L) : Bd 2000 (pz Y U L) := fun x hx => by
  obtain ⟨j, _, rfl⟩ := List.mem_map.1 hx
  have a := hY.at j
  have b := hU.at j
  have c := hL.at j
  unfold ps
  omega
theorem kv_in {Y U L : List Int} (hY : Sam Y) (hU : Sam U) (hL : Sam L) (h : Y.length ≤ 32) : 0 ≤ kv Y U L ∧ kv Y U L ≤ 128000000 := by
  have h1 := susq_bd (pz_bd hY hU hL)
  rw [pz_len] at h1
  unfold kv
  omega
theorem pz_shift (s : Int) {Y U L : List Int} (h1 : U.length = Y.length) (h2 : L.length = Y.length) : pz (af 1 s Y) (af 1 s U) (af 1 s L) = pz Y U L := by
  refine ext_at (by rw [pz_len, pz_len, af_len]) (fun j hj => ?_)
  rw [pz_len, af_len] at hj
  rw [pz_at _ _ _ _ (by rw [af_len]; exact hj), pz_at _ _ _ _ hj, af_at _ _ _ _ hj, af_at _ _ _ _ (by omega), af_at _ _ _ _ (by omega)]
  unfold ps
  omega
/-- the projection of a window on an envelope -/
def pj (Y U L : List Int) : List Int := (List.range Y.length).map fun j => min (max (Y.getD j 0) (L.getD j 0)) (U.getD j 0)
theorem pj_len (Y U L : List Int) : (pj Y U L).length = Y.length := by simp [pj]
theorem pj_at (Y U L : List Int) (j : Nat) (h : j < Y.length) : (pj Y U L).getD j 0 = min (max (Y.getD j 0) (L.getD j 0)) (U.getD j 0) := by
  rw [List.getD_eq_getElem?_getD, pj, List.getElem?_map, List.getElem?_range h]; rfl
theorem pj_sam {Y U L : List Int} (hY : Sam Y) (hU : Sam U) (hL : Sam L) : Sam (pj Y U L) := fun x hx => by
  obtain ⟨j, _, rfl⟩ := List.mem_map.1 hx
  have a := hY.at j
  have b := hU.at j
  have c := hL.at j
  omega
theorem pj_shift (s : Int) {Y U L : List Int} (h1 : U.length = Y.length) (h2 : L.length = Y.length) : pj (af 1 s Y) (af 1 s U) (af 1 s L) = af 1 s (pj Y U L) := by
  refine ext_at (by rw [pj_len, af_len, af_len, pj_len]) (fun j hj => ?_)
  rw [pj_len, af_len] at hj
  rw [pj_at _ _ _ _ (by rw [af_len]; exact hj), af_at _ _ (pj Y U L) _ (by rw [pj_len]; exact hj), pj_at Y U L _ hj, af_at _ _ Y _ hj, af_at _ _ U _ (by omega), af_at _ _ L _ (by omega)]
  omega
theorem kv_self {X U L : List Int} {b : Int} (hb : 0 ≤ b) (h : Env X b X.length U L) : kv X U L = 0 ∧ pj X U L = X := by
  have key : ∀ j, j < X.length → L.getD j 0 ≤ X.getD j 0 ∧ X.getD j 0 ≤ U.getD j 0 := fun j hj => by
    have a := (h.2.2 j hj).1.2 j hj ⟨by omega, by omega⟩
    have c := (h.2.2 j hj).2.2 j hj ⟨by omega, by omega⟩
    exact ⟨c, a⟩
  constructor
  · have e : pz X U L = List.replicate X.length 0 := by
      refine ext_at (by rw [pz_len, List.length_replicate]) (fun j hj => ?_)
      rw [pz_len] at hj
      rw [pz_at _ _ _ _ hj]
      have := key j hj
      have e : (List.replicate X.length (0 : Int)).getD j 0 = 0 := by rw [List.getD_eq_getElem?_getD, List.getElem?_replicate]; split <;> rfl
      rw [e]
      unfold ps
      omega
    unfold kv
    rw [e]
    have : ∀ n : Nat, su sq (List.replicate n 0) = 0 := by
      intro n
      induction n with
      | zero => rfl
      | succ n ih => rw [List.replicate_succ]; show sq 0 + su sq (List.replicate n 0) = 0; rw [ih]; rfl
    exact this _
  · refine ext_at (pj_len _ _ _) (fun j hj => ?_)
    rw [pj_len] at hj
    rw [pj_at _ _ _ _ hj]
    have := key j hj
    omega
theorem kv_mono {Y U L U' L' : List Int} (h : ∀ j, j < Y.length → U.getD j 0 ≤ U'.getD j 0 ∧ L'.getD j 0 ≤ L.getD j 0) : kv Y U' L' ≤ kv Y U L := by
  have key : ∀ t, t ≤ Y.length → su sq ((pz Y U' L').take t) ≤ su sq ((pz Y U L).take t) := by
    intro t
    induction t with
    | zero => intro _; simp [su]
    | succ t ih =>
      intro ht
      have h1 := ih (by omega)
      rw [su_next sq _ t (by rw [pz_len]; omega), su_next sq _ t (by rw [pz_len]; omega), pz_at _ _ _ _ (by omega), pz_at _ _ _ _ (by omega)]
      have h2 := h t (by omega)
      have a : ps (Y.getD t 0) (L'.getD t 0) (U'.getD t 0) ≤ ps (Y.getD t 0) (L.getD t 0) (U.getD t 0) := by unfold ps; omega
      have b := ps_nn (Y.getD t 0) (L'.getD t 0) (U'.getD t 0)
      have c : ps (Y.getD t 0) (L'.getD t 0) (U'.getD t 0) * ps (Y.getD t 0) (L'.getD t 0) (U'.getD t 0) ≤ ps (Y.getD t 0) (L.getD t 0) (U.getD t 0) * ps (Y.getD t 0) (L.getD t 0) (U.getD t 0) := Int.mul_le_mul a a b (Int.le_trans b a)
      show _ + ps (Y.getD t 0) (L'.getD t 0) (U'.getD t 0) * ps (Y.getD t 0) (L'.getD t 0) (U'.getD t 0) ≤ _ + ps (Y.getD t 0) (L.getD t 0) (U.getD t 0) * ps (Y.getD t 0) (L.getD t 0) (U.getD t 0)
      omega
  have := key Y.length (Nat.le_refl _)
  rwa [List.take_of_length_le (by rw [pz_len]; exact Nat.le_refl _), List.take_of_length_le (by rw [pz_len]; exact Nat.le_refl _)] at this
/-- what one pair of a path costs at least -/
theorem pair_ge {x y h l u a b : Int} (hl : l ≤ x) (hu : x ≤ u) (eh : h = min (max y l) u) (ha : h ≤ a) (hb : b ≤ h) :
    ps y l u * ps y l u + ps x b a * ps x b a ≤ (x - y) * (x - y) := by
  have sqle : ∀ p q : Int, 0 ≤ p → p ≤ q → p * p ≤ q * q := fun p q h0 h1 => Int.mul_le_mul h1 h1 h0 (Int.le_trans h0 h1)
  have h3 := ps_nn x b a
  rcases Int.lt_or_le u y with hy | hy
  · have e1 : ps y l u = y - u := by unfold ps; omega
    have e2 : ps x b a ≤ u - x := by unfold ps; omega
    have h4 := sqle _ _ h3 e2
    have h5 : 0 ≤ (y - u) * (u - x) := Int.mul_nonneg (by omega) (by omega)
    have h6 : (x - y) * (x - y) = (y - u) * (y - u) + (u - x) * (u - x) + 2 * ((y - u) * (u - x)) := by grind
    rw [e1]
    omega
  · rcases Int.lt_or_le y l with hy' | hy'
    · have e1 : ps y l u = l - y := by unfold ps; omega
      have e2 : ps x b a ≤ x - l := by unfold ps; omega
      have h4 := sqle _ _ h3 e2
      have h5 : 0 ≤ (l - y) * (x - l) := Int.mul_nonneg (by omega) (by omega)
      have h6 : (x - y) * (x - y) = (l - y) * (l - y) + (x - l) * (x - l) + 2 * ((l - y) * (x - l)) := by grind
      rw [e1]
      omega
    · have e1 : ps y l u = 0 := by unfold ps; omega
      rw [e1]
      rcases Int.lt_or_le x y with hxy | hxy
      · have e2 : ps x b a ≤ y - x := by unfold ps; omega
        have h4 := sqle _ _ h3 e2
        have h6 : (x - y) * (x - y) = (y - x) * (y - x) := by grind
        omega
      · have e2 : ps x b a ≤ x - y := by unfold ps; omega
        have h4 := sqle _ _ h3 e2
        omega
/-- the improved bound is at most the warping distance -/
theorem improved_le {X Y U L A B : List Int} {b : Int} (hX : Sam X) (hY : Sam Y) (lX : X.length ≤ 32) (lY : Y.length ≤ 32) (h : Env X b Y.length U L) (k : Env (pj Y U L) b X.length A B) :
    kv Y U L + kv X A B ≤ wt X Y b X.length Y.length := by
  have sUL := h.sam hX
  have sAB := k.sam (pj_sam hY sUL.1 sUL.2)
  have bP := pz_bd hY sUL.1 sUL.2
  have bQ := pz_bd hX sAB.1 sAB.2
  obtain ⟨P, hP⟩ : ∃ P, pz Y U L = P := ⟨_, rfl⟩
  obtain ⟨Q, hQ⟩ : ∃ P, pz X A B = P := ⟨_, rfl⟩
  rw [hP] at bP
  rw [hQ] at bQ
  have lP : P.length = Y.length := by rw [← hP, pz_len]
  have lQ : Q.length = X.length := by rw [← hQ, pz_len]
  have key : ∀ i j, i < X.length → j < Y.length → Bnd b i j → P.getD j 0 * P.getD j 0 + Q.getD i 0 * Q.getD i 0 ≤ cst X Y i j := fun i j hi hj hB => by
    rw [← hP, ← hQ, pz_at _ _ _ _ hj, pz_at _ _ _ _ hi]
    have e1 := (h.2.2 j hj).1.2 i hi hB
    have e2 := (h.2.2 j hj).2.2 i hi hB
    have e3 := (k.2.2 i hi).1.2 j (by rw [pj_len]; exact hj) hB.sym
    have e4 := (k.2.2 i hi).2.2 j (by rw [pj_len]; exact hj) hB.sym
    rw [pj_at _ _ _ _ hj] at e3 e4
    exact pair_ge e2 e1 rfl e3 e4
  have bnd : ∀ (Z : List Int), Bd 2000 Z → Z.length ≤ 32 → ∀ t, 0 ≤ psq Z t ∧ psq Z t ≤ 128000000 := fun Z hZ hl t => by
    have h1 := susq_bd (hZ.take t)
    have h2 := List.length_take_le' t Z
    unfold psq
    omega
  have nx : ∀ (Z : List Int) (t : Nat), t < Z.length → psq Z (t + 1) = psq Z t + Z.getD t 0 * Z.getD t 0 := fun Z t ht => by
    unfold psq
    rw [su_next sq _ t ht]
    rfl
  have main : ∀ (s i j : Nat), i + j = s → i ≤ X.length → j ≤ Y.length → psq P j + psq Q i ≤ wt X Y b i j := by
    intro s
    induction s using Nat.strongRecOn with
    | _ s ih =>
      intro i j hs hi hj
      have p1 := bnd P bP (by omega) j
      have p2 := bnd Q bQ (by omega) i
      rcases i with _ | i
      · rcases j with _ | j
        · rw [wt_00]; exact Int.le_refl _
        · rw [wt_0s]; unfold far; omega
      · rcases j with _ | j
        · rw [wt_s0]; unfold far; omega
        · rcases Classical.em (Bnd b i j) with hB | hB
          · rw [wt_in _ _ _ _ _ hB]
            have c1 := key i j (by omega) (by omega) hB
            have n1 := nx P j (by omega)
            have n2 := nx Q i (by omega)
            have q1 := sq_nn (P.getD j 0)
            have q2 := sq_nn (Q.getD i 0)
            have h1 := ih (i + j) (by omega) i j rfl (by omega) (by omega)
            have h2 := ih (i + (j + 1)) (by omega) i (j + 1) rfl (by omega) (by omega)
            have h3 := ih (i + 1 + j) (by omega) (i + 1) j rfl (by omega) (by omega)
            have hm : psq P j + psq Q i ≤ mn3 (wt X Y b i j) (wt X Y b i (j + 1)) (wt X Y b (i + 1) j) := mn_ge (mn_ge h1 (by omega)) (by omega)
            omega
          · rw [wt_out _ _ _ _ _ hB]; unfold far; omega
  have := main _ X.length Y.length rfl (Nat.le_refl _) (Nat.le_refl _)
  unfold kv
  rw [hP, hQ]
  unfold psq at this
  rwa [List.take_of_length_le (by omega), List.take_of_length_le (by omega)] at this
/-- what the sums of pieces pass the sums of the envelope -/
def pp (Y U L : List Int) (m n : Nat) : List Int := (List.range n).map fun k => ps ((pls Y m n).getD k 0) ((pls L m n).getD k 0) ((pls U m n).getD k 0)
theorem pp_len (Y U L : List Int) (m n : Nat) : (pp Y U L m n).length = n := by simp [pp]
theorem pp_at (Y U L : List Int) (m n k : Nat) (h : k < n) : (pp Y U L m n).getD k 0 = ps ((pls Y m n).getD k 0) ((pls L m n).getD k 0) ((pls U m n).getD k 0) := by
  rw [List.getD_eq_getElem?_getD, pp, List.getElem?_map, List.getElem?_range h]; rfl
theorem pre_next (X : List Int) (t : Nat) (h : t < X.length) : pre X (t + 1) = pre X t + X.getD t 0 := by
  unfold pre
  rw [su_next id _ t h]
  rfl
theorem ps_sum {Y U L : List Int} (h1 : U.length = Y.length) (h2 : L.length = Y.length) (a b : Nat) (hab : a ≤ b) (hb : b ≤ Y.length) : ps (pg Y a b) (pg L a b) (pg U a b) ≤ pg (pz Y U L) a b ∧ 0 ≤ pg (pz Y U L) a b := by
  have key : ∀ t, a + t ≤ Y.length → pre Y (a + t) - pre Y a - (pre U (a + t) - pre U a) ≤ pre (pz Y U L) (a + t) - pre (pz Y U L) a ∧ pre L (a + t) - pre L a - (pre Y (a + t) - pre Y a) ≤ pre (pz Y U L) (a + t) - pre (pz Y U L) a ∧ 0 ≤ pre (pz Y U L) (a + t) - pre (pz Y U L) a := by
    intro t
    induction t with
    | zero => intro _; rw [Nat.add_zero]; omega
    | succ t ih =>
      intro ht
      have h3 := ih (by omega)
      rw [← Nat.add_assoc, pre_next Y _ (by omega), pre_next U _ (by omega), pre_next L _ (by omega), pre_next (pz Y U L) _ (by rw [pz_len]; omega), pz_at _ _ _ _ (by omega)]
      unfold ps
      omega
  have h := key (b - a) (by omega)
  rw [show a + (b - a) = b by omega] at h
  rw [pg_pre _ _ _ hab, pg_pre _ _ _ hab, pg_pre _ _ _ hab, pg_pre _ _ _ hab]
  unfold ps
  omega
/-- the bound by pieces is at most Keogh's -/
theorem pieces_le {Y U L : List Int} {m n : Nat} (hY : Y.length = m) (h1 : U.length = m) (h2 : L.length = m) (n1 : 1 ≤ n) :
    tq (fun k => (pp Y U L m n).getD k 0 * (pp Y U L m n).getD k 0 * wq (m / n) (st m n (k + 1) - st m n k)) n ≤ kv Y U L * cq m n := by
  refine Int.le_trans ?_ (bq_le (pz Y U L) m n (by rw [pz_len, hY]) n1)
  unfold bq
  refine tq_le (n := n) (fun k hk => ?_) n (Nat.le_refl n)
  rw [pp_at _ _ _ _ _ _ hk, pls_at _ _ _ _ hk, pls_at _ _ _ _ hk, pls_at _ _ _ _ hk]
  have hab := st_mono m n k (k + 1) (by omega)
  have hbm := st_le m n (k + 1) (by omega) (by omega)
  have h3 := ps_sum (Y := Y) (U := U) (L := L) (by omega) (by omega) _ _ hab (by omega)
  have h4 := ps_nn (pg Y (st m n k) (st m n (k + 1))) (pg L (st m n k) (st m n (k + 1))) (pg U (st m n k) (st m n (k + 1)))
  exact Int.mul_le_mul_of_nonneg_right (Int.mul_le_mul h3.1 h3.1 h4 h3.2) (wq_nn _ _)
theorem pg_one (s : Int) (X : List Int) (a b : Nat) (hab : a ≤ b) (hb : b ≤ X.length) : pg (af 1 s X) a b = pg X a b + ((b - a : Nat) : Int) * s := by
  rw [pg_af _ _ _ _ _ hab hb, Int.one_mul]
theorem pp_shift (s : Int) {Y U L : List Int} {m n : Nat} (hY : Y.length = m) (h1 : U.length = m) (h2 : L.length = m) (n1 : 1 ≤ n) : pp (af 1 s Y) (af 1 s U) (af 1 s L) m n = pp Y U L m n := by
  refine ext_at (by rw [pp_len, pp_len]) (fun k hk => ?_)
  rw [pp_len] at hk
  have hab := st_mono m n k (k + 1) (by omega)
  have hbm := st_le m n (k + 1) (by omega) (by omega)
  rw [pp_at _ _ _ _ _ _ hk, pp_at _ _ _ _ _ _ hk, pls_at _ _ _ _ hk, pls_at _ _ _ _ hk, pls_at _ _ _ _ hk, pls_at _ _ _ _ hk, pls_at _ _ _ _ hk, pls_at _ _ _ _ hk, pg_one _ _ _ _ hab (by omega), pg_one _ _ _ _ hab (by omega), pg_one _ _ _ _ hab (by omega)]
  unfold ps
  omega
theorem env_zero {X U L : List Int} (h : Env X 0 X.length U L) : U = X ∧ L = X := by
  have key : ∀ i j : Nat, Bnd 0 i j → i = j := fun i j h => by have := h.1; have := h.2; omega
  refine ⟨ext_at h.1 (fun j hj => ?_), ext_at h.2.1 (fun j hj => ?_)⟩
  · obtain ⟨⟨i, _, hB, e⟩, _⟩ := (h.2.2 j (by rw [← h.1]; exact hj)).1
    rw [← e, key i j hB]
  · obtain ⟨⟨i, _, hB, e⟩, _⟩ := (h.2.2 j (by rw [← h.2.1]; exact hj)).2
    rw [← e, key i j hB]
theorem kv_zero (X Y : List Int) (h : X.length = Y.length) : kv Y X X = su sq (df X Y) := by
  have key : ∀ t, t ≤ Y.length → su sq ((pz Y X X).take t) = su sq ((df X Y).take t) := by
    intro t
    induction t with
    | zero => intro _; simp [su]
    | succ t ih =>
      intro ht
      rw [su_next sq _ t (by rw [pz_len]; omega), su_next sq _ t (by rw [df_len h]; omega), pz_at _ _ _ _ (by omega), df_at h t (by omega), ih (by omega)]
      congr 1
      unfold sq ps
      rcases Int.le_total (X.getD t 0) (Y.getD t 0) with hh | hh
      · have e : max (max 0 (Y.getD t 0 - X.getD t 0)) (X.getD t 0 - Y.getD t 0) = Y.getD t 0 - X.getD t 0 := by omega
        rw [e]; grind
      · have e : max (max 0 (Y.getD t 0 - X.getD t 0)) (X.getD t 0 - Y.getD t 0) = X.getD t 0 - Y.getD t 0 := by omega
        rw [e]
  have := key Y.length (Nat.le_refl _)
  rwa [List.take_of_length_le (by rw [pz_len]; exact Nat.le_refl _), List.take_of_length_le (by rw [df_len h]; omega)] at this
end Go.Proofs.Ytkonknkoggfeaaa.Wi
