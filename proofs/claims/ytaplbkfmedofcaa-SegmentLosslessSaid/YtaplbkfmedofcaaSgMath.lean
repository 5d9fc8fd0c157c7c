/- Plain facts about segments: what their bytes are; no program is run here. -/
import Derived.Test.YtaplbkfmedofcaaPackBack
import Derived.Test.YtaplbkfmedofcaaSealM
import Derived.Test.YtaplbkfmedofcaaWinMath
import Derived.Lib.Slices
namespace Go.Proofs.Ytaplbkfmedofcaa.Sg
open Pk Cd Cr Wi
set_option linter.unusedVariables false
def mn (x : List Int) : Int := Lib.minOf x
def mx (x : List Int) : Int := Lib.maxOf x
theorem fold_min (l : List Int) : ∀ m : Int, l.foldl min m ≤ m ∧ (∀ n ∈ l, l.foldl min m ≤ n) ∧ (l.foldl min m = m ∨ l.foldl min m ∈ l) := by
  induction l with
  | nil => intro m; exact ⟨Int.le_refl _, by simp, .inl rfl⟩
  | cons a l ih =>
    intro m
    obtain ⟨h1, h2, h3⟩ := ih (min m a)
    simp only [List.foldl_cons]
    refine ⟨by omega, fun n hn => ?_, ?_⟩
    · rcases List.mem_cons.1 hn with rfl | h
      · omega
      · exact h2 n h
    · rcases h3 with h3 | h3
      · rcases Int.lt_or_le m a with h | h
        · exact .inl (by rw [h3]; omega)
        · exact .inr (by rw [h3, show min m a = a by omega]; simp)
      · exact .inr (by simp [h3])
theorem fold_max (l : List Int) : ∀ m : Int, m ≤ l.foldl max m ∧ (∀ n ∈ l, n ≤ l.foldl max m) ∧ (l.foldl max m = m ∨ l.foldl max m ∈ l) := by
  induction l with
  | nil => intro m; exact ⟨Int.le_refl _, by simp, .inl rfl⟩
  | cons a l ih =>
    intro m
    obtain ⟨h1, h2, h3⟩ := ih (max m a)
    simp only [List.foldl_cons]
    refine ⟨by omega, fun n hn => ?_, ?_⟩
    · rcases List.mem_cons.1 hn with rfl | h
      · omega
      · exact h2 n h
    · rcases h3 with h3 | h3
      · rcases Int.lt_or_le a m with h | h
        · exact .inl (by rw [h3]; omega)
        · exact .inr (by rw [h3, show max m a = a by omega]; simp)
      · exact .inr (by simp [h3])
theorem mn_le {x : List Int} {n : Int} (h : n ∈ x) : mn x ≤ n := (fold_min x _).2.1 n h
theorem le_mx {x : List Int} {n : Int} (h : n ∈ x) : n ≤ mx x := (fold_max x _).2.1 n h
theorem head_mem {x : List Int} (h : 0 < x.length) : x.headD 0 ∈ x := by cases x with
  | nil => simp at h
  | cons a l => simp
theorem mn_mem {x : List Int} (h : 0 < x.length) : mn x ∈ x := by
  rcases (fold_min x (x.headD 0)).2.2 with h1 | h1
  · unfold mn Lib.minOf; rw [h1]; exact head_mem h
  · exact h1
theorem mx_mem {x : List Int} (h : 0 < x.length) : mx x ∈ x := by
  rcases (fold_max x (x.headD 0)).2.2 with h1 | h1
  · unfold mx Lib.maxOf; rw [h1]; exact head_mem h
  · exact h1
theorem mn_in {x : List Int} (hs : Sam x) (h : 0 < x.length) : -1000 ≤ mn x ∧ mn x ≤ 1000 := hs _ (mn_mem h)
theorem mx_in {x : List Int} (hs : Sam x) (h : 0 < x.length) : -1000 ≤ mx x ∧ mx x ≤ 1000 := hs _ (mx_mem h)
theorem mn_mx {x : List Int} (h : 0 < x.length) : mn x ≤ mx x := mn_le (mx_mem h)
theorem all_eq {x : List Int} (h : mn x = mx x) : x = List.replicate x.length (mn x) := by
  apply List.eq_replicate_iff.2
  refine ⟨rfl, fun n hn => ?_⟩
  have := mn_le hn
  have := le_mx hn
  omega
theorem sum_in (x : List Int) (hs : Sam x) : -1000 * (x.length : Int) ≤ x.sum ∧ x.sum ≤ 1000 * (x.length : Int) := by
  induction x with
  | nil => simp
  | cons a l ih =>
    have h1 := hs a (by simp)
    have h2 := ih (fun n hn => hs n (by simp [hn]))
    simp only [List.sum_cons, List.length_cons]
    omega
/-- the samples above the least one, and their width -/
def ab (x : List Int) : List Nat := x.map fun n => (n - mn x).toNat
def dD (x : List Int) : Nat := (mx x - mn x).toNat
def pd (x : List Int) : List Nat := packed (ab x) (wd [dD x])
theorem ab_len (x : List Int) : (ab x).length = x.length := by simp [ab]
theorem wd_one (d : Nat) : wd [d] = Lib.bitLen d := by simp [wd]
theorem dD_le {x : List Int} (hs : Sam x) (h : 0 < x.length) : dD x ≤ 2000 := by
  have := mn_in hs h
  have := mx_in hs h
  unfold dD
  omega
theorem dD_int {x : List Int} (h : 0 < x.length) : ((dD x : Nat) : Int) = mx x - mn x := by
  have := mn_mx h
  unfold dD
  omega
theorem ab_at {x : List Int} {i : Nat} (h : i < x.length) : (((ab x).getD i 0 : Nat) : Int) = x.getD i 0 - mn x := by
  have h1 := mn_le (List.getElem_mem h)
  simp only [ab, List.getD_eq_getElem?_getD, List.getElem?_map, List.getElem?_eq_getElem h, Option.map_some, Option.getD_some]
  omega
theorem ab_le {x : List Int} (h : 0 < x.length) : ∀ n ∈ ab x, n ≤ dD x := by
  intro n hn
  simp only [ab, List.mem_map] at hn
  obtain ⟨m, hm, rfl⟩ := hn
  have := mn_le hm
  have := le_mx hm
  unfold dD
  omega
theorem bl_small {n : Nat} (h : n < 4096) : Lib.bitLen n ≤ 12 := by
  rcases Nat.eq_zero_or_pos n with h0 | h0
  · subst h0; decide
  · obtain ⟨c1, c2⟩ := bl_le_n (n := n) (by omega) (by omega)
    rcases Nat.lt_or_ge 12 (Lib.bitLen n) with h1 | h1
    · have := Nat.pow_le_pow_right (n := 2) (by omega) (show 12 ≤ Lib.bitLen n - 1 by omega)
      omega
    · exact h1
theorem pw_le {x : List Int} (hs : Sam x) (h : 0 < x.length) : wd [dD x] ≤ 12 := by
  rw [wd_one]
  exact bl_small (by have := dD_le hs h; omega)
theorem ab_fits {x : List Int} (hs : Sam x) (h : 0 < x.length) : ∀ n ∈ ab x, n < 2 ^ wd [dD x] := by
  intro n hn
  have h1 := ab_le h n hn
  have h2 := dD_le hs h
  rw [wd_one]
  have := lt_bl (n := dD x) (by omega)
  omega
/-- the steps between samples, folded -/
def stp (x : List Int) : List Nat := (List.range (x.length - 1)).map fun i => fld (x.getD (i + 1) 0 - x.getD i 0)
theorem stp_len (x : List Int) : (stp x).length = x.length - 1 := by simp [stp]
theorem stp_at {x : List Int} {i : Nat} (h : i < x.length - 1) : (stp x).getD i 0 = fld (x.getD (i + 1) 0 - x.getD i 0) := by
  simp [stp, List.getD_eq_getElem?_getD, h]
theorem stp_lt {x : List Int} (hs : Sam x) : ∀ n ∈ stp x, n < 4096 := by
  intro n hn
  simp only [stp, List.mem_map] at hn
  obtain ⟨i, _, rfl⟩ := hn
  have h1 := hs.at i
  have h2 := hs.at (i + 1)
  unfold fld
  split <;> omega
theorem wd_small {L : List Nat} (h : ∀ n ∈ L, n < 4096) : wd L ≤ 12 := by
  rcases (wd_fold L 0).2.2 with h2 | ⟨n, hn, he⟩
  · have : wd L = 0 := h2
    omega
  · have h3 : Lib.bitLen n = wd L := he
    rw [← h3]
    exact bl_small (h n hn)
def dd (x : List Int) : List Nat := bytesOf (x.getD 0 0) ++ (wd (stp x) :: packed (stp x) (wd (stp x)))
theorem stp_fits {x : List Int} (hs : Sam x) : ∀ n ∈ stp x, n < 2 ^ wd (stp x) := wd_fits (fun n hn => by have := stp_lt hs n hn; omega)
theorem dw_le {x : List Int} (hs : Sam x) : wd (stp x) ≤ 12 := wd_small (stp_lt hs)
/-- the kind and the data -/
def kd (x : List Int) : Nat := if mn x = mx x then 0 else if (dd x).length < (pd x).length then 2 else 1
def dt (x : List Int) : List Nat := if mn x = mx x then [] else if (dd x).length < (pd x).length then dd x else pd x
/-- what stands ahead of the sum -/
def bod (x : List Int) : List Nat := [kd x] ++ bytesOf (x.length : Int) ++ bytesOf (mn x) ++ bytesOf (mx x - mn x) ++ bytesOf x.sum ++ dt x
def seg (x : List Int) : List Nat := bod x ++ seal4 (crc (bod x))
/-- samples that have a segment -/
def Vx (x : List Int) : Prop := 1 ≤ x.length ∧ x.length ≤ 64 ∧ Sam x
theorem packed_len (L : List Nat) (k : Nat) : (packed L k).length = (L.length * k + 7) / 8 := bytesK_len _ _ _ _
theorem packed_byte (L : List Nat) (k : Nat) : ∀ c ∈ packed L k, c < 256 := bytesK_lt _ _ _ _
theorem pd_len {x : List Int} (h : Vx x) : (pd x).length = (x.length * wd [dD x] + 7) / 8 ∧ (pd x).length ≤ 96 := by
  have h1 := pw_le h.2.2 h.1
  have e : (pd x).length = (x.length * wd [dD x] + 7) / 8 := by unfold pd; rw [packed_len, ab_len]
  refine ⟨e, ?_⟩
  have := Nat.mul_le_mul h.2.1 h1
  omega
theorem sum_i64 {x : List Int} (h : Vx x) : In64 x.sum := by
  have := sum_in x h.2.2
  have := h.2.1
  unfold In64
  omega
theorem heads_in {x : List Int} (h : Vx x) : In64 (x.length : Int) ∧ In64 (mn x) ∧ In64 (mx x - mn x) ∧ In64 x.sum ∧ In64 (x.getD 0 0) := by
  have h1 := mn_in h.2.2 h.1
  have h2 := mx_in h.2.2 h.1
  have h3 := h.2.1
  have h4 := sum_i64 h
  have h5 := h.2.2.at 0
  refine ⟨?_, ?_, ?_, h4, ?_⟩ <;> unfold In64 <;> omega
theorem dd_len {x : List Int} (h : Vx x) : 2 ≤ (dd x).length ∧ (dd x).length ≤ 107 := by
  have h1 := dw_le h.2.2
  have h2 := bytesOf_len (x.getD 0 0)
  have h3 := Nat.mul_le_mul (show (stp x).length ≤ 64 by rw [stp_len]; have := h.2.1; omega) h1
  have h4 := packed_len (stp x) (wd (stp x))
  unfold dd
  simp only [List.length_append, List.length_cons]
  omega
theorem dt_len {x : List Int} (h : Vx x) : (dt x).length ≤ 107 := by
  have := dd_len h
  have := pd_len h
  unfold dt
  split
  · simp
  · split <;> omega
theorem dd_byte {x : List Int} (h : Vx x) : ∀ c ∈ dd x, c < 256 := by
  intro c hc
  unfold dd at hc
  rcases List.mem_append.1 hc with h1 | h1
  · exact bytesOf_byte (heads_in h).2.2.2.2 c h1
  · rcases List.mem_cons.1 h1 with rfl | h2
    · have := dw_le h.2.2; omega
    · exact packed_byte _ _ c h2
theorem dt_byte {x : List Int} (h : Vx x) : ∀ c ∈ dt x, c < 256 := by
  unfold dt
  split
  · simp
  · split
    · exact dd_byte h
    · exact packed_byte _ _
theorem kd_lt (x : List Int) : kd x < 3 := by unfold kd; split; omega; split <;> omega
theorem bod_byte {x : List Int} (h : Vx x) : ∀ c ∈ bod x, c < 256 := by
  obtain ⟨a1, a2, a3, a4, _⟩ := heads_in h
  intro c hc
  unfold bod at hc
  simp only [List.mem_append, List.mem_singleton] at hc
  rcases hc with ((((rfl | h1) | h1) | h1) | h1) | h1
  · have := kd_lt x; omega
  · exact bytesOf_byte a1 c h1
  · exact bytesOf_byte a2 c h1
  · exact bytesOf_byte a3 c h1
  · exact bytesOf_byte a4 c h1
  · exact dt_byte h c h1
theorem bod_len {x : List Int} (h : Vx x) : 5 ≤ (bod x).length ∧ (bod x).length ≤ 148 := by
  have h1 := bytesOf_len (x.length : Int)
  have h2 := bytesOf_len (mn x)
  have h3 := bytesOf_len (mx x - mn x)
  have h4 := bytesOf_len x.sum
  have h5 := dt_len h
  unfold bod
  simp only [List.length_append, List.length_singleton]
  omega
theorem seg_byte {x : List Int} (h : Vx x) : ∀ c ∈ seg x, c < 256 := by
  intro c hc
  rcases List.mem_append.1 hc with h1 | h1
  · exact bod_byte h c h1
  · exact seal4_byte _ c h1
theorem seg_len {x : List Int} (h : Vx x) : 9 ≤ (seg x).length ∧ (seg x).length ≤ 152 ∧ (seg x).length = (bod x).length + 4 := by
  have h1 := bod_len h
  have h2 : (seg x).length = (bod x).length + 4 := by unfold seg; rw [List.length_append]; rfl
  omega
/-- what a body says, read -/
theorem bod_read {x : List Int} (h : Vx x) : ∃ p1 p2 p3 p4 : Nat, (bod x).getD 0 0 = kd x ∧ dec (bod x) 1 = ((x.length : Int), (p1 : Int), 0) ∧ dec (bod x) p1 = (mn x, (p2 : Int), 0) ∧ dec (bod x) p2 = (mx x - mn x, (p3 : Int), 0) ∧
    dec (bod x) p3 = (x.sum, (p4 : Int), 0) ∧ (bod x).drop p4 = dt x ∧ p1 ≤ (bod x).length ∧ p2 ≤ (bod x).length ∧ p3 ≤ (bod x).length ∧ p4 ≤ (bod x).length := by
  obtain ⟨a1, a2, a3, a4, _⟩ := heads_in h
  have e1 : (bod x).drop 1 = bytesOf (x.length : Int) ++ (bytesOf (mn x) ++ (bytesOf (mx x - mn x) ++ (bytesOf x.sum ++ dt x))) := by simp [bod]
  obtain ⟨p1, hp1⟩ : ∃ p, 1 + (bytesOf (x.length : Int)).length = p := ⟨_, rfl⟩
  have e2 : (bod x).drop p1 = bytesOf (mn x) ++ (bytesOf (mx x - mn x) ++ (bytesOf x.sum ++ dt x)) := by
    rw [← hp1, ← List.drop_drop, e1, List.drop_left]
  obtain ⟨p2, hp2⟩ : ∃ p, p1 + (bytesOf (mn x)).length = p := ⟨_, rfl⟩
  have e3 : (bod x).drop p2 = bytesOf (mx x - mn x) ++ (bytesOf x.sum ++ dt x) := by
    rw [← hp2, ← List.drop_drop, e2, List.drop_left]
  obtain ⟨p3, hp3⟩ : ∃ p, p2 + (bytesOf (mx x - mn x)).length = p := ⟨_, rfl⟩
  have e4 : (bod x).drop p3 = bytesOf x.sum ++ dt x := by
    rw [← hp3, ← List.drop_drop, e3, List.drop_left]
  obtain ⟨p4, hp4⟩ : ∃ p, p3 + (bytesOf x.sum).length = p := ⟨_, rfl⟩
  have e5 : (bod x).drop p4 = dt x := by
    rw [← hp4, ← List.drop_drop, e4, List.drop_left]
  have d1 := dec_bytes a1.1 a1.2 e1
  have d2 := dec_bytes a2.1 a2.2 e2
  have d3 := dec_bytes a3.1 a3.2 e3
  have d4 := dec_bytes a4.1 a4.2 e4
  rw [hp1] at d1
  rw [hp2] at d2
  rw [hp3] at d3
  rw [hp4] at d4
  have hl : (bod x).length = p4 + (dt x).length := by
    have : (bod x).length = 1 + (bytesOf (x.length : Int)).length + (bytesOf (mn x)).length + (bytesOf (mx x - mn x)).length + (bytesOf x.sum).length + (dt x).length := by
      unfold bod
      simp only [List.length_append, List.length_singleton]
    omega
  exact ⟨p1, p2, p3, p4, by simp [bod], d1, d2, d3, d4, e5, by omega, by omega, by omega, by omega⟩
theorem dd_read {x : List Int} (h : Vx x) : ∃ p : Nat, dec (dd x) 0 = (x.getD 0 0, (p : Int), 0) ∧ p < (dd x).length ∧ (dd x).getD p 0 = wd (stp x) ∧ (dd x).drop (p + 1) = packed (stp x) (wd (stp x)) := by
  obtain ⟨_, _, _, _, a5⟩ := heads_in h
  have d1 := dec_bytes (at_ := 0) (B := dd x) a5.1 a5.2 rfl
  obtain ⟨p, hp⟩ : ∃ p, (bytesOf (x.getD 0 0)).length = p := ⟨_, rfl⟩
  rw [Nat.zero_add, hp] at d1
  have e : (dd x).drop p = wd (stp x) :: packed (stp x) (wd (stp x)) := by rw [← hp]; unfold dd; rw [List.drop_left]
  obtain ⟨h1, h2, h3⟩ := getD_drop e
  exact ⟨p, d1, h1, h2, h3⟩
theorem seg_parts {x : List Int} : (seg x).take (bod x).length = bod x ∧ (seg x).drop (bod x).length = seal4 (crc (bod x)) := by
  unfold seg
  exact ⟨List.take_left, List.drop_left⟩
/-- a step back -/
theorem step_back {x : List Int} (hs : Sam x) {i : Nat} (h : i + 1 < x.length) : x.getD i 0 + unf ((stp x).getD i 0) = x.getD (i + 1) 0 := by
  rw [stp_at (by omega), unf_fld]
  omega
theorem take_next (x : List Int) (i : Nat) (h : i < x.length) : x.take (i + 1) = x.take i ++ [x.getD i 0] := by
  rw [List.take_succ_eq_append_getElem h, List.getD_eq_getElem?_getD, List.getElem?_eq_getElem h]
  rfl
end Go.Proofs.Ytaplbkfmedofcaa.Sg
