/- Bytes of numbers and seals: plain facts; no program is run here (out of PkM and PkC). -/
import Derived.Test.YtaplbkfmedofcaaIntMath
import Derived.Test.YtaplbkfmedofcaaCrcMath
namespace Go.Proofs.Ytaplbkfmedofcaa.Pk
open Cd Cr
set_option linter.unusedVariables false
def seal4 (s : Nat) : List Nat := [s % 256, s / 256 % 256, s / 65536 % 256, s / 16777216 % 256]
def In64 (n : Int) : Prop := -9223372036854775808 ≤ n ∧ n ≤ 9223372036854775807
theorem bytes_inj {n m : Int} {r s : List Nat} (hn : In64 n) (hm : In64 m) (h : bytesOf n ++ r = bytesOf m ++ s) : n = m ∧ r = s := by
  have h1 := dec_bytes (B := bytesOf n ++ r) (rest := r) (at_ := 0) hn.1 hn.2 rfl
  have h2 := dec_bytes (B := bytesOf n ++ r) (rest := s) (at_ := 0) hm.1 hm.2 (by simpa using h)
  rw [h1] at h2
  have e : n = m := by injection h2
  subst e
  exact ⟨rfl, List.append_cancel_left h⟩
theorem bytesOf_byte {n : Int} (h : In64 n) : ∀ c ∈ bytesOf n, c < 256 := enc_byte 9 _ (by rw [room_nine]; exact fld_lt h.1 h.2)
theorem bytesOf_len (n : Int) : 1 ≤ (bytesOf n).length ∧ (bytesOf n).length ≤ 10 := enc_len 9 _
theorem seal4_byte (s : Nat) : ∀ c ∈ seal4 s, c < 256 := fun c hc => by simp [seal4] at hc; omega
theorem seal4_inj {s t : Nat} (hs : s < 4294967296) (ht : t < 4294967296) (h : seal4 s = seal4 t) : s = t := by
  unfold seal4 at h
  injection h with h1 h
  injection h with h2 h
  injection h with h3 h
  injection h with h4 h
  omega
theorem drop_at (B : List Nat) (p : Nat) (h : p < B.length) : B.drop p = B.getD p 0 :: B.drop (p + 1) := by
  rw [List.drop_eq_getElem_cons h, List.getD_eq_getElem?_getD, List.getElem?_eq_getElem h]; rfl
theorem getD_byte {B : List Nat} (hB : ∀ c ∈ B, c < 256) (p : Nat) : B.getD p 0 < 256 := by
  rw [List.getD_eq_getElem?_getD]
  rcases Nat.lt_or_ge p B.length with h | h
  · rw [List.getElem?_eq_getElem h]; exact hB _ (List.getElem_mem _)
  · rw [List.getElem?_eq_none h]; decide
theorem fld_unf (u : Nat) : fld (unf u) = u := by unfold fld unf; split <;> split <;> omega
theorem unf_in {u : Nat} (h : u < 18446744073709551616) : In64 (unf u) := by unfold In64 unf; split <;> omega
theorem room_pos (f : Nat) : 128 ≤ room (f + 1) := by
  induction f with
  | zero => decide
  | succ f ih => rw [room]; omega
theorem go_canon (B : List Nat) (hB : ∀ c ∈ B, c < 256) (at_ : Nat) (f : Nat) : ∀ (i u : Nat) (n k : Int), f + i = 9 → at_ + i ≤ B.length → decGo B at_ (f + 1) i u = (n, k, 0) →
    ∃ v j : Nat, v < room f ∧ (0 < i → 0 < v) ∧ n = unf (u + v * 128 ^ i) ∧ k = (j : Int) ∧ at_ + i < j ∧ j ≤ B.length ∧ B.drop (at_ + i) = enc f v ++ B.drop j := by
  induction f with
  | zero =>
    intro i u n k hfi hle h
    obtain rfl : i = 9 := by omega
    rw [decGo] at h
    split at h
    · simp at h
    · rename_i hne
      split at h
      · rw [decGo] at h; simp at h
      · split at h
        · simp at h
        · rename_i hc hnz
          have hc1 : B.getD (at_ + 9) 0 = 1 := by omega
          simp only [Prod.mk.injEq] at h
          obtain ⟨h1, h2, _⟩ := h
          refine ⟨1, at_ + 9 + 1, by decide, fun _ => by decide, ?_, h2.symm, by omega, by omega, ?_⟩
          · rw [← h1, hc1]
          · rw [drop_at B (at_ + 9) (by omega), hc1]; rfl
  | succ f ih =>
    intro i u n k hfi hle h
    rw [decGo] at h
    split at h
    · simp at h
    · rename_i hne
      have hb := getD_byte hB (at_ + i)
      have hd := drop_at B (at_ + i) (by omega)
      obtain ⟨c, hc⟩ : ∃ c, B.getD (at_ + i) 0 = c := ⟨_, rfl⟩
      rw [hc] at h hb hd
      split at h
      · rename_i h127
        obtain ⟨v, j, hv, hp, hn, hk, hj, hl, hdr⟩ := ih (i + 1) _ n k (by omega) (by omega) h
        have hv1 := hp (by omega)
        have hsm : c % 128 * 128 ^ i < 18446744073709551616 := small_mul (f := f + 1) (by omega) (Nat.lt_of_lt_of_le (Nat.mod_lt _ (by decide)) (room_pos f))
        have e1 : (c % 128 + 128 * v) % 128 = c % 128 := by omega
        have e2 : (c % 128 + 128 * v) / 128 = v := by omega
        refine ⟨c % 128 + 128 * v, j, by rw [room]; omega, fun _ => by omega, ?_, hk, by omega, hl, ?_⟩
        · rw [hn, Nat.mod_eq_of_lt hsm, Nat.pow_succ, Nat.add_mul]
          congr 1
          have : v * (128 ^ i * 128) = 128 * v * 128 ^ i := by rw [Nat.mul_comm (128 ^ i) 128, ← Nat.mul_assoc, Nat.mul_comm v 128]
          omega
        · rw [enc_great f (by omega), e1, e2, hd, Nat.add_assoc, hdr, List.cons_append]
          congr 1
          omega
      · split at h
        · simp at h
        · rename_i hc1 hnz
          simp only [Prod.mk.injEq] at h
          obtain ⟨h1, h2, _⟩ := h
          have hsm : c % 128 * 128 ^ i < 18446744073709551616 := small_mul (f := f + 1) (by omega) (Nat.lt_of_lt_of_le (Nat.mod_lt _ (by decide)) (room_pos f))
          have e1 : c % 128 = c := Nat.mod_eq_of_lt (by omega)
          refine ⟨c, at_ + i + 1, Nat.lt_of_lt_of_le (by omega) (room_pos f), fun _ => by omega, ?_, h2.symm, by omega, by omega, ?_⟩
          · rw [← h1, Nat.mod_eq_of_lt hsm, e1]
          · rw [enc_small _ (by omega), hd]; rfl
theorem dec_canon {B : List Nat} (hB : ∀ c ∈ B, c < 256) {at_ : Nat} (hle : at_ ≤ B.length) {n k : Int} (h : dec B at_ = (n, k, 0)) :
    In64 n ∧ ∃ j : Nat, k = (j : Int) ∧ at_ < j ∧ j ≤ B.length ∧ B.drop at_ = bytesOf n ++ B.drop j := by
  obtain ⟨v, j, hv, _, hn, hk, hj, hl, hd⟩ := go_canon B hB at_ 9 0 0 n k rfl hle h
  rw [room_nine] at hv
  have e : n = unf v := by rw [hn]; simp
  subst e
  refine ⟨unf_in hv, j, hk, by omega, hl, ?_⟩
  unfold bytesOf
  rw [fld_unf]
  exact hd
end Go.Proofs.Ytaplbkfmedofcaa.Pk
