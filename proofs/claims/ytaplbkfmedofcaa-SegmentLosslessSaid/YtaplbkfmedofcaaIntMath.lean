/- Plain facts about integers as bytes (layer 3): no program here. -/
import Derived.Below
namespace Go.Proofs.Ytaplbkfmedofcaa.Cd
set_option linter.unusedVariables false
/-- the folded number, and back -/
def fld (n : Int) : Nat := if 0 ≤ n then (2 * n).toNat else (-2 * n - 1).toNat
def unf (u : Nat) : Int := if u % 2 = 0 then ((u / 2 : Nat) : Int) else -((u / 2 : Nat) : Int) - 1
theorem unf_fld (n : Int) : unf (fld n) = n := by unfold unf fld; split <;> split <;> omega
theorem fld_lt {n : Int} (h0 : -9223372036854775808 ≤ n) (h1 : n ≤ 9223372036854775807) : fld n < 18446744073709551616 := by unfold fld; split <;> omega
/-- the encoding of a folded number, with room for f bytes ahead of the last one -/
def enc : Nat → Nat → List Nat
  | 0, u => [u]
  | f + 1, u => if u < 128 then [u] else (u % 128 + 128) :: enc f (u / 128)
def bytesOf (n : Int) : List Nat := enc 9 (fld n)
theorem enc_small (f : Nat) {u : Nat} (h : u < 128) : enc f u = [u] := by cases f <;> simp [enc, h]
theorem enc_great (f : Nat) {u : Nat} (h : 128 ≤ u) : enc (f + 1) u = (u % 128 + 128) :: enc f (u / 128) := by rw [enc, if_neg (by omega)]
theorem enc_len (f : Nat) : ∀ u, 1 ≤ (enc f u).length ∧ (enc f u).length ≤ f + 1 := by
  induction f with
  | zero => intro u; simp [enc]
  | succ f ih =>
    intro u
    rcases Nat.lt_or_ge u 128 with h | h
    · rw [enc_small _ h]; simp
    · rw [enc_great _ h, List.length_cons]; have := ih (u / 128); omega
/-- the greatest folded number of f bytes and the last one -/
def room : Nat → Nat
  | 0 => 2
  | f + 1 => 128 * room f
theorem enc_byte (f : Nat) : ∀ u, u < room f → ∀ c ∈ enc f u, c < 256 := by
  induction f with
  | zero => intro u hu c hc; simp [enc] at hc; simp [room] at hu; omega
  | succ f ih =>
    intro u hu c hc
    simp [room] at hu
    rcases Nat.lt_or_ge u 128 with h | h
    · rw [enc_small _ h] at hc; simp at hc; omega
    · rw [enc_great _ h] at hc
      rcases List.mem_cons.1 hc with h1 | h1
      · omega
      · exact ih (u / 128) (by omega) c h1
theorem room_nine : room 9 = 18446744073709551616 := by decide
theorem enc_mono (f : Nat) : ∀ u v, u ≤ v → (enc f u).length ≤ (enc f v).length := by
  induction f with
  | zero => intro u v _; simp [enc]
  | succ f ih =>
    intro u v h
    rcases Nat.lt_or_ge u 128 with hu | hu
    · rw [enc_small _ hu]; simpa using (enc_len (f + 1) v).1
    · rw [enc_great _ hu, enc_great _ (by omega)]
      simpa using ih (u / 128) (v / 128) (by omega)
/-- what Int does from byte i of the encoding on, u being what the bytes ahead of it say -/
def decGo (B : List Nat) (at_ : Nat) : Nat → Nat → Nat → Int × Int × Int
  | 0, _, _ => (0, 0, 3)
  | f + 1, i, u =>
    if at_ + i = B.length then (0, 0, 2)
    else if 127 < B.getD (at_ + i) 0 then decGo B at_ f (i + 1) (u + B.getD (at_ + i) 0 % 128 * 128 ^ i % 18446744073709551616)
    else if (i = 9 ∧ 1 < B.getD (at_ + i) 0) ∨ (0 < i ∧ B.getD (at_ + i) 0 = 0) then (0, 0, 3)
    else (unf (u + B.getD (at_ + i) 0 % 128 * 128 ^ i % 18446744073709551616), ((at_ + i + 1 : Nat) : Int), 0)
def dec (B : List Nat) (at_ : Nat) : Int × Int × Int := decGo B at_ 10 0 0
theorem getD_drop {B L : List Nat} {k : Nat} {c : Nat} (h : B.drop k = c :: L) : k < B.length ∧ B.getD k 0 = c ∧ B.drop (k + 1) = L := by
  have hk : k < B.length := by
    rcases Nat.lt_or_ge k B.length with h1 | h1
    · exact h1
    · rw [List.drop_eq_nil_of_le h1] at h; cases h
  rw [List.drop_eq_getElem_cons hk] at h
  injection h with h1 h2
  exact ⟨hk, by rw [List.getD_eq_getElem?_getD, List.getElem?_eq_getElem hk]; exact h1, h2⟩
theorem pow_room (f i : Nat) (h : f + i = 9) : room f * 128 ^ i = 18446744073709551616 := by
  have : i = 9 - f := by omega
  subst this
  have hf : f ≤ 9 := by omega
  revert hf
  match f with
  | 0 => decide
  | 1 => decide
  | 2 => decide
  | 3 => decide
  | 4 => decide
  | 5 => decide
  | 6 => decide
  | 7 => decide
  | 8 => decide
  | 9 => decide
  | _ + 10 => intro h; omega
theorem small_mul {v f i : Nat} (h : f + i = 9) (hv : v < room f) : v * 128 ^ i < 18446744073709551616 := by
  rw [← pow_room f i h]
  exact Nat.mul_lt_mul_of_pos_right hv (Nat.pow_pos (by omega))
/-- the encoding of v is read, whatever stands behind it -/
theorem dec_enc (B rest : List Nat) (at_ : Nat) (f : Nat) : ∀ (i u v : Nat), f + i = 9 → v < room f → (0 < i → 0 < v) → B.drop (at_ + i) = enc f v ++ rest →
    decGo B at_ (f + 1) i u = (unf (u + v * 128 ^ i), ((at_ + i + (enc f v).length : Nat) : Int), 0) := by
  induction f with
  | zero =>
    intro i u v hi hv hp hb
    obtain ⟨h1, h2, h3⟩ := getD_drop (L := rest) (c := v) (by simpa [enc] using hb)
    have hs := small_mul hi hv
    simp [room] at hv
    rw [decGo, if_neg (by omega), h2, if_neg (by omega), if_neg (by have := hp; omega), Nat.mod_eq_of_lt (show v < 128 by omega), Nat.mod_eq_of_lt hs]
    simp [enc]
  | succ f ih =>
    intro i u v hi hv hp hb
    have hs := small_mul hi hv
    rcases Nat.lt_or_ge v 128 with h | h
    · rw [enc_small _ h] at hb ⊢
      obtain ⟨h1, h2, h3⟩ := getD_drop (L := rest) (c := v) (by simpa using hb)
      rw [decGo, if_neg (by omega), h2, if_neg (by omega), if_neg (by have := hp; omega), Nat.mod_eq_of_lt (show v < 128 by omega), Nat.mod_eq_of_lt hs]
      simp
    · rw [enc_great _ h] at hb ⊢
      obtain ⟨h1, h2, h3⟩ := getD_drop (L := enc f (v / 128) ++ rest) (c := v % 128 + 128) (by simpa using hb)
      rw [decGo, if_neg (by omega), h2, if_pos (by omega)]
      have e1 : (v % 128 + 128) % 128 = v % 128 := by omega
      have e2 : v % 128 * 128 ^ i < 18446744073709551616 := by
        have : v % 128 * 128 ^ i ≤ v * 128 ^ i := Nat.mul_le_mul_right _ (Nat.mod_le _ _)
        omega
      rw [e1, Nat.mod_eq_of_lt e2, ih (i + 1) _ (v / 128) (by omega) (by simp [room] at hv; omega) (by intro _; omega) (by rw [← Nat.add_assoc]; exact h3)]
      have e3 : u + v % 128 * 128 ^ i + v / 128 * 128 ^ (i + 1) = u + v * 128 ^ i := by
        have : v * 128 ^ i = (v % 128 + 128 * (v / 128)) * 128 ^ i := by rw [Nat.mod_add_div]
        rw [this, Nat.pow_succ]
        grind
      rw [e3, List.length_cons]
      congr 2
      congr 1
      omega
/-- a beginning of the encoding is too short -/
theorem dec_short (B : List Nat) (at_ : Nat) (f : Nat) : ∀ (i u v j : Nat), j < (enc f v).length → at_ + i ≤ B.length → B.drop (at_ + i) = (enc f v).take j → decGo B at_ (f + 1) i u = (0, 0, 2) := by
  induction f with
  | zero =>
    intro i u v j hj hl hb
    have : j = 0 := by simp [enc] at hj; omega
    subst this
    have : B.length ≤ at_ + i := by simpa using hb
    rw [decGo, if_pos (by omega)]
  | succ f ih =>
    intro i u v j hj hl hb
    rcases Nat.eq_zero_or_pos j with h0 | h0
    · subst h0
      have : B.length ≤ at_ + i := by simpa using hb
      rw [decGo, if_pos (by omega)]
    · rcases Nat.lt_or_ge v 128 with h | h
      · rw [enc_small _ h] at hj; simp at hj; omega
      · rw [enc_great _ h] at hb hj
        obtain ⟨k, rfl⟩ : ∃ k, j = k + 1 := ⟨j - 1, by omega⟩
        rw [List.take_succ_cons] at hb
        obtain ⟨h1, h2, h3⟩ := getD_drop hb
        rw [decGo, if_neg (by omega), h2, if_pos (by omega)]
        exact ih (i + 1) _ (v / 128) k (by simpa using hj) (by omega) (by rw [← Nat.add_assoc]; exact h3)
theorem dec_bytes {B rest : List Nat} {at_ : Nat} {n : Int} (h0 : -9223372036854775808 ≤ n) (h1 : n ≤ 9223372036854775807) (hb : B.drop at_ = bytesOf n ++ rest) :
    dec B at_ = (n, ((at_ + (bytesOf n).length : Nat) : Int), 0) := by
  have := dec_enc B rest at_ 9 0 0 (fld n) rfl (by rw [room_nine]; exact fld_lt h0 h1) (by omega) (by simpa [bytesOf] using hb)
  unfold dec
  rw [this]
  simp [unf_fld, bytesOf]
theorem dec_cut {B : List Nat} {at_ j : Nat} {n : Int} (hl : at_ ≤ B.length) (hj : j < (bytesOf n).length) (hb : B.drop at_ = (bytesOf n).take j) : dec B at_ = (0, 0, 2) :=
  dec_short B at_ 9 0 0 (fld n) j hj (by simpa using hl) (by simpa [bytesOf] using hb)
end Go.Proofs.Ytaplbkfmedofcaa.Cd
