/- Plain facts: one bit of what is packed is turned. -/
import Derived.Test.YtoacbboidigphaaPackRow
namespace Go.Proofs.Ytoacbboidigphaa.Pk
open Go.ChangeShapes Go.WideShapes Go.RowKit Wo Bm By Cd Sr
set_option linter.unusedVariables false
def turned (B : List Nat) (a : Nat) : List Nat := B.set (a / 8) (B.getD (a / 8) 0 ^^^ 2 ^ (a % 8))
theorem bit_dec (x s : Nat) : x / 2 ^ s % 2 = if x.testBit s then 1 else 0 := by
  rw [Nat.testBit_eq_decide_div_mod_eq]
  have : x / 2 ^ s % 2 < 2 := Nat.mod_lt _ (by decide)
  split <;> rename_i h <;> simp at h <;> omega
theorem xor_bit (x j s : Nat) : (x ^^^ 2 ^ j) / 2 ^ s % 2 = if s = j then 1 - x / 2 ^ s % 2 else x / 2 ^ s % 2 := by
  rw [bit_dec, bit_dec, Nat.testBit_xor, Nat.testBit_two_pow]
  rcases Classical.em (s = j) with h | h
  · subst h
    cases x.testBit s <;> simp
  · have : ¬ j = s := fun e => h e.symm
    rw [if_neg h]
    cases x.testBit s <;> simp [this]
theorem bitB_flip {B : List Nat} {a : Nat} (ha : a / 8 < B.length) (K : Nat) : bitB (turned B a) K = if K = a then 1 - bitB B a else bitB B K := by
  unfold bitB turned
  rw [List.getD_eq_getElem?_getD, List.getElem?_set]
  rcases Classical.em (a / 8 = K / 8) with h | h
  · rw [if_pos h, if_pos ha, Option.getD_some, xor_bit, ← h]
    rcases Classical.em (K = a) with h2 | h2
    · subst h2
      rw [if_pos rfl, if_pos rfl]
    · rw [if_neg h2, if_neg (by omega)]
  · rw [if_neg h, if_neg (by rintro rfl; exact h rfl), List.getD_eq_getElem?_getD]
theorem val_bit {g : Nat → Nat} (hg : ∀ k, g k < 2) : ∀ (t s : Nat), s < t → val g t / 2 ^ s % 2 = g s
  | 0, s, h => by omega
  | t + 1, s, h => by
    rw [val]
    rcases Nat.lt_or_ge s t with h1 | h1
    · have ih := val_bit hg t s h1
      have e : (2 : Nat) ^ t = 2 ^ s * (2 * 2 ^ (t - s - 1)) := by
        rw [← Nat.pow_succ', ← Nat.pow_add]; congr 1; omega
      rw [e, show ∀ x : Nat, x * (2 ^ s * (2 * 2 ^ (t - s - 1))) = 2 ^ s * (2 * (x * 2 ^ (t - s - 1))) from fun x => by grind, Nat.add_mul_div_left _ _ (Nat.two_pow_pos s), Nat.add_mul_mod_self_left]
      exact ih
    · obtain rfl : s = t := by omega
      have hl := val_lt hg s
      rw [Nat.add_mul_div_right _ _ (Nat.two_pow_pos s), Nat.div_eq_of_lt hl, Nat.zero_add]
      have := hg s
      omega
theorem val_flip {g h : Nat → Nat} (hg : ∀ k, g k < 2) (hh : ∀ k, h k < 2) {j k : Nat} (hj : j < k) (h1 : h j = 1 - g j) (h2 : ∀ s, s < k → s ≠ j → h s = g s) : val h k = val g k ^^^ 2 ^ j := by
  have lt1 := val_lt hg k
  have lt2 := val_lt hh k
  have lt3 : val g k ^^^ 2 ^ j < 2 ^ k := Nat.xor_lt_two_pow lt1 (Nat.pow_lt_pow_right (by omega) hj)
  apply Nat.eq_of_testBit_eq
  intro s
  rcases Nat.lt_or_ge s k with hs | hs
  · have e1 := val_bit hh k s hs
    have e2 := xor_bit (val g k) j s
    rw [val_bit hg k s hs] at e2
    rw [Nat.testBit_eq_decide_div_mod_eq, Nat.testBit_eq_decide_div_mod_eq, e1, e2]
    rcases Classical.em (s = j) with h | h
    · subst h
      rw [if_pos rfl, h1]
    · rw [if_neg h, h2 s hs h]
  · have hp : (2 : Nat) ^ k ≤ 2 ^ s := Nat.pow_le_pow_right (by omega) hs
    rw [Nat.testBit_lt_two_pow (by omega), Nat.testBit_lt_two_pow (by omega)]
theorem vals_at {B : List Nat} {k n i : Nat} (h : i < n) : (vals B k n).getD i 0 = val (gB B k i) k := by simp [vals, List.getD_eq_getElem?_getD, h]
/-- what is read back after the bit a was turned -/
theorem vals_flip {L : List Nat} {k a i : Nat} (hf : ∀ n ∈ L, n < 2 ^ k) (hk : 1 ≤ k) (ha : a < L.length * k) (hi : i < L.length) :
    (vals (turned (packed L k) a) k L.length).getD i 0 = if i = a / k then L.getD i 0 ^^^ 2 ^ (a % k) else L.getD i 0 := by
  have hl : (packed L k).length = (L.length * k + 7) / 8 := bytesK_len _ _ _ _
  have hb := fun K => bitB_flip (B := packed L k) (a := a) (by rw [hl]; omega) K
  have h0 : L.getD i 0 = val (gB (packed L k) k i) k := by
    rw [← vals_at hi, vals_packed L k hf]
  rw [vals_at hi, h0]
  have ha2 : a / k * k + a % k = a := by rw [Nat.mul_comm]; exact Nat.div_add_mod a k
  have hm : a % k < k := Nat.mod_lt _ (by omega)
  rcases Classical.em (i = a / k) with h | h
  · rw [if_pos h]
    subst h
    refine val_flip (gB_lt _ _ _) (gB_lt _ _ _) hm ?_ ?_
    · show bitB _ _ = 1 - bitB _ _
      rw [ha2, hb, if_pos rfl]
    · intro s hs hne
      show bitB _ _ = bitB _ _
      rw [hb, if_neg (by omega)]
  · rw [if_neg h]
    apply val_congr
    intro s hs
    show bitB _ _ = bitB _ _
    rw [hb, if_neg]
    intro e
    apply h
    rw [← e, Nat.mul_comm, Nat.mul_add_div (by omega), Nat.div_eq_of_lt hs, Nat.add_zero]
theorem flip_pad {L : List Nat} {k a : Nat} (h1 : L.length * k ≤ a) (h2 : a < 8 * ((L.length * k + 7) / 8)) : bitB (turned (packed L k) a) a ≠ 0 := by
  rw [bitB_flip (by rw [show (packed L k).length = (L.length * k + 7) / 8 from bytesK_len _ _ _ _]; omega), if_pos rfl, packed_rest L k _ rfl a h1 h2]
  decide
theorem flip_rest {L : List Nat} {k a N : Nat} (hN : (L.length * k + 7) / 8 = N) (h1 : a < L.length * k) : ∀ K, L.length * k ≤ K → K < 8 * N → bitB (turned (packed L k) a) K = 0 := by
  intro K h2 h3
  rw [bitB_flip (by rw [show (packed L k).length = (L.length * k + 7) / 8 from bytesK_len _ _ _ _]; omega), if_neg (by omega)]
  exact packed_rest L k N hN K h2 h3
theorem wd_fit {L : List Nat} {q : Nat} (hq : q ≤ 19) (h : ∀ n ∈ L, n < 2 ^ q) : wd L ≤ q ∧ ∀ n ∈ L, n < 524288 := by
  have h0 : ∀ n ∈ L, n < 524288 := fun n hn => by
    have h1 := h n hn
    have h2 : (2 : Nat) ^ q ≤ 2 ^ 19 := Nat.pow_le_pow_right (by omega) hq
    omega
  refine ⟨?_, h0⟩
  rcases Nat.eq_zero_or_pos (wd L) with h1 | h1
  · omega
  · obtain ⟨n, hn, h2⟩ := wd_least (L := L) (fun n hn => by have := h0 n hn; omega) h1
    have h3 := h n hn
    have := (Nat.pow_lt_pow_iff_right (a := 2) (by omega)).1 (show 2 ^ (wd L - 1) < 2 ^ q by omega)
    omega
theorem xor_i64 {a b : Nat} (ha : a < 1048576) (hb : b < 1048576) : bits .xor .i64 (a : Int) (b : Int) = ((a ^^^ b : Nat) : Int) := by
  have hx : a ^^^ b < 2 ^ 20 := Nat.xor_lt_two_pow (n := 20) ha hb
  show IntKind.i64.wrap (((BitVec.ofInt 64 (a : Int) ^^^ BitVec.ofInt 64 (b : Int)).toNat : Nat) : Int) = _
  rw [BitVec.ofInt_natCast, BitVec.ofInt_natCast, BitVec.toNat_xor, BitVec.toNat_ofNat, BitVec.toNat_ofNat, show (2 : Nat) ^ 64 = 18446744073709551616 from rfl, Nat.mod_eq_of_lt (by omega), Nat.mod_eq_of_lt (by omega)]
  exact IntWalk.i64_in _ (by omega)
theorem shl_one4 {x : Nat} (hx : x < 20) : IntKind.i64.wrap ((2 : Int) ^ x) = ((2 ^ x : Nat) : Int) := by
  have h1 : (2 : Nat) ^ x ≤ 2 ^ 19 := Nat.pow_le_pow_right (by omega) (by omega)
  obtain ⟨p, hp⟩ : ∃ p, 2 ^ x = p := ⟨_, rfl⟩
  rw [show (2 : Int) ^ x = ((2 ^ x : Nat) : Int) by simp, hp]
  rw [hp] at h1
  exact IntWalk.i64_in _ (by omega)
/-- as RowI, the counter one less -/
def RowJ (n0 : Int) (m g base : Nat) (w : World) (s4 s5 : Value) (wr : World) : Prop := ∃ z : Int, s5 = .int .i64 (z - 1) ∧ RowI n0 m g base w s4 (.int .i64 z) wr
end Go.Proofs.Ytoacbboidigphaa.Pk
