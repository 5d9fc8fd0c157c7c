/- Plain facts about the checksum of layer 3: no program here. -/
import Derived.Below
namespace Go.Proofs.Ytaplbkfmedofcaa.Cr
set_option linter.unusedVariables false
/-- one shift of the register -/
def step1 (n : Nat) : Nat := if n % 2 = 1 then (n / 2) ^^^ 3988292384 else n / 2
def tab (i : Nat) : Nat := step1 (step1 (step1 (step1 (step1 (step1 (step1 (step1 i)))))))
def stp (r c : Nat) : Nat := (r / 256) ^^^ tab ((r % 256) ^^^ c)
def reg (l : List Nat) : Nat := l.foldl stp 4294967295
def crc (l : List Nat) : Nat := 4294967295 - reg l
theorem step1_lt {n : Nat} (h : n < 4294967296) : step1 n < 4294967296 := by
  unfold step1
  split
  · exact Nat.xor_lt_two_pow (n := 32) (by omega) (by omega)
  · omega
theorem tab_lt {i : Nat} (h : i < 4294967296) : tab i < 4294967296 := by
  unfold tab
  exact step1_lt (step1_lt (step1_lt (step1_lt (step1_lt (step1_lt (step1_lt (step1_lt h)))))))
theorem idx_lt {r c : Nat} (hc : c < 256) : (r % 256) ^^^ c < 256 := Nat.xor_lt_two_pow (n := 8) (by omega) (by omega)
theorem stp_lt {r c : Nat} (hr : r < 4294967296) (hc : c < 256) : stp r c < 4294967296 := by
  unfold stp
  exact Nat.xor_lt_two_pow (n := 32) (by omega) (tab_lt (by have := idx_lt (r := r) hc; omega))
theorem fold_lt (l : List Nat) : ∀ (r : Nat), r < 4294967296 → (∀ c ∈ l, c < 256) → l.foldl stp r < 4294967296 := by
  induction l with
  | nil => intro r hr _; exact hr
  | cons c l ih =>
    intro r hr h
    exact ih _ (stp_lt hr (h c (by simp))) (fun x hx => h x (by simp [hx]))
theorem reg_lt {l : List Nat} (h : ∀ c ∈ l, c < 256) : reg l < 4294967296 := fold_lt l _ (by decide) h
theorem reg_snoc (l : List Nat) (c : Nat) : reg (l ++ [c]) = stp (reg l) c := by simp [reg, List.foldl_append]
/-- a shift turned back -/
def undo1 (n : Nat) : Nat := if 2147483648 ≤ n then ((n ^^^ 3988292384) * 2 + 1) % 4294967296 else n * 2 % 4294967296
def undo (t : Nat) : Nat := undo1 (undo1 (undo1 (undo1 (undo1 (undo1 (undo1 (undo1 (t * 16777216)))))))) % 256
theorem undo_tab : ∀ i, i < 256 → undo (tab i / 16777216) = i := by decide +kernel
theorem top_inj {i j : Nat} (hi : i < 256) (hj : j < 256) (h : tab i / 16777216 = tab j / 16777216) : i = j := by
  rw [← undo_tab i hi, ← undo_tab j hj, h]
theorem xor_top {a b : Nat} (ha : a < 16777216) : (a ^^^ b) / 16777216 = b / 16777216 := by
  have h := @Nat.shiftRight_xor_distrib 24 a b
  rw [Nat.shiftRight_eq_div_pow, Nat.shiftRight_eq_div_pow, Nat.shiftRight_eq_div_pow] at h
  rw [show (2 : Nat) ^ 24 = 16777216 from rfl] at h
  rw [h, Nat.div_eq_of_lt ha, Nat.zero_xor]
theorem xor_cancel {a b c : Nat} (h : a ^^^ c = b ^^^ c) : a = b := by
  have := congrArg (· ^^^ c) h
  simpa [Nat.xor_assoc] using this
theorem xor_cancel' {a b c : Nat} (h : c ^^^ a = c ^^^ b) : a = b := by
  rw [Nat.xor_comm c a, Nat.xor_comm c b] at h
  exact xor_cancel h
theorem stp_inj {r s c : Nat} (hr : r < 4294967296) (hs : s < 4294967296) (hc : c < 256) (h : stp r c = stp s c) : r = s := by
  unfold stp at h
  have ht := congrArg (· / 16777216) h
  simp only [xor_top (show r / 256 < 16777216 by omega), xor_top (show s / 256 < 16777216 by omega)] at ht
  have hi := top_inj (idx_lt hc) (idx_lt hc) ht
  rw [hi] at h
  have h1 := xor_cancel h
  have h2 := xor_cancel hi
  omega
theorem stp_byte {r c d : Nat} (hr : r < 4294967296) (hc : c < 256) (hd : d < 256) (h : stp r c = stp r d) : c = d := by
  unfold stp at h
  have h1 := xor_cancel' h
  exact xor_cancel' (top_inj (idx_lt hc) (idx_lt hd) (by rw [h1]))
theorem fold_inj (l : List Nat) : ∀ (r s : Nat), r < 4294967296 → s < 4294967296 → (∀ c ∈ l, c < 256) → l.foldl stp r = l.foldl stp s → r = s := by
  induction l with
  | nil => intro r s _ _ _ h; exact h
  | cons c l ih =>
    intro r s hr hs hl h
    have hc := hl c (by simp)
    exact stp_inj hr hs hc (ih _ _ (stp_lt hr hc) (stp_lt hs hc) (fun x hx => hl x (by simp [hx])) h)
/-- one byte that differs changes the sum -/
theorem crc_set {l : List Nat} {i d : Nat} (hl : ∀ c ∈ l, c < 256) (hi : i < l.length) (hd : d < 256) (hne : l[i] ≠ d) : crc (l.set i d) ≠ crc l := by
  have hs : ∀ c ∈ l.set i d, c < 256 := fun c hc => by
    rcases List.mem_or_eq_of_mem_set hc with h | h
    · exact hl c h
    · omega
  have e1 : l.set i d = l.take i ++ d :: l.drop (i + 1) := List.set_eq_take_append_cons_drop.trans (by simp [hi])
  have e2 : l = l.take i ++ l[i] :: l.drop (i + 1) := by
    rw [← List.drop_eq_getElem_cons hi, List.take_append_drop]
  intro h
  have r1 := reg_lt hs
  have r2 := reg_lt hl
  unfold crc at h
  have h2 : reg (l.set i d) = reg l := by omega
  rw [e1] at h2
  have h3 : reg (l.take i ++ d :: l.drop (i + 1)) = reg (l.take i ++ l[i] :: l.drop (i + 1)) := h2.trans (congrArg reg e2)
  unfold reg at h3
  rw [List.foldl_append, List.foldl_append, List.foldl_cons, List.foldl_cons] at h3
  have ht : ∀ c ∈ l.take i, c < 256 := fun c hc => hl c (List.mem_of_mem_take hc)
  have hr := fold_lt (l.take i) 4294967295 (by decide) ht
  have hli := hl l[i] (List.getElem_mem hi)
  have h4 := fold_inj _ _ _ (stp_lt hr hd) (stp_lt hr hli) (fun c hc => hl c (List.mem_of_mem_drop hc)) h3
  exact hne (stp_byte hr hd hli h4).symm
theorem crc_digits : crc [49, 50, 51, 52, 53, 54, 55, 56, 57] = 3421780262 := by decide +kernel
end Go.Proofs.Ytaplbkfmedofcaa.Cr
