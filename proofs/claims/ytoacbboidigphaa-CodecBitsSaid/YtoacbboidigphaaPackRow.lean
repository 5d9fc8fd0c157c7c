/- Rows of numbers that the call draws and appends; a width below zero packs nothing. -/
import Derived.Test.YtoacbboidigphaaPackBack
namespace Go.Proofs.Ytoacbboidigphaa.Pk
open Go.ChangeShapes Go.WideShapes Go.RowKit Wo Bm By Cd Sr
set_option linter.unusedVariables false
theorem ok_grown {w w' : World} {g : Nat} {row : Option Nat} (h : Ok w g) (hg : w.grownBy w' row) (hr : ∀ b, row = some b → g < b) : Ok w' g := by
  obtain ⟨A, n, c, k, zs, h1, h2, h3, h4, h5⟩ := h
  refine ⟨A, n, c, k, zs, (hg.block g h1.lt (fun e => by have := hr _ e.symm; omega)).trans h1, h2, h3, h4, fun hn => ?_⟩
  obtain ⟨x, e, hx, hc⟩ := h5 hn
  exact ⟨x, e, hx, fun i hi => World.grownBy.cell hg (hc i hi) (fun e => by have := hr _ e.symm; rw [add_block] at this; omega)⟩
/-- k numbers have been appended -/
def RowI (n0 : Int) (m g base : Nat) (w : World) (s4 s5 : Value) (wr : World) : Prop := ∃ (k : Nat) (L : List Nat) (V : World) (u : Value), V = wr ∧ u = s4 ∧ (k : Int) ≤ n0 ∧ s5 = .int .i64 (n0 - k) ∧ wr.ownsRow base 3 1 s4 k (nums L) ∧ L.length = k ∧ (∀ n ∈ L, n < m) ∧ Ok wr g ∧ Bel w wr ∧ base ≤ wr.heap.size
theorem rowi_step {n0 : Int} {m g base k h cap n : Nat} {w wr w1 w2 : World} {s4 : Value} {L : List Nat} (hgb : g < base) (hwg : w.heap.size ≤ g) (hk : (k : Int) < n0) (hL : L.length = k) (hv : ∀ p ∈ L, p < m) (hn : n < m)
    (hown : wr.ownsRow base 3 1 s4 k (nums L)) (ho1 : Ok w1 g) (hc1 : Ch g wr w1) (hb : Bel w wr) (hbase : base ≤ wr.heap.size)
    (hown2 : w2.ownsRow base 3 1 (.slice (some ⟨h, 0, none⟩) (k + 1) cap) (k + 1) (nums L ++ [.int .i64 (n : Int)])) (hgr : (w1.alloc (.cells #[.int .i64 (n : Int)] 3)).grownBy w2 s4.ownBlock) :
    RowI n0 m g base w (.slice (some ⟨h, 0, none⟩) (k + 1) cap) (.int .i64 (n0 - k - 1)) w2 := by
  have hrow : ∀ b, s4.ownBlock = some b → base ≤ b := fun b e => (hown.lt b e).1
  refine ⟨k + 1, L ++ [n], _, _, rfl, rfl, by omega, by congr 1; omega, by rw [show nums (L ++ [n]) = nums L ++ [.int .i64 (n : Int)] by simp [nums]]; exact hown2, by simp [hL], ?_, ?_, ?_, ?_⟩
  · intro p hp
    rcases List.mem_append.1 hp with h | h
    · exact hv p h
    · simp at h; subst h; exact hn
  · exact ok_grown (ho1.bel (Bel.rf.al _)) hgr (fun b e => by have := hrow b e; omega)
  · have h1 : Bel w w1 := Bel.ch hb hc1 hwg
    have h2 : Bel w (w1.alloc (.cells #[.int .i64 (n : Int)] 3)) := h1.al _
    exact Below.grown h2 hgr h2.size (fun b e => by have := hrow b e; omega)
  · have := hgr.size
    have := hc1.sz
    simp at *
    omega
theorem shl_one {x : Nat} (hx : x < 20) : wrap64 (2 ^ x) = ((2 ^ x : Nat) : Int) ∧ 2 ^ x ≤ 524288 ∧ 1 ≤ 2 ^ x := by
  have h1 : (2 : Nat) ^ x ≤ 2 ^ 19 := Nat.pow_le_pow_right (by omega) (by omega)
  have h2 : 1 ≤ (2 : Nat) ^ x := Nat.one_le_two_pow
  refine ⟨?_, h1, h2⟩
  rw [show (2 : Int) ^ x = ((2 ^ x : Nat) : Int) by simp]
  exact IntWalk.wrap64_in _ (by omega)
theorem pack_neg (A : Option Addr) (n c : Nat) (w : World) :
    Calls Try.prog 14 #[.slice A n c, .int .i64 (-1)] w fun e w' => e = .returned (.tuple #[.slice none 0 0, .int .i64 1]) ∧ Bel w w' := by
  go_enter Try.func14, Try.ntmps14
  go_wp2
  go_ret2
  exact ⟨rfl, Bel.rf⟩
/-- what packing and unpacking a row of small numbers does, from any later world -/
theorem pack_ok {A : Option Addr} {c : Nat} {L : List Nat} {q N : Nat} {w0 : World} (hN : (L.length * q + 7) / 8 = N) (hL : L.length ≤ 2000) (hq : q ≤ 32) (hl : ∀ n ∈ L, n < 524288) (hf : wd L ≤ q) (hr : Ri w0 A L.length L) :
    ∀ W, Bel w0 W → Calls Try.prog 14 #[.slice A L.length c, .int .i64 (q : Int)] W (PackOk L q N W) := by
  intro W hW
  refine (pack_any A c L q N hN hL hq (fun n hn => by have := hl n hn; omega) W (Ri.bel hr hW)).mono fun e w' h => ?_
  rcases h with ⟨_, h⟩ | ⟨⟨n, hn, h⟩, _⟩
  · exact h
  · have h1 := wd_fits (L := L) (fun n hn => by have := hl n hn; omega) n hn
    have h2 : (2 : Nat) ^ wd L ≤ 2 ^ q := Nat.pow_le_pow_right (by omega) hf
    omega
theorem unpack_ok {A : Option Addr} {c : Nat} {L : List Nat} {q N : Nat} (hN : (L.length * q + 7) / 8 = N) (hL : L.length ≤ 2000) (hq : q ≤ 32) (hl : ∀ n ∈ L, n < 524288) (hf : wd L ≤ q) (W : World) (hr : Rd W A N (packed L q)) :
    Calls Try.prog 15 #[.slice A N c, .int .i64 (q : Int), .int .i64 (L.length : Int)] W fun e w' =>
      ∃ h : Nat, e = .returned (.tuple #[.slice (some ⟨h, 0, none⟩) L.length L.length, .int .i64 0]) ∧ Ri w' (some ⟨h, 0, none⟩) L.length L ∧ Bel W w' := by
  refine (unpack_any A c (packed L q) q L.length N hN hL hq W hr).mono fun e w' h => ?_
  rcases h with ⟨_, g, h1, h2, _, h3⟩ | ⟨⟨K, hK1, hK2, hK⟩, _⟩
  · refine ⟨g, h1, ?_, h3⟩
    rwa [vals_packed L q (fun n hn => by
      have h1 := wd_fits (L := L) (fun n hn => by have := hl n hn; omega) n hn
      have h2 : (2 : Nat) ^ wd L ≤ 2 ^ q := Nat.pow_le_pow_right (by omega) hf
      omega)] at h2
  · exact absurd (packed_rest L q N hN K hK1 hK2) hK
theorem wd_19 {L : List Nat} (hl : ∀ n ∈ L, n < 524288) : wd L ≤ 19 := by
  rcases Nat.eq_zero_or_pos (wd L) with h | h
  · omega
  · obtain ⟨n, hn, h1⟩ := wd_least (L := L) (fun n hn => by have := hl n hn; omega) h
    have := hl n hn
    rcases Nat.lt_or_ge 19 (wd L) with h2 | h2
    · have : (2 : Nat) ^ 19 ≤ 2 ^ (wd L - 1) := Nat.pow_le_pow_right (by omega) (by omega)
      omega
    · exact h2
theorem pack_short {A : Option Addr} {c : Nat} {L : List Nat} {w0 : World} (hL : L.length ≤ 2000) (hl : ∀ n ∈ L, n < 524288) (hr : Ri w0 A L.length L) :
    ∀ W, Bel w0 W → Calls Try.prog 14 #[.slice A L.length c, .int .i64 ((wd L : Int) - 1)] W fun e w' => e = .returned (.tuple #[.slice none 0 0, .int .i64 1]) ∧ Bel W w' := by
  intro W hW
  have hq := wd_19 hl
  rcases Nat.eq_zero_or_pos (wd L) with h | h
  · rw [h]
    exact pack_neg A L.length c W
  · rw [show (wd L : Int) - 1 = ((wd L - 1 : Nat) : Int) by omega]
    refine (pack_any A c L (wd L - 1) _ rfl hL (by omega) (fun n hn => by have := hl n hn; omega) W (Ri.bel hr hW)).mono fun e w' h' => ?_
    obtain ⟨n, hn, h1⟩ := wd_least (L := L) (fun n hn => by have := hl n hn; omega) h
    rcases h' with ⟨h2, _⟩ | ⟨_, h2⟩
    · have := h2 n hn
      omega
    · exact h2
end Go.Proofs.Ytoacbboidigphaa.Pk
