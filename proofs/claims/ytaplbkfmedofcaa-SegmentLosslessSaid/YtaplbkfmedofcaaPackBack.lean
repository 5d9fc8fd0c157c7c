/- Plain facts: what is packed is unpacked; lists of numbers that the call makes; keep's Ints. -/
import Derived.Test.YtaplbkfmedofcaaCodecUnpack
import Derived.Test.YtaplbkfmedofcaaSrcNew0
import Derived.Test.YtaplbkfmedofcaaSrcR0
import Derived.Deep.AppendLies
namespace Go.Proofs.Ytaplbkfmedofcaa.Pk
open Go.ChangeShapes Go.WideShapes Go.RowKit Wo Bm By Cd Sr
set_option linter.unusedVariables false
theorem bitB_packed (L : List Nat) (k K : Nat) (h : K / 8 < (L.length * k + 7) / 8) : bitB (packed L k) K = if K < L.length * k then fb L k K else 0 := by
  unfold bitB packed
  rw [bytesK_at h]
  exact pk_bit (fb_lt L k) _ K
theorem packed_rest (L : List Nat) (k N : Nat) (hN : (L.length * k + 7) / 8 = N) : ∀ K, L.length * k ≤ K → K < 8 * N → bitB (packed L k) K = 0 := by
  intro K h1 h2
  rw [bitB_packed L k K (by omega), if_neg (by omega)]
theorem vals_packed (L : List Nat) (k : Nat) (hf : ∀ n ∈ L, n < 2 ^ k) : vals (packed L k) k L.length = L := by
  apply List.ext_getElem?
  intro t
  rcases Nat.lt_or_ge t L.length with ht | ht
  · have hn := hf _ (List.getElem_mem ht)
    simp only [vals, List.getElem?_map, List.getElem?_range ht, Option.map_some, List.getElem?_eq_getElem ht]
    congr 1
    rw [← val_full hn]
    apply val_congr
    intro j hj
    have hlt : t * k + j < L.length * k := by
      have : (t + 1) * k ≤ L.length * k := Nat.mul_le_mul_right _ ht
      rw [Nat.add_mul] at this
      omega
    show bitB (packed L k) (t * k + j) = _
    rw [bitB_packed L k _ (by omega), if_pos hlt, fb_at L t hj, List.getD_eq_getElem?_getD, List.getElem?_eq_getElem ht]
    rfl
  · simp [vals, Nat.not_lt.2 ht]
theorem lt_bl {n : Nat} (h : n < 4294967296) : n < 2 ^ Lib.bitLen n := by
  rcases Nat.eq_zero_or_pos n with h0 | h0
  · subst h0; exact Nat.two_pow_pos _
  · exact (Lib.bitLenAux_bounds 64 n (by omega) (by omega)).2.2
theorem bl_le_n {n : Nat} (h : n < 4294967296) (h0 : n ≠ 0) : 1 ≤ Lib.bitLen n ∧ 2 ^ (Lib.bitLen n - 1) ≤ n := by
  have := Lib.bitLenAux_bounds 64 n (by omega) h0
  exact ⟨this.1, this.2.1⟩
theorem wd_fold (L : List Nat) : ∀ m, (∀ n ∈ L, Lib.bitLen n ≤ L.foldl (fun m n => max m (Lib.bitLen n)) m) ∧ m ≤ L.foldl (fun m n => max m (Lib.bitLen n)) m ∧ (L.foldl (fun m n => max m (Lib.bitLen n)) m = m ∨ ∃ n ∈ L, Lib.bitLen n = L.foldl (fun m n => max m (Lib.bitLen n)) m) := by
  induction L with
  | nil => intro m; exact ⟨by simp, Nat.le_refl _, .inl rfl⟩
  | cons a L ih =>
    intro m
    obtain ⟨h1, h2, h3⟩ := ih (max m (Lib.bitLen a))
    simp only [List.foldl_cons]
    refine ⟨fun n hn => ?_, by omega, ?_⟩
    · rcases List.mem_cons.1 hn with rfl | h
      · omega
      · exact h1 n h
    · rcases h3 with h3 | ⟨n, hn, he⟩
      · rcases Nat.lt_or_ge m (Lib.bitLen a) with h | h
        · exact .inr ⟨a, by simp, by rw [h3]; omega⟩
        · exact .inl (by rw [h3]; omega)
      · exact .inr ⟨n, by simp [hn], he⟩
theorem wd_fits {L : List Nat} (h : ∀ n ∈ L, n < 4294967296) : ∀ n ∈ L, n < 2 ^ wd L := fun n hn =>
  Nat.lt_of_lt_of_le (lt_bl (h n hn)) (Nat.pow_le_pow_right (by omega) ((wd_fold L 0).1 n hn))
theorem wd_least {L : List Nat} (h : ∀ n ∈ L, n < 4294967296) (h1 : 1 ≤ wd L) : ∃ n ∈ L, 2 ^ (wd L - 1) ≤ n := by
  rcases (wd_fold L 0).2.2 with h2 | ⟨n, hn, he⟩
  · have : wd L = 0 := h2
    omega
  · have hne : n ≠ 0 := by
      rintro rfl
      have : Lib.bitLen 0 = 0 := by decide
      have h3 : Lib.bitLen 0 = wd L := he
      omega
    have := (bl_le_n (h n hn) hne).2
    rw [show Lib.bitLen n = wd L from he] at this
    exact ⟨n, hn, this⟩
theorem row_ri {w : World} {base k : Nat} {v : Value} {L : List Nat} (h : w.ownsRow base 3 1 v k (nums L)) (hk : L.length = k) : ∃ A c, v = .slice A k c ∧ Ri w A k L ∧ (A = none → c = 0) := by
  rcases Nat.eq_zero_or_pos k with h0 | h0
  · subst h0
    have hL : L = [] := List.eq_nil_of_length_eq_zero hk
    subst hL
    rcases h.2 with ⟨rfl, _⟩ | ⟨g, cap, cur, rfl, _⟩
    · exact ⟨none, 0, rfl, ⟨rfl, fun h => by omega⟩, fun _ => rfl⟩
    · exact ⟨some ⟨g, 0, none⟩, cap, rfl, ⟨rfl, fun h => by omega⟩, fun h => by cases h⟩
  · obtain ⟨g, cap, rfl, hb, hlt⟩ := h.form h0
    refine ⟨some ⟨g, 0, none⟩, cap, rfl, ⟨hk, fun _ => ⟨_, rfl, hlt, fun j hj => ?_⟩⟩, fun h => by cases h⟩
    exact h.cells (g := g) rfl j _ (nums_at (by omega))
theorem Ri.bel {w w' : World} {A : Option Addr} {n : Nat} {L : List Nat} (h : Ri w A n L) (hb : Bel w w') : Ri w' A n L :=
  ⟨h.1, fun hn => by
    obtain ⟨ad, e, hx, hc⟩ := h.2 hn
    exact ⟨ad, e, by have := hb.size; omega, fun j hj => hb.kp (hc j hj)⟩⟩
theorem int_ne_self (x : Int) : (x != x) = false := by simp
set_option maxHeartbeats 4000000 in
theorem ints_same (A A' : Option Addr) (c c' n : Nat) (L : List Nat) (hn : n ≤ 1000000) (w : World) (h1 : Ri w A n L) (h2 : Ri w A' n L) :
    Calls Try.prog 14 #[.slice A n c, .slice A' n c'] w fun e w' => e = .returned (.bool true) ∧ Bel w w' := by
  have H1 := Lib.hid h1
  have H2 := Lib.hid h2
  have ni : (n : Int) ≤ 1000000 := by omega
  clear h1 h2
  go_enter Try.func14, Try.ntmps14
  go_wp2
  go_loopw [13] (fun s13 wr => ∃ (k : Nat) (V : World), V = wr ∧ k ≤ n ∧ s13 = .int .i64 (k : Int) ∧ Bel w wr) (fun s13 _ => n - (intOf s13).toNat)
  case atStart => exact ⟨0, _, rfl, by omega, rfl, Bel.rf⟩
  case round =>
    obtain ⟨k, wr, hwr, hk, rfl, hb⟩ := hrel
    subst hwr
    have HB := Lib.hid hb
    rcases Nat.lt_or_ge k n with hlt | hge
    · obtain ⟨ad, rfl, hab, hac⟩ := (Ri.bel H1.out hb).2 (by omega)
      obtain ⟨ad', rfl, hab', hac'⟩ := (Ri.bel H2.out hb).2 (by omega)
      have c1 := hac k hlt
      have c2 := hac' k hlt
      obtain ⟨x, hx⟩ : ∃ x, L.getD k 0 = x := ⟨_, rfl⟩
      rw [hx] at c1 c2
      have ki : (k : Int) < (n : Int) := by omega
      have kn := int_ne_self (x : Int)
      clear hb hac hac' hab hab' hx
      go_wp2
      go_quiet (fail)
      go_wp2
      go_roundw
      case rel => exact ⟨k + 1, _, rfl, by omega, by go_num, HB.out.drwN _⟩
      case measure => simp [intOf]; omega
    · obtain rfl : k = n := by omega
      clear hb
      go_wp2
      go_ret
      exact ⟨rfl, HB.out⟩
end Go.Proofs.Ytaplbkfmedofcaa.Pk
