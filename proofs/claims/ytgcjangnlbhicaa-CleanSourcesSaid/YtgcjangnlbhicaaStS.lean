/- slices.SortStableFunc over readings, by time. -/
import Derived.Test.YtgcjangnlbhicaaStY1
import Derived.Test.YtgcjangnlbhicaaStY2
import Derived.Test.YtgcjangnlbhicaaStY3
namespace Go.Proofs.Ytgcjangnlbhicaa.St
open Go.ChangeShapes Go.WideShapes Go.RowKit Wo Sr Wi Rm Rg
set_option linter.unusedVariables false
theorem sym_any (g c n : Nat) (hn : n ≤ 100000) (hnc : n ≤ c) : ∀ (B a m b : Nat) (l : List Rp) (w : World), b - a ≤ B → a < m → m < b → b ≤ n → Srt l a m → Srt l m b → Rw w g n l →
    Calls Try.prog 48 #[.slice (some ⟨g, 0, none⟩) n c, .int .i64 (a : Int), .int .i64 (m : Int), .int .i64 (b : Int), ord] w (SomeSort g n a b l w) := by
  intro B
  induction B with
  | zero => intro a m b l w h1 h2 h3; exfalso; omega
  | succ B ih =>
    intro a m b l w h1 h2 h3 h4 h5 h6 h7
    by_cases k1 : m = a + 1
    · exact sym1 g c n a m b l hn hnc h2 h3 h4 h5 h6 k1 w h7
    by_cases k2 : b = m + 1
    · exact sym2 g c n a m b l hn hnc h2 h3 h4 h5 h6 k2 k1 w h7
    exact sym3 g c n a m b (B + 1) l hn hnc h2 h3 h4 h5 h6 k1 k2 (fun a m b l w q => ih a m b l w (by omega)) h1 w h7
/-- rows of s are sorted up to e -/
def Blk (l : List Rp) (s e : Nat) : Prop := ∀ x y, s ∣ x → y ≤ x + s → y ≤ e → Srt l x y
theorem srt_sub {l : List Rp} {a b c d : Nat} (h : Srt l a b) (h1 : a ≤ c) (h2 : d ≤ b) : Srt l c d := fun p q k1 k2 k3 => h p q (by omega) k2 (by omega)
theorem dvd_gap {s x a : Nat} (h1 : s ∣ x) (h2 : s ∣ a) (h : x < a) : x + s ≤ a := by
  obtain ⟨u, rfl⟩ := h1
  obtain ⟨v, rfl⟩ := h2
  have : u < v := Nat.lt_of_mul_lt_mul_left h
  calc s * u + s = s * (u + 1) := by rw [Nat.mul_add, Nat.mul_one]
    _ ≤ s * v := Nat.mul_le_mul_left _ this
theorem blk_ext {l l' : List Rp} {s a b : Nat} (ha : s ∣ a) (h : Blk l s a) (hm : Mv l l' a b) (hb : b ≤ a + s) (hs : Srt l' a b) : Blk l' s b := fun x y hx hy he => by
  rcases Nat.lt_trichotomy x a with k | k | k
  · have := dvd_gap hx ha k
    exact hm.srt (h x y hx hy (by omega)) (.inl (by omega))
  · exact srt_sub hs (by omega) (by omega)
  · have := dvd_gap ha hx k
    exact fun p q k1 k2 k3 => by omega
theorem blk_keep {l l' : List Rp} {s a b n : Nat} (ha : s ∣ a) (hb : s ∣ b) (h : Blk l s n) (hm : Mv l l' a b) (hs : Srt l' a b) : Blk l' s n := fun x y hx hy he => by
  rcases Nat.lt_or_ge x a with k | k
  · have := dvd_gap hx ha k
    exact hm.srt (h x y hx hy he) (.inl (by omega))
  rcases Nat.lt_or_ge x b with k2 | k2
  · have := dvd_gap hx hb k2
    exact srt_sub hs (by omega) (by omega)
  · exact hm.srt (h x y hx hy he) (.inr (by omega))
theorem blk0 (l : List Rp) (s : Nat) : Blk l s 0 := fun x y h1 h2 h3 p q k1 k2 k3 => by omega
theorem dvd_two {s x : Nat} (h : 2 * s ∣ x) : s ∣ x := Nat.dvd_trans ⟨2, by omega⟩ h
theorem dvd_next {s x : Nat} (h : s ∣ x) : s ∣ x + s := Nat.dvd_add h (Nat.dvd_refl _)
end Go.Proofs.Ytgcjangnlbhicaa.St
