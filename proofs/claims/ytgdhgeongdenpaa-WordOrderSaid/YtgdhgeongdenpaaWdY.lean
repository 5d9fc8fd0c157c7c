/- Three full words in an array variable; plain facts of a node. -/
import Derived.Test.YtgdhgeongdenpaaWdW
import Derived.Test.YtgdhgeongdenpaaWd15
namespace Go.Proofs.Ytgdhgeongdenpaa.Wd
open Go.ChangeShapes Go.WideShapes Go.RowKit Wo Sr Wi Ms
set_option linter.unusedVariables false
set_option linter.unusedSimpArgs false
/-- the words of an array of three, so many of them drawn -/
structure Wod (n g : Nat) (w0 : World) (a i : Nat) (V : World) (cs : Array Value) : Prop where
  ok : Ok V g
  ch : Ch g w0 V
  bk : Bk V a 55 cs
  sz : cs.size = 6
  wd : ∀ j, j < i → ∃ sA bA sc bc F, cs[j * 2]? = some (.slice sA n sc) ∧ cs[j * 2 + 1]? = some (.slice bA n bc) ∧ Wv n F (List.replicate n 4) ∧ Zi V sA n F ∧ Zi V bA n (List.replicate n 4) ∧ (0 < n → ∀ ad, sA = some ad → a < ad.block) ∧ (0 < n → ∀ ad, bA = some ad → a < ad.block)
theorem Wod.to {n g : Nat} {w0 : World} {a i : Nat} {V V' : World} {cs : Array Value} (h : Wod n g w0 a i V cs) (hg : g < a) (ho : Ok V' g) (hc : Ch g V V') : Wod n g w0 a i V' cs :=
  ⟨ho, h.ch.tr hc, hc.bk h.bk (by omega), h.sz, fun j hj => by
    obtain ⟨sA, bA, sc, bc, F, h1, h2, h3, h4, h5, h6, h7⟩ := h.wd j hj
    exact ⟨sA, bA, sc, bc, F, h1, h2, h3, ⟨h4.1, fun h0 => (h4.ch hc (fun ad e => by have := h6 h0 ad e; omega)).2 h0⟩, ⟨h5.1, fun h0 => (h5.ch hc (fun ad e => by have := h7 h0 ad e; omega)).2 h0⟩, h6, h7⟩⟩
theorem Wod.up {n g : Nat} {w0 : World} {a i : Nat} {V V' : World} {cs : Array Value} (h : Wod n g w0 a i V cs) (hb : Bel V V') : Wod n g w0 a i V' cs :=
  ⟨h.ok.bel hb, h.ch.tr (Ch.of_bel hb), h.bk.bel hb, h.sz, fun j hj => by
    obtain ⟨sA, bA, sc, bc, F, h1, h2, h3, h4, h5, h6, h7⟩ := h.wd j hj
    exact ⟨sA, bA, sc, bc, F, h1, h2, h3, h4.bel hb, h5.bel hb, h6, h7⟩⟩
theorem Wod.next {n g : Nat} {w0 : World} {a i : Nat} {V : World} {cs : Array Value} {sF bF : Option Addr} {fc fd : Nat} {F : List Int} (h : Wod n g w0 a i V cs) (hi : i < 3) (hg : g < a) (ha : w0.heap.size ≤ a) (hv : Wv n F (List.replicate n 4)) (hs : Zi V sF n F) (hb : Zi V bF n (List.replicate n 4)) (fs : 0 < n → ∀ ad, sF = some ad → a < ad.block) (fb : 0 < n → ∀ ad, bF = some ad → a < ad.block) :
    Wod n g w0 a (i + 1) ((V.setCell ⟨a, i * 2, none⟩ (.slice sF n fc)).setCell ⟨a, i * 2 + 1, none⟩ (.slice bF n fd)) ((cs.setIfInBounds (i * 2) (.slice sF n fc)).setIfInBounds (i * 2 + 1) (.slice bF n fd)) := by
  have hz : ∀ (A : Option Addr) (L : List Int), Zi V A n L → (0 < n → ∀ ad, A = some ad → a < ad.block) → Zi ((V.setCell ⟨a, i * 2, none⟩ (.slice sF n fc)).setCell ⟨a, i * 2 + 1, none⟩ (.slice bF n fd)) A n L := fun A L h hf =>
    ⟨h.1, fun h0 => (h.ch (((Ch.rf (g := a)).st (i * 2) _).st (i * 2 + 1) _) (fun ad e => by have := hf h0 ad e; omega)).2 h0⟩
  have sz := h.sz
  refine ⟨(h.ok.st (by dsimp only; omega) _).st (by dsimp only; omega) _, (h.ch.st2 (by dsimp only; omega) _).st2 (by dsimp only; omega) _, (h.bk.st _ _).st _ _, by simp [sz], fun j hj => ?_⟩
  rcases Nat.lt_or_ge j i with q | q
  · obtain ⟨sA, bA, sc, bc, G, h1, h2, h3, h4, h5, h6, h7⟩ := h.wd j q
    refine ⟨sA, bA, sc, bc, G, ?_, ?_, h3, hz _ _ h4 h6, hz _ _ h5 h7, h6, h7⟩
    · rw [Array.getElem?_setIfInBounds_ne (by omega), Array.getElem?_setIfInBounds_ne (by omega)]; exact h1
    · rw [Array.getElem?_setIfInBounds_ne (by omega), Array.getElem?_setIfInBounds_ne (by omega)]; exact h2
  · obtain rfl : j = i := by omega
    refine ⟨sF, bF, fc, fd, F, ?_, ?_, hv, hz _ _ hs fs, hz _ _ hb fb, fs, fb⟩
    · rw [Array.getElem?_setIfInBounds_ne (by omega), Array.getElem?_setIfInBounds_self_of_lt (by omega)]
    · rw [Array.getElem?_setIfInBounds_self_of_lt (by simp; omega)]
theorem cm_rel {n : Nat} {F0 F1 F2 : List Int} (l0 : F0.length = n) (l1 : F1.length = n) (h0 : ∀ p, p < n → 0 ≤ F0.getD p 0 ∧ F0.getD p 0 < 16) (h1 : ∀ p, p < n → 0 ≤ F1.getD p 0 ∧ F1.getD p 0 < 16) :
    (cm (shf n F0 : Int) (shf n F1 : Int) = -1 ∨ cm (shf n F0 : Int) (shf n F1 : Int) = 0 ∨ cm (shf n F0 : Int) (shf n F1 : Int) = 1) ∧ (cm (shf n F1 : Int) (shf n F2 : Int) = -1 ∨ cm (shf n F1 : Int) (shf n F2 : Int) = 0 ∨ cm (shf n F1 : Int) (shf n F2 : Int) = 1) ∧ cm (shf n F1 : Int) (shf n F0 : Int) = -cm (shf n F0 : Int) (shf n F1 : Int) ∧ decide (F0 = F1) = decide (cm (shf n F0 : Int) (shf n F1 : Int) = 0) ∧
    (cm (shf n F0 : Int) (shf n F1 : Int) ≤ 0 → cm (shf n F1 : Int) (shf n F2 : Int) ≤ 0 → cm (shf n F0 : Int) (shf n F2 : Int) ≤ 0) ∧ (0 ≤ cm (shf n F0 : Int) (shf n F1 : Int) → 0 ≤ cm (shf n F1 : Int) (shf n F2 : Int) → 0 ≤ cm (shf n F0 : Int) (shf n F2 : Int)) ∧ (cm (shf n F0 : Int) (shf n F1 : Int) ≤ 0 → shf n F0 ≤ shf n F1) ∧ (cm (shf n F1 : Int) (shf n F2 : Int) ≤ 0 → shf n F1 ≤ shf n F2) := by
  have hi : F0 = F1 ↔ shf n F0 = shf n F1 := ⟨fun e => by rw [e], shf_inj l0 l1 h0 h1⟩
  have hd : decide (F0 = F1) = decide (cm (shf n F0 : Int) (shf n F1 : Int) = 0) := by
    rw [Bool.eq_iff_iff, decide_eq_true_eq, decide_eq_true_eq, hi]
    unfold cm
    constructor
    · intro h; rw [h, if_neg (by omega), if_neg (by omega)]
    · intro h
      split at h
      · omega
      · split at h
        · omega
        · omega
  refine ⟨?_, ?_, ?_, hd, ?_, ?_, ?_, ?_⟩ <;> unfold cm
  · split
    · exact .inl rfl
    · split
      · exact .inr (.inr rfl)
      · exact .inr (.inl rfl)
  · split
    · exact .inl rfl
    · split
      · exact .inr (.inr rfl)
      · exact .inr (.inl rfl)
  · (repeat' split) <;> omega
  · (repeat' split) <;> omega
  · (repeat' split) <;> omega
  · (repeat' split) <;> omega
  · (repeat' split) <;> omega
theorem tmod_five (a : Int) (h : 0 ≤ a) : ∃ K : Nat, a.tmod 5 = (K : Int) ∧ K ≤ 4 := by
  rw [Int.tmod_eq_emod_of_nonneg h]
  exact ⟨(a % 5).toNat, by omega, by omega⟩
/-- the symbols and the bits of a node -/
def nS (F : List Int) (K mo p : Nat) : List Int := (List.range p).map fun i => F.getD i 0 / 2 ^ (4 - nb K mo i)
def nB (K mo p : Nat) : List Int := (List.range p).map fun i => (nb K mo i : Int)
theorem nS_succ (F : List Int) (K mo p : Nat) : nS F K mo (p + 1) = nS F K mo p ++ [F.getD p 0 / 2 ^ (4 - nb K mo p)] := by unfold nS; rw [List.range_succ, List.map_append]; rfl
theorem nB_succ (K mo p : Nat) : nB K mo (p + 1) = nB K mo p ++ [(nb K mo p : Int)] := by unfold nB; rw [List.range_succ, List.map_append]; rfl
theorem nS_at (F : List Int) (K mo n p : Nat) (h : p < n) : (nS F K mo n).getD p 0 = F.getD p 0 / 2 ^ (4 - nb K mo p) := by
  unfold nS; rw [List.getD_eq_getElem?_getD, List.getElem?_map, List.getElem?_range h]; rfl
theorem nB_at (K mo n p : Nat) (h : p < n) : (nB K mo n).getD p 0 = (nb K mo p : Int) := by
  unfold nB; rw [List.getD_eq_getElem?_getD, List.getElem?_map, List.getElem?_range h]; rfl
theorem nb_le {K mo p : Nat} (h : K ≤ 4) : nb K mo p ≤ 4 := by unfold nb; split <;> omega
theorem node_wv {n K mo : Nat} {F : List Int} (hK : K ≤ 4) (hF : ∀ p, p < n → 0 ≤ F.getD p 0 ∧ F.getD p 0 < 16) : Wv n (nS F K mo n) (nB K mo n) := by
  refine ⟨by simp [nS], by simp [nB], fun p hp => ?_⟩
  rw [nS_at _ _ _ _ _ hp, nB_at _ _ _ _ hp]
  obtain ⟨a, b⟩ := hF p hp
  have h4 := nb_le (mo := mo) (p := p) hK
  obtain ⟨y, hy⟩ : ∃ y, nb K mo p = y := ⟨_, rfl⟩
  obtain ⟨x, hx⟩ : ∃ y, F.getD p 0 = y := ⟨_, rfl⟩
  rw [hy] at h4 ⊢
  rw [hx] at a b ⊢
  rw [Int.toNat_natCast]
  rcases (by omega : y = 0 ∨ y = 1 ∨ y = 2 ∨ y = 3 ∨ y = 4) with rfl | rfl | rfl | rfl | rfl <;> simp <;> omega
theorem node_blg {n K mo : Nat} {F G : List Int} : Blg n (nS F K mo n) (nB K mo n) G ↔ ∀ p, p < n → G.getD p 0 / 2 ^ (4 - nb K mo p) = F.getD p 0 / 2 ^ (4 - nb K mo p) := by
  unfold Blg
  constructor
  · intro h p hp
    have := h p hp
    rw [nS_at _ _ _ _ _ hp, nB_at _ _ _ _ hp, Int.toNat_natCast] at this
    exact this
  · intro h p hp
    rw [nS_at _ _ _ _ _ hp, nB_at _ _ _ _ hp, Int.toNat_natCast]
    exact h p hp
end Go.Proofs.Ytgdhgeongdenpaa.Wd
