/- Rows that lie in the cells of an array variable. -/
import Derived.Test.YtgcjangnlbhicaaStZ2
import Derived.Deep.DeepCutAuto
import Derived.Deep.CutBlock
import Derived.Deep.CutRange
namespace Go.Proofs.Ytgcjangnlbhicaa.St
open Go.ChangeShapes Go.WideShapes Go.RowKit Wo Sr Wi Rm Rg
set_option linter.unusedVariables false
/-- the q-th cell holds a row of these readings -/
def Ent (G : Nat) (w : World) (cv : Array Value) (nb : Nat) (L : List Rp) (q : Nat) : Prop := ∃ A c, cv[q]? = some (.slice A nb c) ∧ Zr w A nb L ∧ ∀ b, A = some ⟨b, 0, none⟩ → b ≠ G
theorem Ent.bel {G nb q : Nat} {w w' : World} {cv : Array Value} {L : List Rp} (h : Ent G w cv nb L q) (hb : Bel w w') : Ent G w' cv nb L q := by
  obtain ⟨A, c, h1, h2, h3⟩ := h
  exact ⟨A, c, h1, h2.bel hb, h3⟩
theorem ch_set (G p : Nat) (w : World) (u : Value) : Ch G w (w.setCell ⟨G, p, none⟩ u) := Ch.rf.st p u
theorem Ent.st {G nb p q : Nat} {w : World} {cv : Array Value} {L : List Rp} (h : Ent G w cv nb L q) (hne : q ≠ p) (u : Value) : Ent G (w.setCell ⟨G, p, none⟩ u) (cv.setIfInBounds p u) nb L q := by
  obtain ⟨A, c, h1, h2, h3⟩ := h
  refine ⟨A, c, ?_, h2.ch (ch_set G p w u) h3, h3⟩
  rw [Array.getElem?_setIfInBounds_ne (fun e => hne e.symm)]
  exact h1
theorem Ent.new {G nb p : Nat} {w : World} {cv : Array Value} {L : List Rp} {A : Option Addr} {c : Nat} (hp : p < cv.size) (hz : Zr w A nb L) (hn : ∀ b, A = some ⟨b, 0, none⟩ → b ≠ G) : Ent G (w.setCell ⟨G, p, none⟩ (.slice A nb c)) (cv.setIfInBounds p (.slice A nb c)) nb L p := by
  refine ⟨A, c, ?_, hz.ch (ch_set G p w _) hn, hn⟩
  rw [Array.getElem?_setIfInBounds_self_of_lt hp]
theorem own_znb {w : World} {base n : Nat} {v : Value} {l : List Rp} (h : w.ownsRow base 28 2 v n (rs l)) (hl : l.length = n) : ∃ A c, v = .slice A n c ∧ Zr w A n l ∧ Nz A n c ∧ ∀ b, A = some ⟨b, 0, none⟩ → base ≤ b := by
  rcases own_some h hl with ⟨rfl, rfl, rfl⟩ | ⟨g, c, rfl, _, hb, hr⟩
  · exact ⟨none, 0, rfl, ⟨rfl, fun h => by omega⟩, .inr ⟨rfl, rfl, rfl⟩, fun b e => by cases e⟩
  · exact ⟨_, c, rfl, hr.zr, .inl ⟨_, rfl⟩, fun b e => by cases e; exact hb⟩
end Go.Proofs.Ytgcjangnlbhicaa.St
