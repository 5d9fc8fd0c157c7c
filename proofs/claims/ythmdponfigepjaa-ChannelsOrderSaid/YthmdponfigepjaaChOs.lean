/- Two rows of slices that grow one after another in a drawn region. -/
import Derived.Test.YthmdponfigepjaaChOr
namespace Go.Proofs.Ythmdponfigepjaa.Ch
open Go.ChangeShapes Go.WideShapes Go.RowKit Wo Sr Wi Nr Ra Eu
set_option linter.unusedVariables false
theorem grow_own {v2 W u : World} {p : Value} {n : Nat} {A : List Value} (hb : Bel v2 W) (ho : u.ownsRow W.heap.size 22 1 p n A) (h : Bel W u) : u.ownsRow v2.heap.size 22 1 p n A ∧ Bel v2 u := ⟨own_low ho hb.size, hb.tr h⟩
theorem app_own {v2 W u : World} {p p' : Value} {n k : Nat} {A C : List Value} (ho : W.ownsRow v2.heap.size 22 1 p n A) (hb : Bel v2 W) (h : u.ownsRow v2.heap.size 22 1 p' k C) (hg : W.grownBy u p.ownBlock) : u.ownsRow v2.heap.size 22 1 p' k C ∧ Bel v2 u :=
  ⟨h, bel_grown hb hg (own_base ho)⟩
theorem grow_two {v2 u2 W3 u3 : World} {p2 p3 : Value} {k n : Nat} {P A : List Value} (t2o : u2.ownsRow v2.heap.size 22 1 p2 k P) (t2b : Bel v2 u2) (hb : Bel u2 W3) (ho3 : u3.ownsRow W3.heap.size 22 1 p3 n A) (hb3 : Bel W3 u3) :
    u3.ownsRow v2.heap.size 22 1 p2 k P ∧ u3.ownsRow u2.heap.size 22 1 p3 n A ∧ u2.heap.size ≤ u3.heap.size ∧ Bel v2 u3 :=
  ⟨own_bel t2o (hb.tr hb3), own_low ho3 hb.size, (hb.tr hb3).size, t2b.tr (hb.tr hb3)⟩
theorem app_two {v2 u2 u3 W4 u4 : World} {p2 p3 p4 : Value} {k n l : Nat} {P A C : List Value} (t2o : u2.ownsRow v2.heap.size 22 1 p2 k P) (t2b : Bel v2 u2)
    (t3 : u3.ownsRow v2.heap.size 22 1 p2 k P ∧ u3.ownsRow u2.heap.size 22 1 p3 n A ∧ u2.heap.size ≤ u3.heap.size ∧ Bel v2 u3) (hb : Bel u3 W4) (ho4 : u4.ownsRow u2.heap.size 22 1 p4 l C) (hg4 : W4.grownBy u4 p3.ownBlock) :
    u4.ownsRow v2.heap.size 22 1 p2 k P ∧ u4.ownsRow u2.heap.size 22 1 p4 l C ∧ Bel v2 u4 :=
  ⟨kept_of (own_bel t3.1 hb) hg4 (fun b e e2 => by
      have h1 := (t2o.lt b e).2
      have h2 := own_base t3.2.1 b e2
      omega), ho4, bel_grown (t3.2.2.2.tr hb) hg4 (fun b e => by
      have h1 := own_base t3.2.1 b e
      have h2 := t2b.size
      omega)⟩
theorem row_done {V : World} {B r q n : Nat} {p : Value} {As : Nat → Option Addr} {cs : Nat → Nat} (hr : r ≤ q) (hq : 1 ≤ q) (h : V.ownsRow B 22 1 p (q - r + r) (vls (fun j => chv n As cs (j + r)) (q - r) ++ vls (chv n As cs) r)) :
    ∃ G c, p = .slice (some ⟨G, 0, none⟩) q c ∧ Vc V (some ⟨G, 0, none⟩) q (vls (rot r q (chv n As cs)) q) := by
  rw [vls_rot _ hr, Nat.sub_add_cancel hr] at h
  obtain ⟨G, c, e, hv, _⟩ := own_vc h (vls_len _ _) (fun u hu => by
    obtain ⟨j, _, rfl⟩ := List.mem_map.1 hu
    unfold rot
    split <;> rfl) hq
  exact ⟨G, c, e, hv⟩
end Go.Proofs.Ythmdponfigepjaa.Ch
