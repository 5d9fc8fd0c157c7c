/- Parts that have been cleaned. -/
import Derived.Test.YtgcjangnlbhicaaStE
namespace Go.Proofs.Ytgcjangnlbhicaa.St
open Go.ChangeShapes Go.WideShapes Go.RowKit Wo Sr Wi Rm Rg
set_option linter.unusedVariables false
theorem own_znc {w : World} {base n : Nat} {v : Value} {l : List Rp} (h : w.ownsRow base 28 2 v n (rs l)) (hl : l.length = n) : ∃ A c, v = .slice A n c ∧ Zr w A n l ∧ Nz A n c ∧ n ≤ c ∧ ∀ b o, A = some ⟨b, o, none⟩ → base ≤ b := by
  rcases own_some h hl with ⟨rfl, rfl, rfl⟩ | ⟨g, c, rfl, hc, hb, hr⟩
  · exact ⟨none, 0, rfl, ⟨rfl, fun h => by omega⟩, .inr ⟨rfl, rfl, rfl⟩, Nat.le_refl _, fun b o e => by cases e⟩
  · exact ⟨_, c, rfl, hr.zr, .inl ⟨_, rfl⟩, hc, fun b o e => by cases e; exact hb⟩
theorem part_mem {P : List (List Rp)} {j : Nat} (h : j < P.length) : P.getD j [] ∈ P := by
  rw [List.getD_eq_getElem?_getD, List.getElem?_eq_getElem h]; exact List.getElem_mem h
theorem part_vrs {P : List (List Rp)} (hv : Vrs P.flatten) {m : List Rp} (hm : m ∈ P) : Vrs m := vrs_mem.2 fun p hp => vrs_mem.1 hv p (List.mem_flatten.2 ⟨m, hm, hp⟩)
theorem part_len {P : List (List Rp)} {m : List Rp} (hm : m ∈ P) : m.length ≤ P.flatten.length := by
  induction P with
  | nil => cases hm
  | cons a P ih =>
    rw [List.flatten_cons, List.length_append]
    rcases List.mem_cons.1 hm with rfl | h
    · omega
    · have := ih h; omega
theorem cl_len (q : Int) (m : List Rp) : (cln q m).length ≤ m.length := by rw [cln_len, uts_len]; exact uts_le m
theorem parts_len (q : Int) : ∀ P : List (List Rp), (P.map (cln q)).flatten.length ≤ P.flatten.length
  | [] => Nat.le_refl _
  | m :: P => by
    have h1 := parts_len q P
    have h2 := cl_len q m
    rw [List.map_cons, List.flatten_cons, List.flatten_cons, List.length_append, List.length_append]
    omega
theorem parts_vrs {P : List (List Rp)} (q : Int) (hv : Vrs P.flatten) : Vrs (P.map (cln q)).flatten := vrs_mem.2 fun p hp => by
  obtain ⟨m', h1, h2⟩ := List.mem_flatten.1 hp
  obtain ⟨m, h3, rfl⟩ := List.mem_map.1 h1
  exact vrs_mem.1 (cln_vrs (part_vrs hv h3) q) p h2
theorem parts_at {P : List (List Rp)} (q : Int) {j : Nat} (h : j < P.length) : (P.map (cln q)).getD j [] = cln q (P.getD j []) := by
  rw [List.getD_eq_getElem?_getD, List.getD_eq_getElem?_getD, List.getElem?_map, List.getElem?_eq_getElem h]; rfl
/-- a row of the call's own that reads as these readings -/
def Po (w : World) (v : Value) (L : List Rp) : Prop := w.ownsRow 0 28 2 v L.length (rs L)
theorem Po.bel {w w' : World} {v : Value} {L : List Rp} (h : Po w v L) (hb : Bel w w') : Po w' v L := own_bel h hb
theorem own_twor {w : World} {b1 b2 n1 n2 s1 s2 : Nat} {e1 e2 : TypeId} {v1 v2 : Value} {xs ys : List Value} (h1 : w.ownsRow b1 e1 s1 v1 n1 xs) (h2 : w.ownsRow b2 e2 s2 v2 n2 ys) (hne : e1 ≠ e2) : v1.ownBlock = none ∨ v2.ownBlock ≠ v1.ownBlock := by
  rcases h1.2 with ⟨rfl, _⟩ | ⟨g1, c1, u1, rfl, _, k1, _⟩
  · exact .inl rfl
  · right
    rcases h2.2 with ⟨rfl, _⟩ | ⟨g2, c2, u2, rfl, _, k2, _⟩
    · intro e; cases e
    · intro e
      injection e with e
      subst e
      rw [k1] at k2
      injection k2 with k2
      injection k2 with _ k2 _
      exact hne k2
theorem Po.kept {w w' : World} {v u : Value} {L : List Rp} {b n : Nat} {xs : List Value} (h : Po w v L) (ho : w.ownsRow b 23 1 u n xs) (hg : w.grownBy w' u.ownBlock) : Po w' v L :=
  World.ownsRow.kept h hg ((own_twor h ho (by decide)).imp id Ne.symm)
theorem Po.pt {w : World} {v : Value} {L : List Rp} (h : Po w v L) : Pt w v L := by
  obtain ⟨A, c, e, hz, hA⟩ := own_zn h rfl
  exact ⟨A, L.length, c, e, Zr.zo hz, hA⟩
/-- the cleaned parts so far -/
structure Ea (w0 w : World) (Q : Int) (P : List (List Rp)) (i : Nat) (u : Value) (Vs : List Value) : Prop where
  own : w.ownsRow w0.heap.size 23 1 u i Vs
  len : Vs.length = i
  bel : Bel w0 w
  pts : ∀ j, j < i → Po w (Vs.getD j undef) (cln Q (P.getD j []))
theorem Ea.up {w0 w w' : World} {Q : Int} {P : List (List Rp)} {i : Nat} {u : Value} {Vs : List Value} (h : Ea w0 w Q P i u Vs) (hb : Bel w w') : Ea w0 w' Q P i u Vs :=
  ⟨own_bel h.own hb, h.len, h.bel.tr hb, fun j hj => (h.pts j hj).bel hb⟩
theorem Ea.more {w0 w w' : World} {Q : Int} {P : List (List Rp)} {i : Nat} {u v u' : Value} {Vs : List Value} (h : Ea w0 w Q P i u Vs) (hv : Po w v (cln Q (P.getD i []))) (ho : w'.ownsRow w0.heap.size 23 1 u' (i + 1) (Vs ++ [v])) (hg : w.grownBy w' u.ownBlock) : Ea w0 w' Q P (i + 1) u' (Vs ++ [v]) := by
  have hl := h.len
  refine ⟨ho, by simp [hl], bel_grt h.bel hg (fun b e => (h.own.lt b e).1), fun j hj => ?_⟩
  rw [getD_snoc _ _ _ _ (by omega)]
  rcases Nat.lt_or_ge j i with hlt | hge
  · rw [if_pos (by omega)]; exact (h.pts j hlt).kept h.own hg
  · obtain rfl : j = i := by omega
    rw [if_neg (by omega)]; exact hv.kept h.own hg
theorem Ea.zp {w0 w : World} {Q : Int} {P : List (List Rp)} {u : Value} {Vs : List Value} (h : Ea w0 w Q P P.length u Vs) : ∃ G c, u = .slice G P.length c ∧ Zp w G P.length (P.map (cln Q)) Vs := by
  have hl := h.len
  have hp : ∀ j, j < P.length → Pt w (Vs.getD j undef) ((P.map (cln Q)).getD j []) := fun j hj => by
    rw [parts_at Q hj]; exact (h.pts j hj).pt
  rcases h.own.2 with ⟨e, h0⟩ | ⟨b, cap, cur, e, hbb, hg, h1, _⟩
  · exact ⟨none, 0, by rw [e, h0], hl, by simp, fun hh => by omega, hp⟩
  · subst e
    refine ⟨_, cap, rfl, hl, by simp, fun hh => ⟨b, rfl, fun j hj => ?_⟩, hp⟩
    have h2 := h.own.cells (g := b) rfl j (Vs.getD j undef) (by rw [List.getD_eq_getElem?_getD, List.getElem?_eq_getElem (by omega)]; rfl)
    rw [add_row] at h2
    exact h2
end Go.Proofs.Ytgcjangnlbhicaa.St
