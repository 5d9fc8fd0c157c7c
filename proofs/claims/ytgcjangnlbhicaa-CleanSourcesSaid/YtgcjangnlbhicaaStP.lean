/- Rows of parts of readings; clean.groups. -/
import Derived.Test.YtgcjangnlbhicaaStN
import Derived.Test.YtgcjangnlbhicaaStA
import Derived.Test.YtgcjangnlbhicaaStG
namespace Go.Proofs.Ytgcjangnlbhicaa.St
open Go.ChangeShapes Go.WideShapes Go.RowKit Wo Sr Wi Rm Rg
set_option linter.unusedVariables false
theorem info_part : (Try.prog.info? 23).map (fun i => (i.zero, i.size, i.bytes)) = some (some (.slice none 0 0), 1, 24) := by kernel_rfl
/-- the parts, as values -/
def pv (g : Nat) (p : Nat × Nat) : Value := .slice (some ⟨g, p.1 * 2, none⟩) (p.2 - p.1) (p.2 - p.1)
theorem list_appp (w : World) {ops : Array Oper} {rest : List Oper} {o : Oper} {a : Act} {Q : Exit → Act → World → Prop} (hgd : o.guard = none) (s x : Operand)
    (ho : o.op = .call { callee := .builtin .append, args := #[s, x], argTypes := #[38, 38] })
    (base : Nat) (v : Value) (n : Nat) (L : List Value) (hs : a.eval s = v) (hown : w.ownsRow base 23 1 v n L) (q c : Nat) (u : Value) (hx : a.eval x = .slice (some ⟨q, 0, none⟩) 1 c)
    (hu : u.oneCell' = true) (hM : Bk w q 23 #[u]) (hn : n ≤ 100000) (hbase : base ≤ w.heap.size)
    (h : ∀ v' w', w'.ownsRow base 23 1 v' (n + 1) (L ++ [u]) → w.grownBy w' v.ownBlock → wpList Try.prog ops Q rest (a.put o.dst v') w') : wpList Try.prog ops Q (o :: rest) a w := by
  obtain ⟨i0, hi0, hz0, hz1, hz2⟩ := info_parts info_part
  obtain ⟨v', w', hr, h2, h3, _, h5⟩ := run_append_own_at (P := Try.prog) w base 38 o.type 23 i0 (.slice none 0 0) 1 24 Try.underlying38 hi0 hz0 hz1 hz2 (by rfl) (by omega) v n L hown ⟨q, 0, none⟩ 1 c [u] rfl (fun j y hj => by
    rcases j with _ | j
    · simp at hj; subst hj; rw [add_row, hM.cell]; rfl
    · simp at hj) (fun y hy => by simp at hy; subst hy; exact hu) (by unfold maxLen; omega) (by omega) hbase
  refine wpList_plain hgd fun _ hK => ?_
  unfold Oper.wp execOp
  simp only [ho, resolve, invoke, builtin, Sem.run_bind, Sem.run_pure, Result.andThen_ok, List.map_toArray, List.map_cons, List.map_nil, hs, hx, hr]
  exact hK _ _ (h v' w' h2 h3)
/-- a row of parts of readings -/
def Zg (w : World) (A : Option Addr) (k : Nat) (G : List (List Rp)) : Prop := G.length = k ∧ (0 < k → ∃ h : Nat, A = some ⟨h, 0, none⟩ ∧ h < w.heap.size ∧ ∀ i, i < k → ∃ (ad : Addr) (m : Nat), w.cell? ⟨h, i, none⟩ = some (.slice (some ad) m m) ∧ 0 < m ∧ Zo w (some ad) m (G.getD i []))
theorem Zg.bel {w w' : World} {A : Option Addr} {k : Nat} {G : List (List Rp)} (h : Zg w A k G) (hb : Bel w w') : Zg w' A k G :=
  ⟨h.1, fun hn => by
    obtain ⟨g, e, hx, hc⟩ := h.2 hn
    refine ⟨g, e, by have := hb.size; omega, fun i hi => ?_⟩
    obtain ⟨ad, m, h1, h2, h3⟩ := hc i hi
    exact ⟨ad, m, hb.kp h1, h2, Zo.bel h3 hb⟩⟩
def SomeGr (l : List Rp) (w : World) (e : Ending) (w' : World) : Prop := ∃ A c k, e = .returned (.slice A k c) ∧ Zg w' A k (grs l) ∧ Bel w w'
theorem rw_piece {w : World} {g n : Nat} {s : List Rp} (h : Rw w g n s) {p : Nat × Nat} (h1 : p.1 < p.2) (h2 : p.2 ≤ s.length) : Zo w (some ⟨g, p.1 * 2, none⟩) (p.2 - p.1) (piece s p) :=
  ⟨piece_len h2 (by omega), fun _ => ⟨g, p.1 * 2, rfl, h.2.1, fun j hj => by
    obtain ⟨a, b, _⟩ := h.2.2 (p.1 + j) (by have := h.1; omega)
    have e := piece_rd (s := s) (f := p.1) (t := p.2) j hj h2
    rw [tm_rd, vl_rd, e, ← tm_rd, ← vl_rd]
    have e2 : (p.1 + j) * 2 = p.1 * 2 + j * 2 := Nat.add_mul _ _ _
    rw [e2] at a b
    exact ⟨a, b⟩⟩⟩
theorem own_zg {w : World} {base g n : Nat} {v : Value} {s l : List Rp} {B : List (Nat × Nat)} (hr : Rw w g n s) (hs : Srt s 0 n) (he : Eqv l s) (hB : Bs s B n) (h : w.ownsRow base 23 1 v B.length (B.map (pv g))) :
    ∃ A c, v = .slice A B.length c ∧ Zg w A B.length (grs l) := by
  have hn : s.length = n := hr.1
  have e := bs_done hn he hs hB
  rcases h.2 with ⟨rfl, h0⟩ | ⟨q, cap, cur, rfl, hb, hg, h1, _⟩
  · exact ⟨none, 0, by rw [h0], by rw [← e, List.length_map], fun k => by omega⟩
  · refine ⟨_, cap, rfl, by rw [← e, List.length_map], fun k => ⟨q, rfl, (h.lt q rfl).2, fun i hi => ?_⟩⟩
    have hx := h.cells (g := q) rfl i (pv g B[i]) (by rw [List.getElem?_map, List.getElem?_eq_getElem hi]; rfl)
    rw [add_row] at hx
    obtain ⟨k1, k2⟩ := bs_in hB B[i] (List.getElem_mem hi)
    refine ⟨_, _, hx, by omega, ?_⟩
    have : (grs l).getD i [] = piece s B[i] := by rw [← e, List.getD_eq_getElem?_getD, List.getElem?_map, List.getElem?_eq_getElem hi]; rfl
    rw [this]
    exact rw_piece hr k1 k2
end Go.Proofs.Ytgcjangnlbhicaa.St
