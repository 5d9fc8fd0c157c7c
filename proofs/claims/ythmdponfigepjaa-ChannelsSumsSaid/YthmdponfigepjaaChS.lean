/- The law's bundles: two bundles that fit, and a band (shapesearchlaw16.bundles). -/
import Derived.Test.YthmdponfigepjaaChUn
import Derived.Test.YthmdponfigepjaaChB
namespace Go.Proofs.Ythmdponfigepjaa.Ch
open Go.ChangeShapes Go.WideShapes Go.RowKit Wo Sr Wi
set_option linter.unusedVariables false
/-- a channel: its block, its room, its numbers -/
structure Cn where
  b : Nat
  c : Nat
  l : List Int
def Cn.v (n : Nat) (u : Cn) : Value := .slice (some ⟨u.b, 0, none⟩) n u.c
def Cn.ok (V : World) (B n : Nat) (u : Cn) : Prop := V.ownsRow B 3 1 (u.v n) n (zs u.l) ∧ u.l.length = n ∧ Sam u.l
theorem own_low {w : World} {base base' size n : Nat} {e : TypeId} {v : Value} {xs : List Value} (h : w.ownsRow base e size v n xs) (hb : base' ≤ base) : w.ownsRow base' e size v n xs := by
  refine ⟨h.1, ?_⟩
  rcases h.2 with hn | ⟨q', cap, cur, rfl, hbb, rest⟩
  · exact .inl hn
  · exact .inr ⟨q', cap, cur, rfl, by omega, rest⟩
/-- a row of numbers lies in no block of slices -/
theorem typ_ne {V : World} {B B' n t : Nat} {v p : Value} {xs ys : List Value} (h : V.ownsRow B 3 1 v n xs) (k : V.ownsRow B' 22 1 p t ys) : ∀ b, v.ownBlock = some b → p.ownBlock ≠ some b := by
  intro b e e2
  rcases h.2 with ⟨rfl, _⟩ | ⟨g, cap, cur, rfl, hb, hg, _⟩
  · cases e
  · rcases k.2 with ⟨rfl, _⟩ | ⟨g', cap', cur', rfl, hb', hg', _⟩
    · cases e2
    · cases e
      cases e2
      rw [hg] at hg'
      cases hg'
theorem kept_of {w w' : World} {base n : Nat} {e : TypeId} {v : Value} {xs : List Value} {row : Option Nat} (h : w.ownsRow base e 1 v n xs) (hg : w.grownBy w' row) (hne : ∀ b, v.ownBlock = some b → row ≠ some b) : w'.ownsRow base e 1 v n xs :=
  h.kept hg (by
    rcases hob : v.ownBlock with _ | q
    · exact .inl rfl
    · exact .inr (fun e => hne q hob e.symm))
/-- two rows of channels that the call has made, the second of other lengths -/
structure Bu (w V : World) (g n m t s : Nat) (p q : Value) (P Q : List Cn) : Prop where
  o : Ok V g
  c : Ch g w V
  gw : g < w.heap.size
  po : V.ownsRow w.heap.size 22 1 p t (P.map (Cn.v n))
  qo : V.ownsRow w.heap.size 22 1 q s (Q.map (Cn.v m))
  pl : P.length = t
  ql : Q.length = s
  d : ∀ b, p.ownBlock = some b → q.ownBlock ≠ some b
  pk : ∀ u ∈ P, u.ok V w.heap.size n
  qk : ∀ u ∈ Q, u.ok V w.heap.size m
theorem Cn.ok.ch {V V' : World} {B n g : Nat} {u : Cn} (h : u.ok V B n) (hc : Ch g V V') (hg : g < B) : u.ok V' B n := ⟨own_ch h.1 hc hg, h.2⟩
theorem Cn.ok.bel {V V' : World} {B n : Nat} {u : Cn} (h : u.ok V B n) (hb : Bel V V') : u.ok V' B n := ⟨own_bel h.1 hb, h.2⟩
theorem Cn.ok.zi {V : World} {B n : Nat} {u : Cn} (h : u.ok V B n) : Zi V (some ⟨u.b, 0, none⟩) n u.l := own_zi h.1 h.2.1
theorem Cn.ok.base {V : World} {B n : Nat} {u : Cn} (h : u.ok V B n) : B ≤ u.b ∧ u.b < V.heap.size := h.1.lt u.b rfl
theorem Bu.ch {w V V' : World} {g n m t s : Nat} {p q : Value} {P Q : List Cn} (h : Bu w V g n m t s p q P Q) (ho : Ok V' g) (hc : Ch g V V') : Bu w V' g n m t s p q P Q :=
  ⟨ho, h.c.tr hc, h.gw, own_ch h.po hc h.gw, own_ch h.qo hc h.gw, h.pl, h.ql, h.d, fun u hu => (h.pk u hu).ch hc h.gw, fun u hu => (h.qk u hu).ch hc h.gw⟩
theorem Bu.bel {w V V' : World} {g n m t s : Nat} {p q : Value} {P Q : List Cn} (h : Bu w V g n m t s p q P Q) (hb : Bel V V') : Bu w V' g n m t s p q P Q := h.ch (h.o.bel hb) (Ch.of_bel hb)
theorem Bu.sx {w V : World} {g n m t s : Nat} {p q : Value} {P Q : List Cn} (h : Bu w V g n m t s p q P Q) : Bu w V g m n s t q p Q P :=
  ⟨h.o, h.c, h.gw, h.qo, h.po, h.ql, h.pl, fun b e e2 => h.d b e2 e, h.qk, h.pk⟩
theorem Bu.kp {w V V' : World} {g n m t s k : Nat} {p q : Value} {P Q : List Cn} {u : Cn} (h : Bu w V g n m t s p q P Q) (hu : u.ok V w.heap.size k) (hg : V.grownBy V' p.ownBlock) : u.ok V' w.heap.size k :=
  ⟨kept_of hu.1 hg (typ_ne hu.1 h.po), hu.2⟩
theorem Bu.ap {w V V' : World} {g n m t s : Nat} {p p' q : Value} {P Q : List Cn} {u : Cn} (h : Bu w V g n m t s p q P Q) (hu : u.ok V w.heap.size n)
    (ho : V'.ownsRow w.heap.size 22 1 p' (t + 1) (P.map (Cn.v n) ++ [u.v n])) (hg : V.grownBy V' p.ownBlock) (hat : p'.ownBlock = p.ownBlock ∨ p'.ownBlock = some V.heap.size) : Bu w V' g n m (t + 1) s p' q (P ++ [u]) Q := by
  have hge : ∀ b, p.ownBlock = some b → w.heap.size ≤ b := own_base h.po
  refine ⟨ok_grown h.o hg (fun b e => by have := hge b e; have := h.gw; omega), ch_grown h.c hg hge, h.gw, ?_, kept_of h.qo hg (fun b e e2 => h.d b e2 e), by simp [h.pl], h.ql, fun b e e2 => ?_, fun x hx => ?_, fun x hx => h.kp (h.qk x hx) hg⟩
  · rw [List.map_append]; exact ho
  · rcases hat with hat | hat
    · exact h.d b (hat ▸ e) e2
    · rw [hat] at e
      cases e
      have := (h.qo.lt _ e2).2
      omega
  · rcases List.mem_append.1 hx with hx | hx
    · exact h.kp (h.pk x hx) hg
    · obtain rfl : x = u := by simpa using hx
      exact h.kp hu hg
theorem list_appd (w : World) {ops : Array Oper} {rest : List Oper} {o : Oper} {a : Act} {Q : Exit → Act → World → Prop} (hgd : o.guard = none) (s x : Operand)
    (ho : o.op = .call { callee := .builtin .append, args := #[s, x], argTypes := #[39, 39] })
    (base : Nat) (v : Value) (n : Nat) (L : List Value) (hs : a.eval s = v) (hown : w.ownsRow base 22 1 v n L) (ad : Addr) (m c : Nat) (M : List Value) (hx : a.eval x = .slice (some ad) m c) (hz : Vc w (some ad) m M) (hn : n + m ≤ 1000000) (hbase : base ≤ w.heap.size)
    (h : ∀ v' w', w'.ownsRow base 22 1 v' (n + m) (L ++ M) → w.grownBy w' v.ownBlock → (v'.ownBlock = v.ownBlock ∨ v'.ownBlock = some w.heap.size) → wpList Try.prog ops Q rest (a.put o.dst v') w') : wpList Try.prog ops Q (o :: rest) a w := by
  obtain ⟨v', w', hr, h2, h3, h5⟩ := run_appc w o.type base v n L hown ad m c M hz hn hbase
  exact Lib.wpList_append_run w hgd s x _ _ ho _ _ hs hx v' w' hr (h v' w' h2 h3 h5)
/-- one slice that has been built -/
theorem vc_one {w : World} (v : Value) (hv : v.oneCell' = true) : Vc (w.alloc (.cells #[v] 22)) (some ⟨w.heap.size, 0, none⟩) 1 [v] :=
  ⟨rfl, fun u hu => by obtain rfl : u = v := by simpa using hu
                       exact hv, fun _ => ⟨_, rfl, by simp, fun j hj => by
    obtain rfl : j = 0 := by omega
    rw [add_row]
    exact (Bk.nw w 22 #[v]).cell 0⟩⟩
theorem own_one {w : World} {B : Nat} (hB : B ≤ w.heap.size) (v : Value) : (w.alloc (.cells #[v] 22)).ownsRow B 22 1 (.slice (some ⟨w.heap.size, 0, none⟩) 1 1) 1 [v] := by
  exact ⟨rfl, .inr ⟨w.heap.size, 1, #[v], rfl, hB, Bk.nw w 22 #[v], by omega, by unfold maxLen; omega, rfl, rfl⟩⟩
def SomeB (g : Nat) (w : World) (e : Ending) (w' : World) : Prop := ∃ (g1 g2 c1 c2 q n m : Nat) (As Bs : Nat → Option Addr) (cs ds : Nat → Nat) (Ls Ms : Nat → List Int) (k : Int),
  e = .returned (.tuple #[.slice (some ⟨g1, 0, none⟩) q c1, .slice (some ⟨g2, 0, none⟩) q c2, .int .i64 k]) ∧ 1 ≤ q ∧ q ≤ 4 ∧ q ≤ c1 ∧ q ≤ c2 ∧ 2 ≤ n ∧ n ≤ 32 ∧ 2 ≤ m ∧ m ≤ 32 ∧ 0 ≤ k ∧ k ≤ 32 ∧ (n : Int) - (m : Int) ≤ k ∧ (m : Int) - (n : Int) ≤ k ∧
  Bun w' g1 q n As cs Ls ∧ Bun w' g2 q m Bs ds Ms ∧ (∀ j, (Ls j).length = n ∧ Sam (Ls j) ∨ q ≤ j) ∧ (∀ j, (Ms j).length = m ∧ Sam (Ms j) ∨ q ≤ j) ∧ Ch g w w' ∧ (∃ x, As 0 = some ⟨x, 0, none⟩) ∧ (∃ y, Bs 0 = some ⟨y, 0, none⟩)
theorem bun_of {w V : World} {g n m t s : Nat} {p q : Value} {P Q : List Cn} (h : Bu w V g n m t s p q P Q) (ht : 1 ≤ t) : ∃ g1 c1, p = .slice (some ⟨g1, 0, none⟩) t c1 ∧ t ≤ c1 ∧ Bun V g1 t n (fun j => some ⟨(P.getD j ⟨0, 0, []⟩).b, 0, none⟩) (fun j => (P.getD j ⟨0, 0, []⟩).c) (fun j => (P.getD j ⟨0, 0, []⟩).l) := by
  obtain ⟨g1, cap, hv, hb, hlt⟩ := h.po.form ht
  have hpo := h.po
  rw [hv] at hpo
  refine ⟨g1, cap, hv, own_cap hpo, hlt, fun j hj => ?_⟩
  have hj' : j < P.length := by rw [h.pl]; exact hj
  have hg : P.getD j ⟨0, 0, []⟩ = P[j] := by rw [List.getD_eq_getElem?_getD, List.getElem?_eq_getElem hj']; rfl
  have hm : P[j] ∈ P := List.getElem_mem hj'
  have hk := h.pk _ hm
  simp only [hg]
  refine ⟨?_, hk.zi, hk.2.2⟩
  have := hpo.cells (g := g1) rfl j (P[j].v n) (by rw [List.getElem?_map, List.getElem?_eq_getElem hj']; rfl)
  rw [add_row] at this
  exact this
end Go.Proofs.Ythmdponfigepjaa.Ch
