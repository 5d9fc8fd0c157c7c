/- append of a list of numbers, maybe an empty one, onto a row of the call's own; the order of two ratios by the reference; the order of gaps. -/
import Derived.Test.YtgdhgeongdenpaaNear
import Derived.Test.YtgdhgeongdenpaaNorMath
import Derived.Test.YtgdhgeongdenpaaRef01
import Derived.Deep.RegionLaw
namespace Go.Proofs.Ytgdhgeongdenpaa.Nr
open Go.ChangeShapes Go.WideShapes Go.RowKit Wo Sr Wi Ra
set_option linter.unusedVariables false
theorem bel_grown {w a b : World} {row : Option Nat} (h : Bel w a) (hg : a.grownBy b row) (hr : ∀ q, row = some q → w.heap.size ≤ q) : Bel w b := Below.grown h hg h.size hr
theorem own_base {w : World} {base size n : Nat} {e : TypeId} {v : Value} {xs : List Value} (h : w.ownsRow base e size v n xs) : ∀ q, v.ownBlock = some q → base ≤ q := fun q e => (h.lt q e).1
theorem zs_one (M : List Int) : ∀ u ∈ zs M, u.oneCell' = true := by
  intro u hu
  obtain ⟨x, _, rfl⟩ := List.mem_map.1 hu
  rfl
theorem zi_news {w : World} {ad : Addr} {m : Nat} {M : List Int} (hz : Zi w (some ad) m M) : ∀ j u, (zs M)[j]? = some u → w.cell? (ad.add j) = some u := by
  intro j u hu
  have hj : j < M.length := by
    rcases Nat.lt_or_ge j M.length with h | h
    · exact h
    · rw [List.getElem?_eq_none (by rw [zs_len]; exact h)] at hu; cases hu
  obtain ⟨ad', e, _, hcc⟩ := hz.2 (by have := hz.1; omega)
  cases e
  rw [zs_at hj] at hu
  cases hu
  exact hcc j (by have := hz.1; omega)
theorem run_app (w : World) (ty : TypeId) (base : Nat) (v : Value) (n : Nat) (L : List Int) (hown : w.ownsRow base 3 1 v n (zs L)) (ad : Addr) (m c : Nat) (M : List Int) (hz : Zi w (some ad) m M) (hn : n + m ≤ 1000000) (hbase : base ≤ w.heap.size) :
    ∃ v' w', (Builtin.append_ #[22, 22] ty #[v, .slice (some ad) m c]).run Try.prog w = .ok v' w' ∧ w'.ownsRow base 3 1 v' (n + m) (zs (L ++ M)) ∧ w.grownBy w' v.ownBlock ∧ (v'.ownBlock = v.ownBlock ∨ v'.ownBlock = some w.heap.size) := by
  obtain ⟨i0, hi0, hz0, hz1, hz2⟩ := info_parts info_int
  obtain ⟨v', w', hr, h2, h3, _, h5⟩ := run_append_own_at (P := Try.prog) w base 22 ty 3 i0 (.int .i64 0) 1 8 Try.underlying22 hi0 hz0 hz1 hz2 (by rfl) (by omega) v n (zs L) hown ad m c (zs M) (by rw [zs_len, hz.1]; omega) (zi_news hz) (zs_one M) (by unfold maxLen; omega) (by omega) hbase
  exact ⟨v', w', hr, by rw [zs_app]; exact h2, h3, h5⟩
theorem wp_app (w : World) {o : Oper} {a : Act} {K : Act → World → Prop} {Q : Exit → Act → World → Prop} (s x : Operand)
    (ho : o.op = .call { callee := .builtin .append, args := #[s, x], argTypes := #[22, 22] })
    (base : Nat) (v : Value) (n : Nat) (L : List Int) (hs : a.eval s = v) (hown : w.ownsRow base 3 1 v n (zs L)) (ad : Addr) (m c : Nat) (M : List Int) (hx : a.eval x = .slice (some ad) m c) (hz : Zi w (some ad) m M) (hn : n + m ≤ 1000000) (hbase : base ≤ w.heap.size)
    (h : ∀ v' w', w'.ownsRow base 3 1 v' (n + m) (zs (L ++ M)) → w.grownBy w' v.ownBlock → (v'.ownBlock = v.ownBlock ∨ v'.ownBlock = some w.heap.size) → K (a.put o.dst v') w') : o.wp Try.prog a w K Q := by
  obtain ⟨v', w', hr, h2, h3, h5⟩ := run_app w o.type base v n L hown ad m c M hz hn hbase
  unfold Oper.wp execOp
  simp only [ho, resolve, invoke, builtin, Sem.run_bind, Sem.run_pure, Result.andThen_ok, List.map_toArray, List.map_cons, List.map_nil, hs, hx, hr]
  exact h v' w' h2 h3 h5
/-- at a step of a region that draws its order -/
theorem step_app (w : World) {ops : Array Oper} {o : Oper} {a : Act} {K : Act → World → Prop} {Q : Exit → Act → World → Prop} {E : Prop} (hgd : o.guard = none) (s x : Operand)
    (ho : o.op = .call { callee := .builtin .append, args := #[s, x], argTypes := #[22, 22] })
    (base : Nat) (v : Value) (n : Nat) (L : List Int) (hs : a.eval s = v) (hown : w.ownsRow base 3 1 v n (zs L)) (ad : Addr) (m c : Nat) (M : List Int) (hx : a.eval x = .slice (some ad) m c) (hz : Zi w (some ad) m M) (hn : n + m ≤ 1000000) (hbase : base ≤ w.heap.size)
    (h : ∀ v' w', w'.ownsRow base 3 1 v' (n + m) (zs (L ++ M)) → w.grownBy w' v.ownBlock → (v'.ownBlock = v.ownBlock ∨ v'.ownBlock = some w.heap.size) → K (a.put o.dst v') w') :
    if Region.wanted o (yielded ops a.tmps) = true then Oper.wp Try.prog o a w K Q else E := by
  have hw : Region.wanted o (yielded ops a.tmps) = true := by simp [Region.wanted, hgd]
  rw [if_pos hw]
  exact wp_app w s x ho base v n L hs hown ad m c M hx hz hn hbase h
/-- at the list of a plain region -/
theorem list_app (w : World) {ops : Array Oper} {rest : List Oper} {o : Oper} {a : Act} {Q : Exit → Act → World → Prop} (hgd : o.guard = none) (s x : Operand)
    (ho : o.op = .call { callee := .builtin .append, args := #[s, x], argTypes := #[22, 22] })
    (base : Nat) (v : Value) (n : Nat) (L : List Int) (hs : a.eval s = v) (hown : w.ownsRow base 3 1 v n (zs L)) (ad : Addr) (m c : Nat) (M : List Int) (hx : a.eval x = .slice (some ad) m c) (hz : Zi w (some ad) m M) (hn : n + m ≤ 1000000) (hbase : base ≤ w.heap.size)
    (h : ∀ v' w', w'.ownsRow base 3 1 v' (n + m) (zs (L ++ M)) → w.grownBy w' v.ownBlock → (v'.ownBlock = v.ownBlock ∨ v'.ownBlock = some w.heap.size) → wpList Try.prog ops Q rest (a.put o.dst v') w') : wpList Try.prog ops Q (o :: rest) a w :=
  wpList_plain hgd fun _ hK => wp_app w s x ho base v n L hs hown ad m c M hx hz hn hbase fun v' w' h2 h3 h5 => hK _ _ (h v' w' h2 h3 h5)
/-- two rows of the call's own, apart from each other; below B nothing has changed -/
def Tw (B : Nat) (w0 W : World) (v : Value) (n : Nat) (L : List Int) (u : Value) (m : Nat) (M : List Int) : Prop :=
  W.ownsRow B 3 1 v n (zs L) ∧ W.ownsRow B 3 1 u m (zs M) ∧ (∀ b, v.ownBlock = some b → u.ownBlock ≠ some b) ∧ Below B w0 W ∧ B ≤ W.heap.size
theorem Tw.bel {B n m : Nat} {w0 W W' : World} {v u : Value} {L M : List Int} (h : Tw B w0 W v n L u m M) (hb : Bel W W') : Tw B w0 W' v n L u m M :=
  ⟨own_bel h.1 hb, own_bel h.2.1 hb, h.2.2.1, Below.trans h.2.2.2.1 (Below.mono hb h.2.2.2.2), by have := hb.size; have := h.2.2.2.2; omega⟩
theorem own_kept {w w' : World} {base n : Nat} {v : Value} {L : List Int} {row : Option Nat} (h : w.ownsRow base 3 1 v n (zs L)) (hg : w.grownBy w' row) (hne : ∀ b, v.ownBlock = some b → row ≠ some b) : w'.ownsRow base 3 1 v n (zs L) :=
  h.kept hg (by
    rcases hob : v.ownBlock with _ | q
    · exact .inl rfl
    · exact .inr (fun e => hne q hob e.symm))
theorem Tw.app1 {B n m n' : Nat} {w0 W W' : World} {v u v' : Value} {L M L' : List Int} (h : Tw B w0 W v n L u m M) (ho : W'.ownsRow B 3 1 v' n' (zs L')) (hg : W.grownBy W' v.ownBlock) (hat : v'.ownBlock = v.ownBlock ∨ v'.ownBlock = some W.heap.size) : Tw B w0 W' v' n' L' u m M := by
  obtain ⟨h1, h2, h3, h4, h5⟩ := h
  refine ⟨ho, own_kept h2 hg (fun b e e2 => h3 b e2 e), fun b e e2 => ?_, Below.grown h4 hg h5 (own_base h1), by have := hg.size; omega⟩
  rcases hat with hat | hat
  · exact h3 b (hat ▸ e) e2
  · rw [hat] at e
    cases e
    have := (h2.lt _ e2).2
    omega
theorem Tw.app2 {B n m m' : Nat} {w0 W W' : World} {v u u' : Value} {L M M' : List Int} (h : Tw B w0 W v n L u m M) (ho : W'.ownsRow B 3 1 u' m' (zs M')) (hg : W.grownBy W' u.ownBlock) (hat : u'.ownBlock = u.ownBlock ∨ u'.ownBlock = some W.heap.size) : Tw B w0 W' v n L u' m' M' := by
  obtain ⟨h1, h2, h3, h4, h5⟩ := h
  refine ⟨own_kept h1 hg (fun b e e2 => h3 b e e2), ho, fun b e e2 => ?_, Below.grown h4 hg h5 (own_base h2), by have := hg.size; omega⟩
  rcases hat with hat | hat
  · exact h3 b e (hat ▸ e2)
  · rw [hat] at e2
    cases e2
    have := (h1.lt _ e).2
    omega
theorem Tw.o1 {B n m : Nat} {w0 W : World} {v u : Value} {L M : List Int} (h : Tw B w0 W v n L u m M) : W.ownsRow B 3 1 v n (zs L) := h.1
theorem Tw.o2 {B n m : Nat} {w0 W : World} {v u : Value} {L M : List Int} (h : Tw B w0 W v n L u m M) : W.ownsRow B 3 1 u m (zs M) := h.2.1
theorem Tw.base {B n m : Nat} {w0 W : World} {v u : Value} {L M : List Int} (h : Tw B w0 W v n L u m M) : B ≤ W.heap.size := h.2.2.2.2
theorem Tw.low {B n m : Nat} {w0 W : World} {v u : Value} {L M : List Int} (h : Tw B w0 W v n L u m M) : Below B w0 W := h.2.2.2.1
theorem Tw.nil {B : Nat} {w0 W : World} (hb : Below B w0 W) (hB : B ≤ W.heap.size) : Tw B w0 W (.slice none 0 0) 0 [] (.slice none 0 0) 0 [] :=
  ⟨World.ownsRow_nil _ _ _ _, World.ownsRow_nil _ _ _ _, fun b (e : none = some b) => (by cases e), hb, hB⟩
/-- a block made in the round stays as it is when a row of before is appended to -/
theorem bk_grown {W W' : World} {g N : Nat} {t : TypeId} {cs : Array Value} {row : Option Nat} (h : Bk W g t cs) (hg : W.grownBy W' row) (hr : ∀ b, row = some b → b < N) (hN : N ≤ g) : Bk W' g t cs :=
  (hg.block g h.lt (fun e => by have := hr g e.symm; omega)).trans h
theorem rev_at (L : List Int) (t : Nat) (h : t < L.length) : L.reverse.getD t 0 = L.getD (L.length - 1 - t) 0 := by
  rw [List.getD_eq_getElem?_getD, List.getD_eq_getElem?_getD, List.getElem?_reverse h]
/-- a gap is 1 only where the product is 0, and less where it is greater -/
theorem gap_one {v w c : Int} (v0 : 0 ≤ v) (w0 : 0 ≤ w) (v1 : v ≤ 1024000000) (w1 : w ≤ 1024000000) (h : c * c ≤ v * w) :
    ((rN v w c = 1 ∧ rD v w c = 1) ↔ (c = 0 ∧ (v ≠ 0 ∨ w ≠ 0))) ∧ (rN v w c < rD v w c ↔ (0 < c ∨ (v = 0 ∧ w = 0))) ∧ rN v w c ≤ 2 * rD v w c := by
  obtain ⟨a1, a2, a3, a4, a5, a6⟩ := red_in v0 w0 v1 w1 h
  have g := gap_in v0 w0 v1 w1 h
  have hD : 0 < gD v w := by omega
  have hzero : v = 0 ∨ w = 0 → c = 0 := fun h0 => by
    have : v * w = 0 := by rcases h0 with rfl | rfl <;> simp
    have h2 := sq_nn c
    have : c * c = 0 := by omega
    rcases Int.mul_eq_zero.1 this with h | h <;> exact h
  have hle : ∀ k : Int, rN v w c < k * rD v w c ↔ gN v w c < k * gD v w := fun k => by
    constructor
    · intro hh
      have h2 := Int.mul_lt_mul_of_pos_right hh hD
      rw [a2, show k * rD v w c * gD v w = k * gD v w * rD v w c by grind] at h2
      exact Int.lt_of_mul_lt_mul_right h2 (by omega)
    · intro hh
      have h2 := Int.mul_lt_mul_of_pos_right hh (show 0 < rD v w c by omega)
      rw [← a2, show k * gD v w * rD v w c = k * rD v w c * gD v w by grind] at h2
      exact Int.lt_of_mul_lt_mul_right h2 (by omega)
  have heq : (rN v w c = 1 ∧ rD v w c = 1) ↔ gN v w c = gD v w := by
    constructor
    · rintro ⟨h1, h2⟩
      rw [h1, h2] at a2
      omega
    · intro he
      exact red_cross v0 w0 v1 w1 h one_rv.2.1 (by omega)
  have key : gN v w c - gD v w = 0 ↔ (c = 0 ∧ (v ≠ 0 ∨ w ≠ 0)) := by
    unfold gN gD
    rcases Classical.em (v = 0) with hv | hv
    · rw [if_pos hv, if_pos hv]
      have := hzero (.inl hv)
      rcases Classical.em (w = 0) with hw | hw
      · rw [if_pos hw]; omega
      · rw [if_neg hw]; omega
    · rw [if_neg hv, if_neg hv]
      rcases Classical.em (w = 0) with hw | hw
      · rw [if_pos hw, if_pos hw]
        have := hzero (.inr hw)
        omega
      · rw [if_neg hw, if_neg hw]
        have := sg_zero c
        omega
  have key2 : gN v w c < gD v w ↔ (0 < c ∨ (v = 0 ∧ w = 0)) := by
    unfold gN gD
    rcases Classical.em (v = 0) with hv | hv
    · rw [if_pos hv, if_pos hv]
      have := hzero (.inl hv)
      rcases Classical.em (w = 0) with hw | hw
      · rw [if_pos hw]; omega
      · rw [if_neg hw]; omega
    · rw [if_neg hv, if_neg hv]
      rcases Classical.em (w = 0) with hw | hw
      · rw [if_pos hw, if_pos hw]
        have := hzero (.inr hw)
        omega
      · rw [if_neg hw, if_neg hw]
        have := sg_pos c
        omega
  refine ⟨heq.trans ⟨fun e => key.1 (by omega), fun e => by have := key.2 e; omega⟩, ?_, ?_⟩
  · have := hle 1
    rw [Int.one_mul, Int.one_mul] at this
    exact this.trans key2
  · rcases Int.lt_or_le (2 * rD v w c) (rN v w c) with hh | hh
    · exfalso
      have h2 := Int.mul_lt_mul_of_pos_right hh hD
      rw [a2, show 2 * rD v w c * gD v w = 2 * gD v w * rD v w c by grind] at h2
      have h3 := Int.lt_of_mul_lt_mul_right h2 (show 0 ≤ rD v w c by omega)
      omega
    · exact hh
/-- the gap to a copy that is scaled -/
theorem gap_self {v f : Int} (v0 : 0 ≤ v) (f0 : 1 ≤ f) (v1 : v ≤ 1024000000) (w1 : f * f * v ≤ 1024000000) :
    (rN v (f * f * v) (f * v) = 0 ∧ rD v (f * f * v) (f * v) = 1) ∧ (rN v (f * f * v) (-f * v) = (if v = 0 then 0 else 2) ∧ rD v (f * f * v) (-f * v) = 1) := by
  have hff : 0 < f * f := Int.mul_pos (by omega) (by omega)
  have w0 : 0 ≤ f * f * v := Int.mul_nonneg (by omega) v0
  have cs : f * v * (f * v) ≤ v * (f * f * v) := by
    have : f * v * (f * v) = v * (f * f * v) := by grind
    omega
  have cs2 : -f * v * (-f * v) ≤ v * (f * f * v) := by
    have : -f * v * (-f * v) = v * (f * f * v) := by grind
    omega
  rcases Classical.em (v = 0) with hv | hv
  · subst hv
    rw [if_pos rfl]
    refine ⟨red_cross (by decide) w0 (by decide) w1 cs one_rv.1 ?_, red_cross (by decide) w0 (by decide) w1 cs2 one_rv.1 ?_⟩
    · unfold gN; simp
    · unfold gN; simp
  · have hw : f * f * v ≠ 0 := by have := Int.mul_pos hff (show 0 < v by omega); omega
    have hpos : 0 < f * v := Int.mul_pos (by omega) (by omega)
    have hneg : -f * v < 0 := by have : -f * v = -(f * v) := by grind
                                 omega
    rw [if_neg hv]
    refine ⟨red_cross v0 w0 v1 w1 cs one_rv.1 ?_, red_cross v0 w0 v1 w1 cs2 one_rv.2.2 ?_⟩
    · unfold gN sg
      rw [if_neg hv, if_neg hw, if_neg (by omega)]
      grind
    · unfold gN gD sg
      rw [if_neg hv, if_neg hv, if_neg hw, if_neg hw, if_pos hneg]
      grind
/-- t samples have been divided by 5 -/
def q5 (a : Int) : Int := a.tdiv 5
theorem q5_in {a : Int} (h0 : -1000 ≤ a) (h1 : a ≤ 1000) : -200 ≤ q5 a ∧ q5 a ≤ 200 := by
  unfold q5
  rcases Int.lt_or_le a 0 with h | h
  · have e : a.tdiv 5 = -((-a).tdiv 5) := by rw [Int.neg_tdiv, Int.neg_neg]
    rw [e, Int.tdiv_eq_ediv_of_nonneg (by omega)]
    omega
  · rw [Int.tdiv_eq_ediv_of_nonneg (by omega)]
    omega
def mix (f : Int → Int) (L : List Int) (t : Nat) : List Int := (L.map f).take t ++ L.drop t
theorem mix_len (f : Int → Int) (L : List Int) (t : Nat) : (mix f L t).length = L.length := by simp [mix]; omega
theorem mix_at (f : Int → Int) (L : List Int) (t : Nat) (h : t < L.length) : (mix f L t).getD t 0 = L.getD t 0 := by
  simp only [mix, List.getD_eq_getElem?_getD]
  rw [List.getElem?_append_right (by simp; omega)]
  simp [List.length_take, Nat.min_eq_left (Nat.le_of_lt h)]
theorem mix_set (f : Int → Int) (L : List Int) (t : Nat) (h : t < L.length) : (mix f L t).set t (f (L.getD t 0)) = mix f L (t + 1) := by
  unfold mix
  have e : L.drop t = L.getD t 0 :: L.drop (t + 1) := by
    rw [List.drop_eq_getElem_cons h, List.getD_eq_getElem?_getD, List.getElem?_eq_getElem h]; rfl
  rw [e, List.set_append_right _ _ (by simp; omega)]
  have e2 : t - ((L.map f).take t).length = 0 := by simp; omega
  rw [e2, List.set_cons_zero, take_snoc (L.map f) t (by simpa using h), List.append_assoc]
  congr 2
  simp [List.getD_eq_getElem?_getD, h]
theorem mix_all (f : Int → Int) (L : List Int) : mix f L L.length = L.map f := by
  unfold mix
  rw [List.drop_length, List.append_nil, List.take_of_length_le (by simp)]
theorem map_at (f : Int → Int) (L : List Int) (t : Nat) (h : t < L.length) : (L.map f).getD t 0 = f (L.getD t 0) := by
  rw [List.getD_eq_getElem?_getD, List.getD_eq_getElem?_getD, List.getElem?_map, List.getElem?_eq_getElem h]; rfl
/-- a row of below B is as it was -/
theorem own_blw {w w' : World} {B base h n c : Nat} {xs : List Value} {e : TypeId} (hown : w.ownsRow base e 1 (.slice (some ⟨h, 0, none⟩) n c) n xs) (hb : Below B w w') (hB : h < B) : w'.ownsRow base e 1 (.slice (some ⟨h, 0, none⟩) n c) n xs := by
  refine ⟨hown.1, ?_⟩
  rcases hown.2 with ⟨h0, _⟩ | ⟨g, cap, cur, e1, hbb, hg, rest⟩
  · cases h0
  · have e2 := e1
    injection e1 with e1 _ _
    injection e1 with e1
    cases e1
    exact .inr ⟨h, cap, cur, e2, hbb, (Below.block hb h hB).trans hg, rest⟩
/-- a block of one number, new -/
theorem zi_one {W : World} {g : Nat} {x : Int} (hb : Bk W g 3 #[.int .i64 x]) : Zi W (some ⟨g, 0, none⟩) 1 [x] := zi_bk (L := [x]) hb 1 rfl
/-- gaps have the order of the products, from the greatest to the least -/
theorem gap_ord {v w m n : Int} (v0 : 0 < v) (w0 : 0 < w) (v1 : v ≤ 1024000000) (w1 : w ≤ 1024000000) (h : m * m ≤ v * w) (k : n * n ≤ v * w) :
    (rN v w m * rD v w n < rN v w n * rD v w m ↔ n < m) ∧ ((rN v w m = rN v w n ∧ rD v w m = rD v w n) ↔ m = n) := by
  obtain ⟨a1, a2, a3, a4, a5, a6⟩ := red_in (v := v) (w := w) (c := m) (by omega) (by omega) v1 w1 h
  obtain ⟨b1, b2, b3, b4, b5, b6⟩ := red_in (v := v) (w := w) (c := n) (by omega) (by omega) v1 w1 k
  have hD : 0 < v * w := Int.mul_pos v0 w0
  have so := sg_ord n m
  have eD : gD v w = v * w := by unfold gD; rw [if_neg (by omega), if_neg (by omega)]
  have eN : ∀ c, gN v w c = v * w - sg c := fun c => by unfold gN; rw [if_neg (by omega), if_neg (by omega)]
  rw [eD, eN] at a2 b2
  generalize rN v w m = x at *
  generalize rD v w m = y at *
  generalize rN v w n = p at *
  generalize rD v w n = q at *
  generalize v * w = D at *
  have hP : 0 < y * q := Int.mul_pos (by omega) (by omega)
  have e1 : x * q * D = (D - sg m) * (y * q) := by
    have : x * q * D = x * D * q := by grind
    rw [this, a2]; grind
  have e2 : p * y * D = (D - sg n) * (y * q) := by
    have : p * y * D = p * D * y := by grind
    rw [this, b2]; grind
  have key : x * q < p * y ↔ n < m := by
    rw [← so.1]
    constructor
    · intro g
      have g2 := Int.mul_lt_mul_of_pos_right g hD
      rw [e1, e2] at g2
      have := Int.lt_of_mul_lt_mul_right g2 (by omega)
      omega
    · intro g
      have g2 : (D - sg m) * (y * q) < (D - sg n) * (y * q) := Int.mul_lt_mul_of_pos_right (by omega) hP
      rw [← e1, ← e2] at g2
      exact Int.lt_of_mul_lt_mul_right g2 (by omega)
  refine ⟨key, ⟨?_, ?_⟩⟩
  · rintro ⟨h1, h2⟩
    have e3 : (D - sg m) * (y * q) = (D - sg n) * (y * q) := by rw [← e1, ← e2, h1, h2]
    have := Int.eq_of_mul_eq_mul_right (by omega) e3
    have := (so.2).1 (by omega)
    omega
  · rintro rfl
    refine rv_eq a1 b1 ?_
    have e3 : x * q * D = p * y * D := by rw [e1, e2]
    exact Int.eq_of_mul_eq_mul_right (by omega) e3
end Go.Proofs.Ytgdhgeongdenpaa.Nr
