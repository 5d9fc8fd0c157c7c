/- Channels in another order: sums and the greatest gap do not change; rows of slices that are appended in a drawn region. -/
import Derived.Test.YthmdponfigepjaaChGl
import Derived.Deep.RegionLawGrows
namespace Go.Proofs.Ythmdponfigepjaa.Ch
open Go.ChangeShapes Go.WideShapes Go.RowKit Wo Sr Wi Nr Ra Eu
set_option linter.unusedVariables false
/-- the order turned by r -/
def rot {α : Type} (r q : Nat) (f : Nat → α) (j : Nat) : α := if j + r < q then f (j + r) else f (j + r - q)
def sm (a : Nat → Int) : Nat → Int
  | 0 => 0
  | c + 1 => sm a c + a c
theorem sm_cong {a b : Nat → Int} : ∀ q, (∀ c, c < q → a c = b c) → sm a q = sm b q
  | 0, _ => rfl
  | q + 1, h => by
    show sm a q + a q = sm b q + b q
    rw [sm_cong q (fun c hc => h c (by omega)), h q (by omega)]
theorem sm_add (a : Nat → Int) (k : Nat) : ∀ l, sm a (k + l) = sm a k + sm (fun j => a (k + j)) l
  | 0 => (Int.add_zero _).symm
  | l + 1 => by
    show sm a (k + l) + a (k + l) = sm a k + (sm (fun j => a (k + j)) l + a (k + l))
    rw [sm_add a k l]
    omega
theorem sm_rot (a : Nat → Int) (r s : Nat) : sm (rot r (r + s) a) (r + s) = sm a (r + s) := by
  rw [sm_add a r s, Nat.add_comm r s, sm_add _ s r]
  have h1 : sm (rot r (s + r) a) s = sm (fun j => a (r + j)) s := sm_cong s (fun c hc => by
    unfold rot
    rw [if_pos (by omega), Nat.add_comm])
  have h2 : sm (fun j => rot r (s + r) a (s + j)) r = sm a r := sm_cong r (fun c hc => by
    show rot r (s + r) a (s + c) = a c
    unfold rot
    rw [if_neg (by omega)]
    congr 1
    omega)
  rw [h1, h2]
  omega
theorem sm_rot' (a : Nat → Int) {r q : Nat} (h : r ≤ q) : sm (rot r q a) q = sm a q := by
  obtain ⟨s, rfl⟩ : ∃ s, q = r + s := ⟨q - r, by omega⟩
  exact sm_rot a r s
theorem rot_two {α β γ : Type} (g : α → β → γ) (r q : Nat) (f : Nat → α) (h : Nat → β) (c : Nat) : g (rot r q f c) (rot r q h c) = rot r q (fun c => g (f c) (h c)) c := by
  unfold rot
  split <;> rfl
theorem aps_sm (b : Int) (n m : Nat) (Ls Ms : Nat → List Int) : ∀ q, aps b n m Ls Ms q = sm (fun c => wg (cst (Ls c) (Ms c)) b n m) q
  | 0 => rfl
  | q + 1 => by
    show aps b n m Ls Ms q + _ = sm _ q + _
    rw [aps_sm b n m Ls Ms q]
theorem aps_rot (b : Int) (n m : Nat) (Ls Ms : Nat → List Int) {r q : Nat} (h : r ≤ q) : aps b n m (rot r q Ls) (rot r q Ms) q = aps b n m Ls Ms q := by
  rw [aps_sm, aps_sm]
  exact (sm_cong q (fun c hc => rot_two (fun L M => wg (cst L M) b n m) r q Ls Ms c)).trans (sm_rot' (fun c => wg (cst (Ls c) (Ms c)) b n m) h)
theorem fs_sm (Ls Ms : Nat → List Int) (i j : Nat) : ∀ q, fs Ls Ms q i j = sm (fun c => cst (Ls c) (Ms c) i j) q
  | 0 => rfl
  | q + 1 => by
    show fs Ls Ms q i j + _ = sm _ q + _
    rw [fs_sm Ls Ms i j q]
theorem fs_rot (Ls Ms : Nat → List Int) {r q : Nat} (h : r ≤ q) : fs (rot r q Ls) (rot r q Ms) q = fs Ls Ms q := by
  funext i j
  rw [fs_sm, fs_sm]
  exact (sm_cong q (fun c hc => rot_two (fun L M => cst L M i j) r q Ls Ms c)).trans (sm_rot' (fun c => cst (Ls c) (Ms c) i j) h)
theorem es_sm (Ls Ms : Nat → List Int) : ∀ q, es Ls Ms q = sm (fun c => su sq (df (Ls c) (Ms c))) q
  | 0 => rfl
  | q + 1 => by
    show es Ls Ms q + _ = sm _ q + _
    rw [es_sm Ls Ms q]
theorem es_rot (Ls Ms : Nat → List Int) {r q : Nat} (h : r ≤ q) : es (rot r q Ls) (rot r q Ms) q = es Ls Ms q := by
  rw [es_sm, es_sm]
  exact (sm_cong q (fun c hc => rot_two (fun L M => su sq (df L M)) r q Ls Ms c)).trans (sm_rot' (fun c => su sq (df (Ls c) (Ms c))) h)
theorem gp_rot (Ls Ms : Nat → List Int) (r q c : Nat) : gp (rot r q Ls) (rot r q Ms) c = rot r q (gp Ls Ms) c := by
  unfold gp rot
  split <;> rfl
theorem rot_of {α : Type} (f : Nat → α) {r q : Nat} (h : r ≤ q) (c : Nat) (hc : c < q) : ∃ j, j < q ∧ rot r q f c = f j := by
  unfold rot
  split
  · exact ⟨_, ‹_›, rfl⟩
  · exact ⟨_, by omega, rfl⟩
theorem rot_on {α : Type} (f : Nat → α) {r q : Nat} (h : r ≤ q) (j : Nat) (hj : j < q) : ∃ c, c < q ∧ rot r q f c = f j := by
  rcases Nat.lt_or_ge j r with h1 | h1
  · exact ⟨j + q - r, by omega, by unfold rot; rw [if_neg (by omega)]; congr 1; omega⟩
  · exact ⟨j - r, by omega, by unfold rot; rw [if_pos (by omega)]; congr 1; omega⟩
theorem gs_rot {Ls Ms : Nat → List Int} {r q : Nat} (h : r ≤ q) (hq : 1 ≤ q) (hp : ∀ c, c < q → RP (gp Ls Ms c)) : gs (rot r q Ls) (rot r q Ms) q = gs Ls Ms q := by
  have hp' : ∀ c, c < q → RP (gp (rot r q Ls) (rot r q Ms) c) := fun c hc => by
    obtain ⟨j, hj, e⟩ := rot_of (gp Ls Ms) h c hc
    rw [gp_rot, e]
    exact hp j hj
  obtain ⟨t, rfl⟩ : ∃ t, q = t + 1 := ⟨q - 1, by omega⟩
  obtain ⟨j, hj, ej⟩ := gs_is Ls Ms t hp
  obtain ⟨c, hc, ec⟩ := gs_is (rot r (t + 1) Ls) (rot r (t + 1) Ms) t hp'
  obtain ⟨c2, hc2, e2⟩ := rot_on (gp Ls Ms) h j hj
  obtain ⟨j2, hj2, e3⟩ := rot_of (gp Ls Ms) h c hc
  have a := gs_ge (t + 1) hp' c2 hc2
  have b := gs_ge (t + 1) hp j2 hj2
  rw [gp_rot, e2, ej] at a
  rw [← e3, ← gp_rot, ec] at b
  have R1 : RP (gs Ls Ms (t + 1)) := by rw [← ej]; exact hp j hj
  have R2 : RP (gs (rot r (t + 1) Ls) (rot r (t + 1) Ms) (t + 1)) := by rw [← ec]; exact hp' c hc
  generalize gs (rot r (t + 1) Ls) (rot r (t + 1) Ms) (t + 1) = Y at *
  generalize gs Ls Ms (t + 1) = X at *
  obtain ⟨x1, x2⟩ := X
  obtain ⟨y1, y2⟩ := Y
  have a' : x1 * y2 ≤ y1 * x2 := a
  have b' : y1 * x2 ≤ x1 * y2 := b
  have hz : rcmp y1 y2 x1 x2 = 0 := by
    rcases rcmp_three R2 R1 with ⟨e1, e2⟩ | ⟨e1, e2⟩ | ⟨e1, e2⟩
    · omega
    · exact e1
    · omega
  obtain ⟨h1, h2⟩ := (rcmp_same R2 R1).1 hz
  have h1' : y1 = x1 := h1
  have h2' : y2 = x2 := h2
  rw [h1', h2']
/-- the first values of a row -/
def vls (f : Nat → Value) (k : Nat) : List Value := (List.range k).map f
theorem vls_len (f : Nat → Value) (k : Nat) : (vls f k).length = k := by simp [vls]
theorem vls_at (f : Nat → Value) {k j : Nat} (h : j < k) : (vls f k)[j]? = some (f j) := by simp [vls, h]
theorem vls_rot (f : Nat → Value) {r q : Nat} (h : r ≤ q) : vls (fun j => f (j + r)) (q - r) ++ vls f r = vls (rot r q f) q := by
  apply List.ext_getElem?
  intro i
  rcases Nat.lt_or_ge i (q - r) with h1 | h1
  · rw [List.getElem?_append_left (by rw [vls_len]; exact h1), vls_at _ h1, vls_at _ (by omega)]
    unfold rot
    rw [if_pos (by omega)]
  · rw [List.getElem?_append_right (by rw [vls_len]; exact h1), vls_len]
    rcases Nat.lt_or_ge i q with h2 | h2
    · rw [vls_at _ (by omega), vls_at _ h2]
      unfold rot
      rw [if_neg (by omega)]
      congr 2
      omega
    · rw [List.getElem?_eq_none (by rw [vls_len]; omega), List.getElem?_eq_none (by rw [vls_len]; omega)]
def chv (n : Nat) (As : Nat → Option Addr) (cs : Nat → Nat) (j : Nat) : Value := .slice (As j) n (cs j)
theorem chv_one (n : Nat) (As : Nat → Option Addr) (cs : Nat → Nat) (r k : Nat) : ∀ u ∈ vls (fun j => chv n As cs (j + r)) k, u.oneCell' = true := by
  intro u hu
  obtain ⟨j, _, rfl⟩ := List.mem_map.1 hu
  rfl
theorem add_off (h o j : Nat) : (⟨h, o, none⟩ : Addr).add j = ⟨h, o + j, none⟩ := by unfold Addr.add; split <;> simp_all
/-- a part of a bundle, as a slice of slices -/
theorem bun_vco {V : World} {g q n : Nat} {As : Nat → Option Addr} {cs : Nat → Nat} {Ls : Nat → List Int} (h : Bun V g q n As cs Ls) (o k : Nat) (hk : o + k ≤ q) : Vc V (some ⟨g, o, none⟩) k (vls (fun j => chv n As cs (j + o)) k) :=
  ⟨vls_len _ _, chv_one n As cs o k, fun _ => ⟨_, rfl, h.1, fun j hj => by
    rw [add_off, List.getD_eq_getElem?_getD, vls_at _ hj, Nat.add_comm o j]
    exact (h.2 (j + o) (by omega)).1⟩⟩
theorem bun_rot {V : World} {G g q n r : Nat} {As : Nat → Option Addr} {cs : Nat → Nat} {Ls : Nat → List Int} (hr : r ≤ q) (hq : 1 ≤ q) (hv : Vc V (some ⟨G, 0, none⟩) q (vls (rot r q (chv n As cs)) q)) (h : Bun V g q n As cs Ls) : Bun V G q n (rot r q As) (rot r q cs) (rot r q Ls) := by
  obtain ⟨ad, e, hb, hc⟩ := hv.2.2 hq
  cases e
  refine ⟨hb, fun j hj => ?_⟩
  have c := hc j hj
  rw [add_row, List.getD_eq_getElem?_getD, vls_at _ hj] at c
  unfold rot at *
  split
  · rename_i h1
    simp only [h1, if_true] at c
    exact ⟨c, (h.2 _ h1).2⟩
  · rename_i h1
    simp only [h1, if_false] at c
    exact ⟨c, (h.2 _ (by omega)).2⟩
theorem wp_appc (w : World) {o : Oper} {a : Act} {K : Act → World → Prop} {Q : Exit → Act → World → Prop} (s x : Operand)
    (ho : o.op = .call { callee := .builtin .append, args := #[s, x], argTypes := #[39, 39] })
    (base : Nat) (v : Value) (n : Nat) (L : List Value) (hs : a.eval s = v) (hown : w.ownsRow base 22 1 v n L) (ad : Addr) (m c : Nat) (M : List Value) (hx : a.eval x = .slice (some ad) m c) (hz : Vc w (some ad) m M) (hn : n + m ≤ 1000000) (hbase : base ≤ w.heap.size)
    (h : ∀ v' w', w'.ownsRow base 22 1 v' (n + m) (L ++ M) → w.grownBy w' v.ownBlock → (v'.ownBlock = v.ownBlock ∨ v'.ownBlock = some w.heap.size) → K (a.put o.dst v') w') : o.wp Try.prog a w K Q := by
  obtain ⟨v', w', hr, h2, h3, h5⟩ := run_appc w o.type base v n L hown ad m c M hz hn hbase
  unfold Oper.wp execOp
  simp only [ho, resolve, invoke, builtin, Sem.run_bind, Sem.run_pure, Result.andThen_ok, List.map_toArray, List.map_cons, List.map_nil, hs, hx, hr]
  exact h v' w' h2 h3 h5
theorem step_appc (w : World) {ops : Array Oper} {o : Oper} {a : Act} {K : Act → World → Prop} {Q : Exit → Act → World → Prop} {E : Prop} (hgd : o.guard = none) (s x : Operand)
    (ho : o.op = .call { callee := .builtin .append, args := #[s, x], argTypes := #[39, 39] })
    (base : Nat) (v : Value) (n : Nat) (L : List Value) (hs : a.eval s = v) (hown : w.ownsRow base 22 1 v n L) (ad : Addr) (m c : Nat) (M : List Value) (hx : a.eval x = .slice (some ad) m c) (hz : Vc w (some ad) m M) (hn : n + m ≤ 1000000) (hbase : base ≤ w.heap.size)
    (h : ∀ v' w', w'.ownsRow base 22 1 v' (n + m) (L ++ M) → w.grownBy w' v.ownBlock → (v'.ownBlock = v.ownBlock ∨ v'.ownBlock = some w.heap.size) → K (a.put o.dst v') w') :
    if Region.wanted o (yielded ops a.tmps) = true then Oper.wp Try.prog o a w K Q else E := by
  have hw : Region.wanted o (yielded ops a.tmps) = true := by simp [Region.wanted, hgd]
  rw [if_pos hw]
  exact wp_appc w s x ho base v n L hs hown ad m c M hx hz hn hbase h
/-- append to a slice that has been built without elements -/
theorem step_new (w : World) {ops : Array Oper} {o : Oper} {a : Act} {K : Act → World → Prop} {Q : Exit → Act → World → Prop} {E : Prop} (hgd : o.guard = none) (s x : Operand)
    (ho : o.op = .call { callee := .builtin .append, args := #[s, x], argTypes := #[39, 39] })
    (b : Addr) (hs : a.eval s = .slice (some b) 0 0) (ad : Addr) (m c : Nat) (M : List Value) (hx : a.eval x = .slice (some ad) m c) (hz : Vc w (some ad) m M) (h1 : 1 ≤ m) (hn : m ≤ 1000000)
    (h : ∀ v' w', w'.ownsRow w.heap.size 22 1 v' m M → Bel w w' → K (a.put o.dst v') w') :
    if Region.wanted o (yielded ops a.tmps) = true then Oper.wp Try.prog o a w K Q else E := by
  obtain ⟨i0, hi0, hz0, hz1, hz2⟩ := info_parts info_row
  refine step_append_grows hgd s x 39 ho 22 i0 (.slice none 0 0) 1 24 Try.underlying39 hi0 hz0 hz1 hz2 (by rfl) (by omega) (some b) 0 0 [] hs (fun e => by cases e) rfl (fun _ _ j u e => by simp at e) ad m c M hx (by rw [hz.1]; omega) (vc_news hz) hz.2.1 (by omega) (by unfold maxLen; omega) (by omega) (fun v' w' r1 r2 => ?_)
  rw [Nat.zero_add, List.nil_append] at r1
  exact h v' w' r1 (bel_grown Bel.rf r2 (fun q e => by cases e))
end Go.Proofs.Ythmdponfigepjaa.Ch
