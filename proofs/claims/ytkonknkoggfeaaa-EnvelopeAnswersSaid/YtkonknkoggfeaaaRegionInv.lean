/- A region whose order is open, by an invariant that each of its operations keeps: one goal an operation, not one an order. -/
import Derived.RegionTactic
namespace Go.Proofs.Ytkonknkoggfeaaa.Ri9
open Go
set_option linter.unusedVariables false
theorem filter_le {p q : Nat → Bool} (h : ∀ x, q x = true → p x = true) : ∀ l : List Nat, (l.filter q).length ≤ (l.filter p).length
  | [] => Nat.le_refl _
  | y :: l => by
    have ih := filter_le h l
    rw [List.filter_cons, List.filter_cons]
    cases hqy : q y
    · rw [if_neg (by decide)]
      split
      · rw [List.length_cons]; omega
      · exact ih
    · rw [h y hqy, if_pos rfl, if_pos rfl, List.length_cons, List.length_cons]; omega
theorem filter_lt {p q : Nat → Bool} (h : ∀ x, q x = true → p x = true) {i : Nat} (hp : p i = true) (hq : q i = false) : ∀ l : List Nat, i ∈ l → (l.filter q).length < (l.filter p).length
  | [], hi => by cases hi
  | x :: l, hi => by
    rcases List.mem_cons.1 hi with rfl | hl
    · have := filter_le h l
      rw [List.filter_cons, List.filter_cons, hp, hq, if_neg (by decide), if_pos rfl, List.length_cons]
      omega
    · have ih := filter_lt h hp hq l hl
      rw [List.filter_cons, List.filter_cons]
      cases hqx : q x
      · rw [if_neg (by decide)]
        split
        · rw [List.length_cons]; omega
        · exact ih
      · rw [h x hqx, if_pos rfl, if_pos rfl, List.length_cons, List.length_cons]; omega
section
variable {P : Program} {ops : Array Oper} {Q : Exit → Act → World → Prop} {md : Region.Mode}
theorem wpAny_inv (J : Array Bool → Act → World → Prop)
    (hstep : ∀ i o, ops[i]? = some o → ∀ listed a w, listed.size = ops.size → J listed a w → (∀ e ∈ o.after, Region.binds md e = true → listed.getD e.on false = true) → listed.getD i true = false → wpOp P ops Q i (J (listed.setIfInBounds i true)) a w)
    (hdone : ∀ listed a w, listed.size = ops.size → J listed a w → Region.ready md ops listed = [] → Q .normal a w) :
    ∀ fuel listed a w, listed.size = ops.size → ((List.range ops.size).filter fun i => !listed.getD i true).length ≤ fuel → J listed a w → wpAny P md ops Q fuel listed a w := by
  intro fuel
  induction fuel with
  | zero =>
    intro listed a w hs hf hJ
    have hr : Region.ready md ops listed = [] := by
      apply List.eq_nil_iff_forall_not_mem.2
      intro j hj
      obtain ⟨h1, o, ho, _⟩ := mem_ready.1 hj
      have hlt : j < ops.size := (Array.getElem?_eq_some_iff.1 ho).1
      have hm : j ∈ (List.range ops.size).filter fun i => !listed.getD i true := List.mem_filter.2 ⟨List.mem_range.2 hlt, by rw [h1]; rfl⟩
      have := List.length_pos_of_mem hm
      omega
    exact ⟨hr, hdone _ _ _ hs hJ hr⟩
  | succ fuel ih =>
    intro listed a w hs hf hJ
    refine ⟨fun hr => hdone _ _ _ hs hJ hr, fun i hi => ?_⟩
    obtain ⟨h1, o, ho, h2⟩ := mem_ready.1 hi
    have hlt : i < ops.size := (Array.getElem?_eq_some_iff.1 ho).1
    refine wpOp_mono (fun a w h => ih _ _ _ (by simpa using hs) ?_ h) (hstep i o ho listed a w hs hJ h2 h1)
    have hset : ∀ x, (listed.setIfInBounds i true).getD x true = if x = i then true else listed.getD x true := by
      intro x
      simp only [Array.getD_eq_getD_getElem?, Array.getElem?_setIfInBounds]
      rcases Classical.em (i = x) with h | h
      · subst h
        simp [hs, hlt]
      · have : ¬ x = i := fun e => h e.symm
        simp [h, this]
    have := filter_lt (p := fun i => !listed.getD i true) (q := fun x => !(listed.setIfInBounds i true).getD x true)
      (fun x hx => by
        simp only [hset] at hx
        split at hx
        · cases hx
        · exact hx) (i := i) (by simp only [h1]; rfl) (by simp [hset]) (List.range ops.size) (List.mem_range.2 hlt)
    omega
theorem ready_nil (hac : ∀ i o, ops[i]? = some o → ∀ e ∈ o.after, Region.binds md e = true → e.on < i) {listed : Array Bool} (hs : listed.size = ops.size) (hr : Region.ready md ops listed = []) :
    ∀ n i, i < n → i < ops.size → listed.getD i false = true := by
  intro n
  induction n with
  | zero => intro i h; omega
  | succ n ih =>
    intro i hi hl
    cases hv : listed.getD i false
    · exfalso
      have ho : ops[i]? = some ops[i] := Array.getElem?_eq_getElem hl
      have hm : i ∈ Region.ready md ops listed := mem_ready.2 ⟨by
        rw [Array.getD_eq_getD_getElem?, Array.getElem?_eq_getElem (by omega)] at hv ⊢
        exact hv, _, ho, fun e he hb => ih e.on (by have := hac i _ ho e he hb; omega) (by have := hac i _ ho e he hb; omega)⟩
      rw [hr] at hm
      cases hm
    · rfl
theorem wp_region_inv {id : Nat} {a : Act} {w : World} (hm : P.follows .mixedOrders = true) (hac : ∀ i o, ops[i]? = some o → ∀ e ∈ o.after, Region.binds .any e = true → e.on < i)
    (J : Array Bool → Act → World → Prop) (h0 : J (Array.replicate ops.size false) a { w with drawn := w.drawn + 1 })
    (hstep : ∀ i o, ops[i]? = some o → ∀ listed a w, listed.size = ops.size → J listed a w → (∀ e ∈ o.after, Region.binds .any e = true → listed.getD e.on false = true) → listed.getD i true = false → wpOp P ops Q i (J (listed.setIfInBounds i true)) a w)
    (hdone : ∀ listed a w, J listed a w → (∀ i, i < ops.size → listed.getD i false = true) → Q .normal a w) : (Code.region id ops true).wp P Q a w :=
  wp_region_any hm (wpAny_inv J hstep (fun listed a w hs hJ hr => hdone listed a w hJ fun i hi => ready_nil hac hs hr (i + 1) i (by omega) hi) ops.size _ _ _ (by simp) (Nat.le_trans (List.length_filter_le _ _) (by simp)) h0)
/-- what is listed has its binding edges listed -/
def Closed (md : Region.Mode) (ops : Array Oper) (listed : Array Bool) : Prop := ∀ i o, ops[i]? = some o → listed.getD i false = true → ∀ e ∈ o.after, Region.binds md e = true → listed.getD e.on false = true
theorem wp_region_inv2 {id : Nat} {a : Act} {w : World} (hm : P.follows .mixedOrders = true) (hac : ∀ i o, ops[i]? = some o → ∀ e ∈ o.after, Region.binds .any e = true → e.on < i)
    (J : Array Bool → Act → World → Prop) (h0 : J (Array.replicate ops.size false) a { w with drawn := w.drawn + 1 })
    (hstep : ∀ i o, ops[i]? = some o → ∀ listed a w, Closed .any ops listed → J listed a w → (∀ e ∈ o.after, Region.binds .any e = true → listed.getD e.on false = true) → listed.getD i true = false → wpOp P ops Q i (J (listed.setIfInBounds i true)) a w)
    (hdone : ∀ listed a w, J listed a w → (∀ i, i < ops.size → listed.getD i false = true) → Q .normal a w) : (Code.region id ops true).wp P Q a w :=
  wp_region_inv hm hac (fun l a w => Closed .any ops l ∧ J l a w) ⟨fun i o _ h => absurd h (by
      rw [Array.getD_eq_getD_getElem?, Array.getElem?_replicate]
      split <;> simp), h0⟩
    (fun i o ho l a w _ hj haft hun => wpOp_mono (fun a w h => ⟨fun j oj hoj hl e he hb => by
      rcases Classical.em (i = j) with hij | hij
      · subst hij
        rw [ho] at hoj
        cases hoj
        exact getD_set_true (haft e he hb)
      · rw [getD_set_ne _ hij] at hl
        exact getD_set_true (hj.1 j oj hoj hl e he hb), h⟩) (hstep i o ho l a w hj.1 hj.2 haft hun))
    (fun l a w hj hall => hdone l a w hj.2 hall)
/-- one operation walked as a list of one -/
def Only (K : Act → World → Prop) (Q : Exit → Act → World → Prop) : Exit → Act → World → Prop
  | .normal, a, w => K a w
  | e, a, w => Q e a w
theorem wpOp_list {i : Nat} {o : Oper} {K : Act → World → Prop} {a : Act} {w : World} (ho : ops[i]? = some o) (h : wpList P ops (Only K Q) [o] a w) : wpOp P ops Q i K a w := by
  have hlets : LetsOut (Only K Q) → LetsOut Q := fun ⟨a, w, h⟩ => ⟨a, w, h⟩
  unfold wpList at h
  unfold wpOp
  rw [ho]
  have up : o.wp P a w (wpList P ops (Only K Q) []) (Only K Q) → o.wp P a w K Q := by
    intro hh
    unfold Oper.wp at *
    generalize (execOp a.eval o).run P w = r at *
    cases r with
    | ok n w' =>
      cases n <;> simp only [Oper.upon] at hh ⊢ <;>
        first
          | exact hh
          | exact Calls.mono hh (fun e w'' he => by cases e <;> first | exact he | exact hlets he)
    | halt x w' => cases x <;> simp only [Oper.upon] at hh ⊢ <;> exact hh
  show if Region.wanted o (yielded ops a.tmps) then o.wp P a w K Q ∨ (o.asks P a w ∧ LetsOut Q) else K (a.put o.dst undef) w
  split
  · rename_i hw
    rw [if_pos hw] at h
    exact h.imp up (fun h => ⟨h.1, hlets h.2⟩)
  · rename_i hw
    rw [if_neg hw] at h
    exact h
end
end Go.Proofs.Ytkonknkoggfeaaa.Ri9
