/- A drawn region in which what is held of the world need hold only till operation b (a store into the cells that were read) comes up. -/
import Derived.Deep.RegionHeld3
namespace Go.Proofs.Ytgdhgeongdenpaa.Rb
open Go
set_option linter.unusedVariables false
section
variable {P : Program} {ops : Array Oper} {Q : Exit → Act → World → Prop} {md : Region.Mode} {S : World → Prop} {b : Nat}
/-- any order from here on; S holds behind each operation as long as b has not come up -/
def Till (P : Program) (md : Region.Mode) (ops : Array Oper) (Q : Exit → Act → World → Prop) (S : World → Prop) (b : Nat) : Nat → Array Bool → Act → World → Prop
  | 0, li, a, w => Region.ready md ops li = [] ∧ Q .normal a w
  | n + 1, li, a, w => (Region.ready md ops li = [] → Q .normal a w) ∧
    ∀ i ∈ Region.ready md ops li, wpOp P ops Q i (fun a' w' => ((li.setIfInBounds i true).getD b true = false → S w') ∧ Till P md ops Q S b n (li.setIfInBounds i true) a' w') a w
theorem till_any : ∀ (n : Nat) (li : Array Bool) (a : Act) (w : World), Till P md ops Q S b n li a w → wpAny P md ops Q n li a w
  | 0, _, _, _, h => h
  | n + 1, _, _, _, h => ⟨h.1, fun i hi => wpOp_mono (fun a' w' h' => till_any n _ a' w' h'.2) (h.2 i hi)⟩
theorem fal_of {li : Array Bool} {i : Nat} (h : li.getD i true = false) : li.getD i false = false := by
  rcases Nat.lt_or_ge i li.size with q | q
  · simp [q] at h ⊢; exact h
  · simp [Array.getElem?_eq_none q] at h
theorem till_first {i : Nat} {oi : Oper} {v : Value} (hi : ops[i]? = some oi) (hsel : ∀ (j : Nat) (o : Oper) cs c, ops[j]? = some o → o.op ≠ .select cs c)
    (hQ : ∀ c a w, Q (.panic c) (a.put oi.dst v) w → Q (.panic c) a w) (hib : i ≠ b) (C : World → Prop)
    (hC : (∀ w, C w) ∨ (C = S ∧ ∃ ob, ops[b]? = some ob ∧ ∃ e ∈ ob.after, Region.binds md e = true ∧ e.on = i)) :
    ∀ (n : Nat) (li : Array Bool) (a : Act) (w : World),
      (∀ j oj, ops[j]? = some oj → j ≠ i → li.getD j true = false → (∀ e ∈ oj.after, Region.binds md e = true → e.on ≠ i) → oi.apart ops oj = true) →
      i ∈ Region.ready md ops li → YieldsIf P ops C oi v a → C w → (li.getD b true = false → S w) → ((∀ w, C w) ∨ li.getD b true = false) →
      Till P md ops Q S b n (li.setIfInBounds i true) (a.put oi.dst v) w → Till P md ops Q S b (n + 1) li a w := by
  have sb : ∀ li : Array Bool, (li.setIfInBounds i true).getD b true = li.getD b true := fun li => getD_set_ne _ hib
  intro n
  induction n with
  | zero =>
    intro li a w _ hr hy hc hs _ H
    refine ⟨fun h => (by rw [h] at hr; cases hr), fun j hj => ?_⟩
    by_cases hji : j = i
    · subst hji; exact hy.wpOp hi hc ⟨fun h => hs (by rw [← sb]; exact h), H⟩
    · have := ready_mono hj hji
      rw [H.1] at this
      cases this
  | succ n ih =>
    intro li a w hfree hr hy hc hs ht H
    refine ⟨fun h => (by rw [h] at hr; cases hr), fun j hj => ?_⟩
    by_cases hji : j = i
    · subst hji; exact hy.wpOp hi hc ⟨fun h => hs (by rw [← sb]; exact h), H⟩
    · have h1 := H.2 j (ready_mono hj hji)
      obtain ⟨hjun, oj, hoj, hall⟩ := mem_ready.1 hj
      have h0 := fal_of (mem_ready.1 hr).1
      have hnot : ∀ e ∈ oj.after, Region.binds md e = true → e.on ≠ i := fun e he hbi heq => by
        have h2 := hall e he hbi
        rw [heq, h0] at h2
        cases h2
      have h2 := wpOp_putIf hoj (hfree j oj hoj hji hjun hnot) (fun cs c => hsel i oi cs c hi) (fun cs c => hsel j oj cs c hoj) hQ hy h1
      have hfree' : ∀ k ok, ops[k]? = some ok → k ≠ i → (li.setIfInBounds j true).getD k true = false →
          (∀ e ∈ ok.after, Region.binds md e = true → e.on ≠ i) → oi.apart ops ok = true := fun k ok hk hki hun hno => by
        refine hfree k ok hk hki ?_ hno
        by_cases hjk : j = k
        · subst hjk; exact hjun
        · rw [getD_set_ne true hjk] at hun; exact hun
      refine wpOp_mono (fun a' w' h3 => ?_) h2
      have e0 : ((li.setIfInBounds i true).setIfInBounds j true).getD b true = (li.setIfInBounds j true).getD b true := by
        rw [Array.setIfInBounds_comm _ _ (Ne.symm hji)]; exact sb _
      have hs' : (li.setIfInBounds j true).getD b true = false → S w' := fun h => h3.2.1 (by rw [e0]; exact h)
      have ht' : (∀ w, C w) ∨ (li.setIfInBounds j true).getD b true = false := by
        rcases ht with h | h
        · exact .inl h
        · rcases hC with hC | ⟨_, ob, hob, e, he, hbi, hon⟩
          · exact .inl hC
          · refine .inr ?_
            have hjb : j ≠ b := by
              rintro rfl
              obtain rfl : oj = ob := by rw [hoj] at hob; exact Option.some.inj hob
              exact hnot e he hbi hon
            rw [getD_set_ne _ hjb]; exact h
      have hc' : C w' := by
        rcases ht' with h | h
        · exact h w'
        · rcases hC with hC | ⟨hC, _⟩
          · exact hC w'
          · rw [hC]; exact hs' h
      refine ⟨hs', ih (li.setIfInBounds j true) a' w' hfree' (ready_mono hr (Ne.symm hji)) h3.1 hc' hs' ht' ?_⟩
      rw [Array.setIfInBounds_comm _ _ hji]
      exact h3.2.2
/-- an operation that yields its value wherever S holds, and for which b waits, may be taken first -/
theorem till_take {i : Nat} {oi : Oper} {v : Value} {n : Nat} {li : Array Bool} {a : Act} {w : World} (hi : ops[i]? = some oi)
    (hsl : Region.noSelect ops = true) (hf : Region.free md ops li i = true) (hr : (Region.ready md ops li).contains i = true)
    (hQ : ∀ c a w, Q (.panic c) (a.put oi.dst v) w → Q (.panic c) a w) (hib : i ≠ b) (ob : Oper) (hob : ops[b]? = some ob) (hw : (ob.after.any fun e => Region.binds md e && e.on == i) = true)
    (hb : li.getD b true = false) (hy : YieldsIf P ops S oi v a) (hS : S w)
    (h : Till P md ops Q S b n (li.setIfInBounds i true) (a.put oi.dst v) w) : Till P md ops Q S b (n + 1) li a w := by
  obtain ⟨e, he, h1⟩ : ∃ e ∈ ob.after, (Region.binds md e && e.on == i) = true := by
    obtain ⟨k, hk, h2⟩ := Array.any_eq_true.1 hw
    exact ⟨_, Array.getElem_mem hk, h2⟩
  simp only [Bool.and_eq_true, beq_iff_eq] at h1
  exact till_first hi (Region.noSelect_spec hsl) hQ hib S (.inr ⟨rfl, ob, hob, e, he, h1.1, h1.2⟩) n li a w (Region.free_spec hi hf) (by simpa using hr) hy hS (fun _ => hS) (.inr hb) h
/-- an operation that yields its value in any world may be taken first at any time -/
theorem till_free {i : Nat} {oi : Oper} {v : Value} {n : Nat} {li : Array Bool} {a : Act} {w : World} (hi : ops[i]? = some oi)
    (hsl : Region.noSelect ops = true) (hf : Region.free md ops li i = true) (hr : (Region.ready md ops li).contains i = true)
    (hQ : ∀ c a w, Q (.panic c) (a.put oi.dst v) w → Q (.panic c) a w) (hib : i ≠ b) (hy : YieldsIf P ops (fun _ => True) oi v a) (hS : li.getD b true = false → S w)
    (h : Till P md ops Q S b n (li.setIfInBounds i true) (a.put oi.dst v) w) : Till P md ops Q S b (n + 1) li a w :=
  till_first hi (Region.noSelect_spec hsl) hQ hib (fun _ => True) (.inl fun _ => trivial) n li a w (Region.free_spec hi hf) (by simpa using hr) hy trivial hS (.inl fun _ => trivial) h
def AllT (P : Program) (md : Region.Mode) (ops : Array Oper) (Q : Exit → Act → World → Prop) (S : World → Prop) (b : Nat) (n : Nat) (li : Array Bool) (a : Act) (w : World) (rs : List Nat) : Prop :=
  ∀ i ∈ rs, wpOp P ops Q i (fun a' w' => ((li.setIfInBounds i true).getD b true = false → S w') ∧ Till P md ops Q S b n (li.setIfInBounds i true) a' w') a w
theorem AllT.nil {n : Nat} {li : Array Bool} {a : Act} {w : World} : AllT P md ops Q S b n li a w [] := fun _ h => by cases h
/-- b has not come up: S is to be shown behind the operation -/
theorem AllT.cons {n : Nat} {li : Array Bool} {a : Act} {w : World} {i : Nat} {o : Oper} {rs : List Nat} (ho : ops[i]? = some o)
    (h : ∀ K' : Act → World → Prop, Shut (∀ a w, S w → (S w → Till P md ops Q S b n (li.setIfInBounds i true) a w) → K' a w) → if Region.wanted o (yielded ops a.tmps) = true then Oper.wp P o a w K' Q else K' (a.put o.dst undef) w)
    (hs : AllT P md ops Q S b n li a w rs) : AllT P md ops Q S b n li a w (i :: rs) := fun j hj => by
  rcases List.mem_cons.1 hj with rfl | hj
  · exact wpOp_step ho (fun K' hK => h K' (fun a w hS hW => hK a w ⟨fun _ => hS, hW hS⟩))
  · exact hs j hj
/-- b comes up, or has: nothing is to be shown of the world -/
theorem AllT.past {n : Nat} {li : Array Bool} {a : Act} {w : World} {i : Nat} {o : Oper} {rs : List Nat} (ho : ops[i]? = some o) (hb : (li.setIfInBounds i true).getD b true = true)
    (h : ∀ K' : Act → World → Prop, Shut (∀ a w, True → (True → Till P md ops Q S b n (li.setIfInBounds i true) a w) → K' a w) → if Region.wanted o (yielded ops a.tmps) = true then Oper.wp P o a w K' Q else K' (a.put o.dst undef) w)
    (hs : AllT P md ops Q S b n li a w rs) : AllT P md ops Q S b n li a w (i :: rs) := fun j hj => by
  rcases List.mem_cons.1 hj with rfl | hj
  · exact wpOp_step ho (fun K' hK => h K' (fun a w _ hW => hK a w ⟨fun h0 => (by rw [hb] at h0; cases h0), hW trivial⟩))
  · exact hs j hj
theorem till_ready {rs : List Nat} {n : Nat} {li : Array Bool} {a : Act} {w : World} (hr : Region.ready md ops li = rs) (hne : rs ≠ [])
    (h : AllT P md ops Q S b n li a w rs) : Till P md ops Q S b (n + 1) li a w := ⟨fun h0 => absurd (hr ▸ h0) hne, hr ▸ h⟩
theorem till_done {li : Array Bool} {a : Act} {w : World} (hr : Region.ready md ops li = []) (h : Q .normal a w) : ∀ n, Till P md ops Q S b n li a w
  | 0 => ⟨hr, h⟩
  | _ + 1 => ⟨fun _ => h, by rw [hr]; simp⟩
theorem wp_region_till {id : Nat} {a : Act} {w : World} (b : Nat) (hm : P.follows .mixedOrders = true) (hS : S w.drew)
    (h : S w.drew → Till P .any ops Q S b ops.size (Array.replicate ops.size false) a w.drew) : (Code.region id ops true).wp P Q a w :=
  wp_region_any hm (till_any _ _ _ _ (h hS))
end
end Go.Proofs.Ytgdhgeongdenpaa.Rb
