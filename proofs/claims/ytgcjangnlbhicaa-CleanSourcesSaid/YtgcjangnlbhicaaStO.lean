/- clean.policies: a map of functions that the call makes. -/
import Derived.Test.YtgcjangnlbhicaaStX2
import Derived.MapKept
import Derived.Carry
namespace Go.Proofs.Ytgcjangnlbhicaa.St
open Go.ChangeShapes Go.WideShapes Go.RowKit Wo Sr Wi Rm Rg Go.MapKept
set_option linter.unusedVariables false
theorem int_key (k : Int) : IsKey (.int .i64) (.int .i64 k) := by simp [IsKey]
theorem run_insert {P : Program} {T K E : TypeId} (ht : P.underlying T = some (.map K E)) (hkk : P.underlying K = some (.int .i64)) (w : World) (r clock : Nat) (es : Array MapEntry) (k : Int) (u : Value) (hb : w.heap[r]? = some (.map es clock)) (hn : Instr.findNow (.int .i64) (.int .i64 k) es.toList 0 = some none) :
    (Instr.mapUpdate T (.map (some r)) (.int .i64 k) u).run P w = .ok () { w with heap := w.heap.setIfInBounds r (.map (es.push ⟨.int .i64 k, u, clock⟩) (clock + 1)) } := by
  unfold Instr.mapUpdate
  simp only [Sem.run_bind, run_underlying ht, Result.andThen, Go.MapKept.run_getObj_map hb, run_checkKey hkk (int_key k), run_findKey hkk hn, run_setObj_map _ hb]
theorem run_look2 {P : Program} {T K E : TypeId} (ht : P.underlying T = some (.map K E)) (hkk : P.underlying K = some (.int .i64)) (w : World) (r clock : Nat) (es : Array MapEntry) (k : Int) (i : Nat) (u : Value) (hb : w.heap[r]? = some (.map es clock)) (hn : Instr.findNow (.int .i64) (.int .i64 k) es.toList 0 = some (some (i, u))) :
    (Instr.lookup T (.map (some r)) (.int .i64 k) true).run P w = .ok (.tuple #[u, .bool true]) w := by
  unfold Instr.lookup
  simp [Sem.run_bind, run_underlying ht, Result.andThen, Go.MapKept.run_getObj_map hb, run_checkKey hkk (int_key k), run_findKey hkk hn]
theorem wpList_insert {P : Program} (w : World) {ops : Array Oper} {rest : List Oper} {o : Oper} {a : Act} {Q : Exit → Act → World → Prop}
    (hg : o.guard = none) (T K E : TypeId) (ht : P.underlying T = some (.map K E)) (hkk : P.underlying K = some (.int .i64)) (m x v : Operand) (hop : o.op = Op.insert T m x v) (r clock : Nat) (es : Array MapEntry) (k : Int) (u : Value)
    (hm : a.eval m = .map (some r)) (hx : a.eval x = .int .i64 k) (hv : a.eval v = u) (hb : w.heap[r]? = some (.map es clock)) (hn : Instr.findNow (.int .i64) (.int .i64 k) es.toList 0 = some none)
    (hK : ∀ w', w'.heap[r]? = some (.map (es.push ⟨.int .i64 k, u, clock⟩) (clock + 1)) → Ch r w w' → wpList P ops Q rest (a.put o.dst undef) w') : wpList P ops Q (o :: rest) a w := by
  refine wpList_plain hg fun K' hK' => ?_
  have hrun := run_insert (P := P) ht hkk w r clock es k u hb hn
  unfold Oper.wp
  simp [execOp, hop, hm, hx, hv, hrun, Result.andThen]
  refine hK' _ _ (hK _ (heap_set hb).1 ⟨rfl, rfl, rfl, by simp, fun j hj hne => ?_⟩)
  exact (heap_set hb).2 j (fun e => hne (by rw [e]))
/-- the functions of the policies -/
def fns : Array MapEntry := #[⟨.int .i64 1, .func (.func 28) #[] #[], 0⟩, ⟨.int .i64 2, .func (.func 29) #[] #[], 1⟩, ⟨.int .i64 3, .func (.func 30) #[] #[], 2⟩, ⟨.int .i64 4, .func (.func 33) #[] #[], 3⟩, ⟨.int .i64 5, .func (.func 35) #[] #[], 4⟩, ⟨.int .i64 6, .func (.func 28) #[] #[], 5⟩]
/-- the function of a policy -/
def pf (p : Int) : FuncId := if p = 2 then 29 else if p = 3 then 30 else if p = 4 then 33 else if p = 5 then 35 else 28
theorem pf_ok (p : Int) (h1 : 1 ≤ p) (h2 : p ≤ 6) : Pol (pf p) p := by
  rcases (by omega : p = 1 ∨ p = 2 ∨ p = 3 ∨ p = 4 ∨ p = 5 ∨ p = 6) with rfl | rfl | rfl | rfl | rfl | rfl
  · exact pol_first 1 (.inl rfl)
  · exact pol_last
  · exact pol_least
  · exact pol_greatest
  · exact pol_mean
  · exact pol_first 6 (.inr rfl)
theorem look_pf {w : World} {h : Nat} (hb : w.heap[h]? = some (.map fns 6)) (p : Int) (h1 : 1 ≤ p) (h2 : p ≤ 6) : (Instr.lookup 49 (.map (some h)) (.int .i64 p) true).run Try.prog w = .ok (.tuple #[.func (.func (pf p)) #[] #[], .bool true]) w := by
  rcases (by omega : p = 1 ∨ p = 2 ∨ p = 3 ∨ p = 4 ∨ p = 5 ∨ p = 6) with rfl | rfl | rfl | rfl | rfl | rfl
  · exact run_look2 Try.underlying49 Try.underlying3 w h 6 fns 1 0 _ hb rfl
  · exact run_look2 Try.underlying49 Try.underlying3 w h 6 fns 2 1 _ hb rfl
  · exact run_look2 Try.underlying49 Try.underlying3 w h 6 fns 3 2 _ hb rfl
  · exact run_look2 Try.underlying49 Try.underlying3 w h 6 fns 4 3 _ hb rfl
  · exact run_look2 Try.underlying49 Try.underlying3 w h 6 fns 5 4 _ hb rfl
  · exact run_look2 Try.underlying49 Try.underlying3 w h 6 fns 6 5 _ hb rfl
def SomeM (w : World) (e : Ending) (w' : World) : Prop := ∃ h, e = .returned (.map (some h)) ∧ w'.heap[h]? = some (.map fns 6) ∧ Bel w w'
set_option maxHeartbeats 2000000 in
set_option maxRecDepth 100000 in
theorem policies_ok (w : World) : Calls Try.prog 21 #[] w (SomeM w) := by
  have hmm := @run_makeMap Try.prog
  have hb0 : Hid ((w.alloc (.map #[] 0)).heap[w.heap.size]? = some (.map #[] 0)) := (Go.MapKept.heap_alloc w (.map #[] 0)).1
  have hw0 : Hid (Bel w (w.alloc (.map #[] 0))) := Bel.rf.al _
  go_enter Try.func21, Try.ntmps21
  go_wp2_with (first
    | (refine wpList_insert _ rfl 49 3 47 Try.underlying49 Try.underlying3 _ _ _ rfl w.heap.size 0 #[] 1 _ rfl rfl rfl hb0.out rfl ?_; intro v1 hu1 hc1)
    | (refine wpList_insert _ rfl 49 3 47 Try.underlying49 Try.underlying3 _ _ _ rfl w.heap.size 1 #[⟨.int .i64 1, .func (.func 28) #[] #[], 0⟩] 2 _ rfl rfl rfl hu1 rfl ?_; intro v2 hu2 hc2)
    | (refine wpList_insert _ rfl 49 3 47 Try.underlying49 Try.underlying3 _ _ _ rfl w.heap.size 2 #[⟨.int .i64 1, .func (.func 28) #[] #[], 0⟩, ⟨.int .i64 2, .func (.func 29) #[] #[], 1⟩] 3 _ rfl rfl rfl hu2 rfl ?_; intro v3 hu3 hc3)
    | (refine wpList_insert _ rfl 49 3 47 Try.underlying49 Try.underlying3 _ _ _ rfl w.heap.size 3 #[⟨.int .i64 1, .func (.func 28) #[] #[], 0⟩, ⟨.int .i64 2, .func (.func 29) #[] #[], 1⟩, ⟨.int .i64 3, .func (.func 30) #[] #[], 2⟩] 4 _ rfl rfl rfl hu3 rfl ?_; intro v4 hu4 hc4)
    | (refine wpList_insert _ rfl 49 3 47 Try.underlying49 Try.underlying3 _ _ _ rfl w.heap.size 4 #[⟨.int .i64 1, .func (.func 28) #[] #[], 0⟩, ⟨.int .i64 2, .func (.func 29) #[] #[], 1⟩, ⟨.int .i64 3, .func (.func 30) #[] #[], 2⟩, ⟨.int .i64 4, .func (.func 33) #[] #[], 3⟩] 5 _ rfl rfl rfl hu4 rfl ?_; intro v5 hu5 hc5)
    | (refine wpList_insert _ rfl 49 3 47 Try.underlying49 Try.underlying3 _ _ _ rfl w.heap.size 5 #[⟨.int .i64 1, .func (.func 28) #[] #[], 0⟩, ⟨.int .i64 2, .func (.func 29) #[] #[], 1⟩, ⟨.int .i64 3, .func (.func 30) #[] #[], 2⟩, ⟨.int .i64 4, .func (.func 33) #[] #[], 3⟩, ⟨.int .i64 5, .func (.func 35) #[] #[], 4⟩] 6 _ rfl rfl rfl hu5 rfl ?_; intro v6 hu6 hc6))
  go_ret
  have hc := ((((hc1.tr hc2).tr hc3).tr hc4).tr hc5).tr hc6
  exact ⟨_, rfl, hu6, Bel.ch hw0.out hc (Nat.le_refl _)⟩
end Go.Proofs.Ytgcjangnlbhicaa.St
