/- measure.distances: a map of five functions that the call makes. -/
import Derived.Test.YtabmpnmhjdbdmaaGreatDoorSrc
import Derived.MapKept
import Derived.Carry
namespace Go.Proofs.YtabmpnmhjdbdmaaGreatDoor.Ms
open Go.ChangeShapes Go.WideShapes Go.RowKit Wo Sr Go.MapKept
set_option linter.unusedVariables false
theorem int_key (k : Int) : IsKey (.int .i64) (.int .i64 k) := by simp [IsKey]
theorem run_insert {P : Program} {T K E : TypeId} (ht : P.underlying T = some (.map K E)) (hkk : P.underlying K = some (.int .i64)) (w : World) (r clock : Nat) (es : Array MapEntry) (k : Int) (u : Value) (hb : w.heap[r]? = some (.map es clock)) (hn : Instr.findNow (.int .i64) (.int .i64 k) es.toList 0 = some none) :
    (Instr.mapUpdate T (.map (some r)) (.int .i64 k) u).run P w = .ok () { w with heap := w.heap.setIfInBounds r (.map (es.push ⟨.int .i64 k, u, clock⟩) (clock + 1)) } := by
  unfold Instr.mapUpdate
  simp only [Sem.run_bind, run_underlying ht, Result.andThen, Go.MapKept.run_getObj_map hb, run_checkKey hkk (int_key k), run_findKey hkk hn, run_setObj_map _ hb]
theorem run_look {P : Program} {T K E : TypeId} (ht : P.underlying T = some (.map K E)) (hkk : P.underlying K = some (.int .i64)) (w : World) (r clock : Nat) (es : Array MapEntry) (k : Int) (i : Nat) (u : Value) (hb : w.heap[r]? = some (.map es clock)) (hn : Instr.findNow (.int .i64) (.int .i64 k) es.toList 0 = some (some (i, u))) :
    (Instr.lookup T (.map (some r)) (.int .i64 k) false).run P w = .ok u w := by
  unfold Instr.lookup
  simp [Sem.run_bind, run_underlying ht, Result.andThen, Go.MapKept.run_getObj_map hb, run_checkKey hkk (int_key k), run_findKey hkk hn]
theorem wpList_insert {P : Program} (w : World) {ops : Array Oper} {rest : List Oper} {o : Oper} {a : Act} {Q : Exit → Act → World → Prop}
    (hg : o.guard = none) (T K E : TypeId) (ht : P.underlying T = some (.map K E)) (hkk : P.underlying K = some (.int .i64)) (m x v : Operand) (hop : o.op = Op.insert T m x v) (r clock : Nat) (es : Array MapEntry) (k : Int) (u : Value)
    (hm : a.eval m = .map (some r)) (hx : a.eval x = .int .i64 k) (hv : a.eval v = u) (hb : w.heap[r]? = some (.map es clock)) (hn : Instr.findNow (.int .i64) (.int .i64 k) es.toList 0 = some none)
    (hK : ∀ w', w'.heap[r]? = some (.map (es.push ⟨.int .i64 k, u, clock⟩) (clock + 1)) → Ch r w w' → wpList P ops Q rest (a.put o.dst undef) w') : wpList P ops Q (o :: rest) a w := by
  refine wpList_plain hg fun K' hK' => ?_
  have hrun := run_insert (P := P) ht hkk w r clock es k u hb hn
  unfold Oper.wp
  simp [execOp, hop, hm, hx, hv, hrun, Result.andThen]
  refine hK' _ _ (hK _ (heap_set hb).1 ⟨rfl, rfl, rfl, by simp, fun j hj hne => ?_⟩)
  exact (heap_set hb).2 j (fun e => hne (by rw [e]))
/-- the five functions -/
def fns (c : Nat) : Array MapEntry := #[⟨.int .i64 1, .func (.func 29) #[] #[], 0⟩, ⟨.int .i64 2, .func (.func 32) #[] #[], 1⟩, ⟨.int .i64 3, .func (.func 33) #[] #[], 2⟩,
  ⟨.int .i64 4, .func (.func 34) #[] #[.pointer (some ⟨c, 0, none⟩)], 3⟩, ⟨.int .i64 5, .func (.func 36) #[] #[.pointer (some ⟨c, 0, none⟩)], 4⟩]
def SomeM (k b g : Int) (w : World) (e : Ending) (w' : World) : Prop := ∃ h c, e = .returned (.map (some h)) ∧ w'.heap[h]? = some (.map (fns c) 5) ∧ Bk w' c 26 #[.int .i64 k, .int .i64 b, .int .i64 g] ∧ w.heap.size ≤ h ∧ w.heap.size ≤ c ∧ Bel w w'
set_option maxHeartbeats 2000000 in
set_option maxRecDepth 100000 in
theorem dists_ok (k b g : Int) (w : World) : Calls Tryz.prog 17 #[.agg #[.int .i64 k, .int .i64 b, .int .i64 g]] w (SomeM k b g w) := by
  have hmm := @run_makeMap Tryz.prog
  have hb0 : Hid (((w.alloc (.cells #[.int .i64 k, .int .i64 b, .int .i64 g] 26)).alloc (.map #[] 0)).heap[w.heap.size + 1]? = some (.map #[] 0)) := by
    have h := (Go.MapKept.heap_alloc (w.alloc (.cells #[.int .i64 k, .int .i64 b, .int .i64 g] 26)) (.map #[] 0)).1
    rwa [World.size_alloc] at h
  have hk0 : Hid (Bk ((w.alloc (.cells #[.int .i64 k, .int .i64 b, .int .i64 g] 26)).alloc (.map #[] 0)) w.heap.size 26 #[.int .i64 k, .int .i64 b, .int .i64 g]) := (Bk.nw _ _ _).al _
  have hw0 : Hid (Bel w ((w.alloc (.cells #[.int .i64 k, .int .i64 b, .int .i64 g] 26)).alloc (.map #[] 0))) := (Bel.rf.al _).al _
  go_enter Tryz.func17, Tryz.ntmps17
  go_wp2_with (first
    | (refine wpList_insert _ rfl 49 3 48 Tryz.underlying49 Tryz.underlying3 _ _ _ rfl (w.heap.size + 1) 0 #[] 1 _ rfl rfl rfl hb0.out rfl ?_; intro v1 hu1 hc1)
    | (refine wpList_insert _ rfl 49 3 48 Tryz.underlying49 Tryz.underlying3 _ _ _ rfl (w.heap.size + 1) 1 #[⟨.int .i64 1, .func (.func 29) #[] #[], 0⟩] 2 _ rfl rfl rfl hu1 rfl ?_; intro v2 hu2 hc2)
    | (refine wpList_insert _ rfl 49 3 48 Tryz.underlying49 Tryz.underlying3 _ _ _ rfl (w.heap.size + 1) 2 #[⟨.int .i64 1, .func (.func 29) #[] #[], 0⟩, ⟨.int .i64 2, .func (.func 32) #[] #[], 1⟩] 3 _ rfl rfl rfl hu2 rfl ?_; intro v3 hu3 hc3)
    | (refine wpList_insert _ rfl 49 3 48 Tryz.underlying49 Tryz.underlying3 _ _ _ rfl (w.heap.size + 1) 3 #[⟨.int .i64 1, .func (.func 29) #[] #[], 0⟩, ⟨.int .i64 2, .func (.func 32) #[] #[], 1⟩, ⟨.int .i64 3, .func (.func 33) #[] #[], 2⟩] 4 _ rfl rfl rfl hu3 rfl ?_; intro v4 hu4 hc4)
    | (refine wpList_insert _ rfl 49 3 48 Tryz.underlying49 Tryz.underlying3 _ _ _ rfl (w.heap.size + 1) 4 #[⟨.int .i64 1, .func (.func 29) #[] #[], 0⟩, ⟨.int .i64 2, .func (.func 32) #[] #[], 1⟩, ⟨.int .i64 3, .func (.func 33) #[] #[], 2⟩, ⟨.int .i64 4, .func (.func 34) #[] #[.pointer (some ⟨w.heap.size, 0, none⟩)], 3⟩] 5 _ rfl rfl rfl hu4 rfl ?_; intro v5 hu5 hc5))
  go_ret
  have hc := (((hc1.tr hc2).tr hc3).tr hc4).tr hc5
  exact ⟨_, w.heap.size, rfl, hu5, hc.bk hk0.out (by omega), by omega, Nat.le_refl _, Bel.ch hw0.out hc (by omega)⟩
end Go.Proofs.YtabmpnmhjdbdmaaGreatDoor.Ms
