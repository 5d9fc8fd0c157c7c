/- The map of units; reading.parseLine of any line. -/
import Derived.Test.YtagodfielmdfhaaDoorRtD
import Derived.Test.YtagodfielmdfhaaDoorSrc
import Derived.MapKept
import Derived.Carry
namespace Go.Proofs.YtagodfielmdfhaaDoor.Rt
open Go.ChangeShapes Go.WideShapes Go.RowKit Wo Un Rg Go.MapKept
open Rm (Rp tm vl)
set_option linter.unusedVariables false
/-- a unit as a value -/
def uv (u : Ut) : Value := .agg #[.string ⟨u.nm.toArray⟩, .int .i64 u.mul, .int .i64 u.add, .int .i64 u.div]
def ents : List Ut → Nat → List MapEntry
  | [], _ => []
  | u :: us, k => ⟨.string ⟨u.nm.toArray⟩, uv u, k⟩ :: ents us (k + 1)
/-- the map of the units -/
def Mp (w : World) (r : Nat) (US : List Ut) : Prop := w.heap[r]? = some (.map (ents US 0).toArray US.length)
theorem Mp.lt {w : World} {r : Nat} {US : List Ut} (h : Mp w r US) : r < w.heap.size := by
  rcases Nat.lt_or_ge r w.heap.size with h1 | h1
  · exact h1
  · unfold Mp at h; rw [Array.getElem?_eq_none h1] at h; cases h
theorem Mp.bel {w w' : World} {r : Nat} {US : List Ut} (h : Mp w r US) (hb : Bel w w') : Mp w' r US := (Below.block hb r h.lt).trans h
theorem ba_mk (l : List UInt8) : (⟨l.toArray⟩ : ByteArray).data.toList = l := rfl
theorem ba_beq (a b : List UInt8) : ((⟨a.toArray⟩ : ByteArray) == ⟨b.toArray⟩) = (a == b) := by
  rw [Bool.eq_iff_iff, bytes_beq, beq_iff_eq]
  constructor
  · intro h
    have := congrArg (fun x : ByteArray => x.data.toList) h
    simpa using this
  · intro h; rw [h]
theorem find_ents (n : List UInt8) : ∀ (US : List Ut) (k i : Nat), (look US n = none → Instr.findNow .string (.string ⟨n.toArray⟩) (ents US k) i = some none) ∧
    (∀ u, look US n = some u → ∃ j, Instr.findNow .string (.string ⟨n.toArray⟩) (ents US k) i = some (some (j, uv u)))
  | [], k, i => ⟨fun _ => rfl, fun u h => by cases h⟩
  | u :: us, k, i => by
    have ih := find_ents n us (k + 1) (i + 1)
    have hs : Instr.sameNow .string (.string ⟨n.toArray⟩) (.string ⟨u.nm.toArray⟩) = some (n == u.nm) := by
      show some ((⟨n.toArray⟩ : ByteArray) == ⟨u.nm.toArray⟩) = _
      rw [ba_beq]
    have hc : (u.nm == n) = (n == u.nm) := by rw [Bool.eq_iff_iff, beq_iff_eq, beq_iff_eq]; exact eq_comm
    have hf : Instr.findNow .string (.string ⟨n.toArray⟩) (ents (u :: us) k) i = if (n == u.nm) = true then some (some (i, uv u)) else Instr.findNow .string (.string ⟨n.toArray⟩) (ents us (k + 1)) (i + 1) := by
      show (match Instr.sameNow .string (.string ⟨n.toArray⟩) (.string ⟨u.nm.toArray⟩) with | some true => some (some (i, uv u)) | some false => Instr.findNow .string (.string ⟨n.toArray⟩) (ents us (k + 1)) (i + 1) | none => none) = _
      rw [hs]
      cases (n == u.nm) <;> rfl
    unfold look at ih ⊢
    rw [List.find?_cons, hc, hf]
    cases (n == u.nm)
    · exact ih
    · exact ⟨fun h => (by cases h), fun v h => ⟨i, by cases h; rfl⟩⟩
theorem run_lookS {P : Program} {T K E : TypeId} (ht : P.underlying T = some (.map K E)) (hkk : P.underlying K = some .string) (w : World) (r clock : Nat) (es : Array MapEntry) (s : ByteArray) (i : Nat) (u : Value) (hb : w.heap[r]? = some (.map es clock)) (hn : Instr.findNow .string (.string s) es.toList 0 = some (some (i, u))) :
    (Instr.lookup T (.map (some r)) (.string s) true).run P w = .ok (.tuple #[u, .bool true]) w := by
  unfold Instr.lookup
  simp [Sem.run_bind, run_underlying ht, Result.andThen, Go.MapKept.run_getObj_map hb, run_checkKey hkk (show IsKey .string (.string s) from trivial), run_findKey hkk hn]
theorem run_missS {P : Program} {T K E : TypeId} (ht : P.underlying T = some (.map K E)) (hkk : P.underlying K = some .string) (w : World) (r clock : Nat) (es : Array MapEntry) (s : ByteArray) (z : Value) (hz : (zeroValue E).run P w = .ok z w) (hb : w.heap[r]? = some (.map es clock)) (hn : Instr.findNow .string (.string s) es.toList 0 = some none) :
    (Instr.lookup T (.map (some r)) (.string s) true).run P w = .ok (.tuple #[z, .bool false]) w := by
  unfold Instr.lookup
  simp [Sem.run_bind, run_underlying ht, Result.andThen, Go.MapKept.run_getObj_map hb, run_checkKey hkk (show IsKey .string (.string s) from trivial), run_findKey hkk hn, hz]
theorem zero_unit (w : World) : (zeroValue 25).run Tryd.prog w = .ok (.agg #[.string ⟨#[]⟩, .int .i64 0, .int .i64 0, .int .i64 0]) w := by
  simp [zeroValue, go_sem]
  rfl
theorem look_hit {w : World} {r : Nat} {US : List Ut} (h : Mp w r US) (s : ByteArray) (u : Ut) (hu : look US s.data.toList = some u) : (Instr.lookup 50 (.map (some r)) (.string s) true).run Tryd.prog w = .ok (.tuple #[uv u, .bool true]) w := by
  obtain ⟨j, hj⟩ := (find_ents s.data.toList US 0 0).2 u hu
  rw [Lib.mk_data] at hj
  exact run_lookS Tryd.underlying50 Tryd.underlying9 w r _ _ s j _ h hj
theorem look_miss {w : World} {r : Nat} {US : List Ut} (h : Mp w r US) (s : ByteArray) (hu : look US s.data.toList = none) : (Instr.lookup 50 (.map (some r)) (.string s) true).run Tryd.prog w = .ok (.tuple #[.agg #[.string ⟨#[]⟩, .int .i64 0, .int .i64 0, .int .i64 0], .bool false]) w := by
  have hj := (find_ents s.data.toList US 0 0).1 hu
  rw [Lib.mk_data] at hj
  exact run_missS Tryd.underlying50 Tryd.underlying9 w r _ _ s _ (zero_unit w) h hj
/-- a valid unit -/
def GoodU (u : Ut) : Prop := Low ⟨u.nm.toArray⟩ ∧ 1 ≤ u.mul ∧ u.mul ≤ 1000000 ∧ -1000000000 ≤ u.add ∧ u.add ≤ 1000000000 ∧ 1 ≤ u.div ∧ u.div ≤ 1000000
end Go.Proofs.YtagodfielmdfhaaDoor.Rt
