/- reading.index: the map of valid units with different names. -/
import Derived.Test.YtagodfielmdfhaaDoorRtR
namespace Go.Proofs.YtagodfielmdfhaaDoor.Rt
open Go.ChangeShapes Go.WideShapes Go.RowKit Wo Un Rg Go.MapKept Sr
open Rm (Rp tm vl)
set_option linter.unusedVariables false
theorem run_insertS {P : Program} {T K E : TypeId} (ht : P.underlying T = some (.map K E)) (hkk : P.underlying K = some .string) (w : World) (r clock : Nat) (es : Array MapEntry) (k : ByteArray) (u : Value) (hb : w.heap[r]? = some (.map es clock)) (hn : Instr.findNow .string (.string k) es.toList 0 = some none) :
    (Instr.mapUpdate T (.map (some r)) (.string k) u).run P w = .ok () { w with heap := w.heap.setIfInBounds r (.map (es.push ⟨.string k, u, clock⟩) (clock + 1)) } := by
  unfold Instr.mapUpdate
  simp only [Sem.run_bind, run_underlying ht, Result.andThen, Go.MapKept.run_getObj_map hb, run_checkKey hkk (show IsKey .string (.string k) from trivial), run_findKey hkk hn, run_setObj_map _ hb]
theorem wpList_insertS {P : Program} (w : World) {ops : Array Oper} {rest : List Oper} {o : Oper} {a : Act} {Q : Exit → Act → World → Prop}
    (hg : o.guard = none) (T K E : TypeId) (ht : P.underlying T = some (.map K E)) (hkk : P.underlying K = some .string) (m x v : Operand) (hop : o.op = Op.mapUpdate T m x v) (r clock : Nat) (es : Array MapEntry) (k : ByteArray) (u : Value)
    (hm : a.eval m = .map (some r)) (hx : a.eval x = .string k) (hv : a.eval v = u) (hb : w.heap[r]? = some (.map es clock)) (hn : Instr.findNow .string (.string k) es.toList 0 = some none)
    (hK : ∀ w', w'.heap[r]? = some (.map (es.push ⟨.string k, u, clock⟩) (clock + 1)) → Ch r w w' → wpList P ops Q rest (a.put o.dst undef) w') : wpList P ops Q (o :: rest) a w := by
  refine wpList_plain hg fun K' hK' => ?_
  have hrun := run_insertS (P := P) ht hkk w r clock es k u hb hn
  unfold Oper.wp
  simp [execOp, hop, hm, hx, hv, hrun, Result.andThen]
  refine hK' _ _ (hK _ (heap_set hb).1 ⟨rfl, rfl, rfl, by simp, fun j hj hne => ?_⟩)
  exact (heap_set hb).2 j (fun e => hne (by rw [e]))
theorem ents_snoc (u : Ut) : ∀ (US : List Ut) (k : Nat), ents (US ++ [u]) k = ents US k ++ [⟨.string ⟨u.nm.toArray⟩, uv u, k + US.length⟩]
  | [], k => rfl
  | v :: us, k => by
    show _ :: ents (us ++ [u]) (k + 1) = _ :: (ents us (k + 1) ++ _)
    rw [ents_snoc u us (k + 1), List.length_cons, show k + 1 + us.length = k + (us.length + 1) by omega]
theorem ents_len : ∀ (US : List Ut) (k : Nat), (ents US k).length = US.length
  | [], k => rfl
  | v :: us, k => by show (ents us (k + 1)).length + 1 = us.length + 1; rw [ents_len us (k + 1)]
theorem mp_snoc {w : World} {r : Nat} {US : List Ut} (u : Ut) (h : w.heap[r]? = some (.map ((ents US 0).toArray.push ⟨.string ⟨u.nm.toArray⟩, uv u, US.length⟩) (US.length + 1))) : Mp w r (US ++ [u]) := by
  unfold Mp
  rw [ents_snoc, h, Nat.zero_add]
  simp
theorem run_lenM {P : Program} {t K E : TypeId} (ht : P.underlying t = some (.map K E)) (ty : TypeId) (w : World) (r clock : Nat) (es : Array MapEntry) (hb : w.heap[r]? = some (.map es clock)) : (Builtin.len_ #[t] ty #[.map (some r)]).run P w = .ok (.int .i64 es.size) w := by
  unfold Builtin.len_
  simp [Sem.run_bind, run_underlying ht, Result.andThen, Go.MapKept.run_getObj_map hb, goInt]
/-- a row of units -/
def Zu (w : World) (g : Nat) (US : List Ut) : Prop := g < w.heap.size ∧ ∀ (j : Nat) (u : Ut), US[j]? = some u →
  w.cell? ⟨g, j * 4, none⟩ = some (.string ⟨u.nm.toArray⟩) ∧ w.cell? ⟨g, j * 4 + 1, none⟩ = some (.int .i64 u.mul) ∧ w.cell? ⟨g, j * 4 + 2, none⟩ = some (.int .i64 u.add) ∧ w.cell? ⟨g, j * 4 + 3, none⟩ = some (.int .i64 u.div)
theorem Zu.bel {w w' : World} {g : Nat} {US : List Ut} (h : Zu w g US) (hb : Bel w w') : Zu w' g US :=
  ⟨by have := hb.size; have := h.1; omega, fun j u hu => by
    obtain ⟨a, b, c, d⟩ := h.2 j u hu
    exact ⟨hb.kp a, hb.kp b, hb.kp c, hb.kp d⟩⟩
theorem look_none {US : List Ut} {n : List UInt8} (h : n ∉ US.map (·.nm)) : look US n = none := by
  unfold look
  rw [List.find?_eq_none]
  intro u hu e
  exact h (by rw [← beq_iff_eq.1 e]; exact List.mem_map_of_mem hu)
def IdxR (US : List Ut) (w : World) (e : Ending) (w' : World) : Prop := ∃ r, e = .returned (.tuple #[.map (some r), .int .i64 0]) ∧ w.heap.size ≤ r ∧ Mp w' r US ∧ Bel w w'
set_option maxHeartbeats 4000000 in
set_option maxRecDepth 100000 in
theorem index_any (s : ByteArray) (hs : s.size ≤ 16384) (US : List Ut) (hU : ∀ u ∈ US, GoodU u) (hN : (US.map (·.nm)).Nodup) (n c g : Nat) (hn : US.length = n) (h16 : n ≤ 16) (w : World) (hZ : Zu w g US) :
    Calls Tryd.prog 17 #[.string s, .slice (some ⟨g, 0, none⟩) n c] w (IdxR US w) := by
  have s1 : ¬ (16384 : Int) < (s.size : Int) := by omega
  have n1 : ¬ (16 : Int) < (n : Int) := by omega
  have n2 : (n : Int) ≤ 16 := by omega
  have hmm := @run_makeMap Tryd.prog
  have HZ := Lib.hid hZ
  have HL := Lib.hid hn
  have HG := Lib.hid hU
  have HN := Lib.hid hN
  clear hZ hn hU hN
  go_enter Tryd.func17, Tryd.ntmps17
  go_wp2
  go_loopw [20] (fun s20 wr => ∃ (k : Nat) (V : World), V = wr ∧ k ≤ n ∧ s20 = .int .i64 (k : Int) ∧ Mp wr w.heap.size (US.take k) ∧ Bel w wr) (fun s20 _ => n - (intOf s20).toNat)
  case atStart => exact ⟨0, _, rfl, by omega, rfl, (Go.MapKept.heap_alloc w (.map #[] 0)).1, Bel.rf.al _⟩
  case round =>
    obtain ⟨k, wr, hwr, hk, rfl, hM, hb⟩ := hrel
    subst hwr
    rcases Nat.lt_or_ge k n with hlt | hge
    · obtain ⟨u, hu⟩ : ∃ u, US[k]? = some u := ⟨_, List.getElem?_eq_getElem (by rw [HL.out]; exact hlt)⟩
      have ht : US.take (k + 1) = US.take k ++ [u] := by rw [List.take_add_one, hu]; rfl
      have hfresh : u.nm ∉ (US.take k).map (·.nm) := by
        have h1 : ((US.take (k + 1)).map (·.nm)).Nodup := by
          rw [List.map_take]
          exact List.Nodup.sublist (List.take_sublist _ _) HN.out
        rw [ht, List.map_append, List.map_cons, List.map_nil] at h1
        have := (List.nodup_append.1 h1).2.2
        intro hm
        exact this _ hm _ (by simp) rfl
      have hlen : (US.take k).length = k := by rw [List.length_take, HL.out]; omega
      obtain ⟨c1, c2, c3, c4⟩ := (HZ.out.bel hb).2 k u hu
      obtain ⟨g1, g2, g3, g4, g5, g6, g7⟩ := HG.out u (List.mem_of_getElem? hu)
      have hfd := (find_ents u.nm (US.take k) 0 0).1 (look_none hfresh)
      have HFD := Lib.hid hfd
      have HT := Lib.hid ht
      have HLN := Lib.hid hlen
      obtain ⟨nm, mul, add, div⟩ := u
      have HV : Hid (∀ w, Calls Tryd.prog 22 #[.agg #[.string ⟨nm.toArray⟩, .int .i64 mul, .int .i64 add, .int .i64 div]] w fun e w' => e = .returned (.bool true) ∧ Bel w w') := fun w => unit_yes _ _ _ _ g1 g2 g3 g4 g5 g6 g7 w
      have HM := Lib.hid hM
      have HB := Lib.hid hb
      have ki : (k : Int) < (n : Int) := by omega
      have sz := hb.size
      have hlw := HM.out.lt
      clear hfd ht hlen hfresh hu g1 g2 g3 g4 g5 g6 g7 hM hb
      go_wp2_with fail
      go_at_call 22
      refine (HV.out _).mono ?_
      rintro e w2 ⟨rfl, hb2⟩
      have kU : Bk w2 wr.heap.size 25 #[.string ⟨nm.toArray⟩, .int .i64 mul, .int .i64 add, .int .i64 div] := (Bk.nw wr _ _).bel hb2
      have d0 : w2.cell? ⟨wr.heap.size, 0, none⟩ = some (.string ⟨nm.toArray⟩) := by rw [kU.cell]; rfl
      have d1 : w2.cell? ⟨wr.heap.size, 1, none⟩ = some (.int .i64 mul) := by rw [kU.cell]; rfl
      have d2 : w2.cell? ⟨wr.heap.size, 2, none⟩ = some (.int .i64 add) := by rw [kU.cell]; rfl
      have d3 : w2.cell? ⟨wr.heap.size, 3, none⟩ = some (.int .i64 div) := by rw [kU.cell]; rfl
      have hM2 := Lib.hid ((HM.out.bel (Bel.rf.al _)).bel hb2)
      go_wp2_with (refine wpList_insertS _ rfl 50 9 25 Tryd.underlying50 Tryd.underlying9 _ _ _ rfl w.heap.size _ _ ⟨nm.toArray⟩ (uv ⟨nm, mul, add, div⟩) rfl rfl rfl hM2.out HFD.out ?_; intro w3 hp3 hc3)
      go_roundw
      case rel => exact ⟨k + 1, _, rfl, by omega, by go_num, by rw [HT.out]; exact mp_snoc _ hp3, Bel.ch ((HB.out.al _).tr hb2) hc3 (Nat.le_refl _)⟩
      case measure => simp [intOf]; omega
    · obtain rfl : k = n := by omega
      have hM' : Mp wr w.heap.size US := by rwa [List.take_of_length_le (by rw [HL.out]; exact Nat.le_refl _)] at hM
      have hM2 := hM'
      unfold Mp at hM2
      have hln := run_lenM Tryd.underlying50 3 wr w.heap.size _ _ hM2
      rw [show (ents US 0).toArray.size = k by rw [List.size_toArray, ents_len, HL.out]] at hln
      have HM := Lib.hid (And.intro hM' hb)
      clear hM hM' hb
      go_wp2
      go_ret2
      exact ⟨w.heap.size, rfl, Nat.le_refl _, HM.out.1, HM.out.2⟩
end Go.Proofs.YtagodfielmdfhaaDoor.Rt
