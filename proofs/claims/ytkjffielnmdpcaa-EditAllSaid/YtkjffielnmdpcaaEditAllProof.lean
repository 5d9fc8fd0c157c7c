/- That the law EditAll returns true for every input that can be read, and leaves its arguments as they were; no further condition. -/
import Derived.Test.YtkjffielnmdpcaaRows
import Derived.WalkKit
import Derived.ProofKit
import Derived.OpenShut
import Derived.Test.YtkjffielnmdpcaaWords
import Derived.Test.YtkjffielnmdpcaaSrcNew0
import Derived.Test.YtkjffielnmdpcaaEditAll
import Derived.ShutString
import Derived.ChangeOld
import Derived.Below
namespace Go.Proofs.Ytkjffielnmdpcaa.editAll
open Go.ChangeShapes Go.WideShapes Go.ChangeAt Go.RowKit Wo
open Go.ChangeMaps (open_string shut_string)
set_option linter.unusedVariables false

theorem own : ownKnob Try.prog.godebug = none := by kernel_rfl
theorem laidOut : laidOutB Try.prog = true := by kernel_rfl

/-- WHAT THE WALK IS TOLD OF A SLICE OF INTEGERS THAT CAME IN: it is nil; or it leads to a row of 'cap' cells, the numbers 'zs' (the first 'len' are its elements, the rest its spare room), each fitting its kind. -/
def IsRow (k : IntKind) (w : World) (a : Option Addr) (len cap : Nat) (zs : List Int) : Prop :=
  (a = none ∧ len = 0 ∧ cap = 0 ∧ zs = []) ∨
  ∃ x, a = some x ∧ len ≤ cap ∧ cap ≤ maxLen ∧ zs.length = cap ∧ (∀ i, i < zs.length → w.cell? (x.add i) = some (.int k (zs.getD i 0))) ∧ ∀ n ∈ zs, (Lit.int k n).wf = true

theorem zi_take {w : World} {A : Option Addr} {n m : Nat} {L : List Int} (h : Go.Proofs.Ytkjffielnmdpcaa.Wi.Zi w A n L) (hm : m ≤ n) : Go.Proofs.Ytkjffielnmdpcaa.Wi.Zi w A m (L.take m) := by
  have hl := h.1
  refine ⟨by rw [List.length_take]; omega, fun hn => ?_⟩
  obtain ⟨ad, e, hx, hc⟩ := h.2 (by omega)
  refine ⟨ad, e, hx, fun j hj => ?_⟩
  rw [hc j (by omega)]
  simp [List.getD_eq_getElem?_getD, hj]
open Go.Proofs.Ytkjffielnmdpcaa.Ed Go.Proofs.Ytkjffielnmdpcaa.Wi Go.Proofs.Ytkjffielnmdpcaa.Wo Go.Proofs.Ytkjffielnmdpcaa.Sr in
set_option maxHeartbeats 16000000 in
set_option maxRecDepth 100000 in
theorem walk (a0 : Option Addr) (len0 cap0 : Nat) (z0 : List Int) (w : World) (w0 : IsRow .i64 w a0 len0 cap0 z0) :
    Calls Try.prog 10 #[.slice a0 len0 cap0] w fun e w' => e = .returned (.bool true) ∧ Below w.heap.size w w' := by
  have AW : Hid (∀ W, Calls Try.prog 30 #[] W fun e w' => e = .returned (.bool true) ∧ Bel W w') := awake_any
  go_enter Try.func10, Try.ntmps10
  go_wp2_with fail
  go_at_call 14
  refine (new_any a0 len0 cap0 z0 w w0).mono ?_
  rintro e v1 ⟨q, rfl, hq, ho1, hb1⟩
  have HO := Lib.hid ho1
  have HBa : Hid (Bel w v1) := hb1
  clear ho1 hb1
  go_wp2_with fail
  go_at_call 25
  refine (some_any q _ HO.out).mono ?_
  rintro e v2 ⟨xa, xb, ya, yb, n, m, L, M, g, rfl, n1, n2, m1, m2, hxy, hcx, hcy, g0, g1, hox, hoy, lL, lM, sL, sM, ho2, hc2⟩
  have HBb : Hid (Bel w v2) := Bel.ch HBa.out hc2 (by have := hq;  omega)
  have zx : Zi v2 (some ⟨xa, 0, none⟩) n L := own_zi hox lL
  have zy : Zi v2 (some ⟨ya, 0, none⟩) m M := own_zi hoy lM
  have hxv := hox.lt xa rfl
  have hyv := hoy.lt ya rfl
  have HOX := Lib.hid hox
  have HOY := Lib.hid hoy
  clear ho2 hc2 hox hoy
  have cx : (n : Int) ≤ (xb : Int) := by omega
  have cy : (m : Int) ≤ (yb : Int) := by omega
  rcases Int.lt_or_le 5 (n : Int) with hn | hn
  · have cx5 : 5 ≤ xb := by omega
    have cx6 : (5 : Int) ≤ (xb : Int) := by omega
    rcases Int.lt_or_le 5 (m : Int) with hm | hm
    · have cy5 : 5 ≤ yb := by omega
      have cy6 : (5 : Int) ≤ (yb : Int) := by omega
      have D1 : Hid (∀ W, Bel v2 W → _) := fun W hW => distance_ok (some ⟨xa, 0, none⟩) (some ⟨ya, 0, none⟩) xb yb 5 5 (L.take 5) (M.take 5) g (by omega) (by omega) (by omega) (by omega) g0 g1 (sL.take _) (sM.take _) W ((zi_take zx (by omega)).bel hW) ((zi_take zy (by omega)).bel hW)
      have AL : Hid (∀ W, Bel v2 W → Calls Try.prog 31 #[.slice (some ⟨xa, 0, none⟩) 5 xb, .slice (some ⟨ya, 0, none⟩) 5 yb, .int .i64 g, .int .i64 0, .int .i64 0] W fun e w' => e = .returned (.int .i64 (et (L.take 5) (M.take 5) g 5 5)) ∧ Bel W w') := fun W hW => by
        have lx : (L.take 5).length = 5 := by rw [List.length_take]; omega
        have ly : (M.take 5).length = 5 := by rw [List.length_take]; omega
        have h := all_ok (some ⟨xa, 0, none⟩) (some ⟨ya, 0, none⟩) xb yb 5 5 (L.take 5) (M.take 5) g (by omega) (by omega) g0 g1 (sL.take _) (sM.take _) lx ly _ 0 0 (by omega) (by omega) rfl W ((zi_take zx (by omega)).bel hW) ((zi_take zy (by omega)).bel hW)
        rw [rt_all, lx, ly] at h
        exact h
      obtain ⟨a, ha⟩ : ∃ a, et (L.take 5) (M.take 5) g 5 5 = a := ⟨_, rfl⟩
      rw [ha] at D1 AL
      have HLET := Lib.hid ha
      have k1 : (a == a) = true := by simp
      clear ha zx zy w0 lL lM sL sM
      go_wp2
      go_region
      all_goals
        go_wp2_with fail
        go_at_call 26
        refine (D1.out _ (by first | exact Bel.rf | exact Bel.rf.drw | exact Bel.rf.drwN _)).mono ?_
        rintro e p1 ⟨rfl, hb⟩
        have HP1 : Hid (Bel v2 p1) := (by first | exact hb | exact Bel.rf.drw.tr hb | exact (Bel.rf.drwN _).tr hb)
        clear hb
        go_wp2_with fail
        go_at_call 31
        refine (AL.out _ HP1.out).mono ?_
        rintro e p2 ⟨rfl, hb⟩
        have HP2 := Lib.hid (HP1.out.tr hb)
        clear hb
        go_wp2_with (go_at_call 30; refine (AW.out _).mono ?_; rintro e w9 ⟨rfl, hb9⟩)
        go_ret
        exact ⟨rfl, ((HBb.out.tr HP2.out).tr hb9).bl⟩
    · skip
      have D1 : Hid (∀ W, Bel v2 W → _) := fun W hW => distance_ok (some ⟨xa, 0, none⟩) (some ⟨ya, 0, none⟩) xb yb 5 m (L.take 5) (M.take m) g (by omega) (by omega) (by omega) (by omega) g0 g1 (sL.take _) (sM.take _) W ((zi_take zx (by omega)).bel hW) ((zi_take zy (by omega)).bel hW)
      have AL : Hid (∀ W, Bel v2 W → Calls Try.prog 31 #[.slice (some ⟨xa, 0, none⟩) 5 xb, .slice (some ⟨ya, 0, none⟩) m yb, .int .i64 g, .int .i64 0, .int .i64 0] W fun e w' => e = .returned (.int .i64 (et (L.take 5) (M.take m) g 5 m)) ∧ Bel W w') := fun W hW => by
        have lx : (L.take 5).length = 5 := by rw [List.length_take]; omega
        have ly : (M.take m).length = m := by rw [List.length_take]; omega
        have h := all_ok (some ⟨xa, 0, none⟩) (some ⟨ya, 0, none⟩) xb yb 5 m (L.take 5) (M.take m) g (by omega) (by omega) g0 g1 (sL.take _) (sM.take _) lx ly _ 0 0 (by omega) (by omega) rfl W ((zi_take zx (by omega)).bel hW) ((zi_take zy (by omega)).bel hW)
        rw [rt_all, lx, ly] at h
        exact h
      obtain ⟨a, ha⟩ : ∃ a, et (L.take 5) (M.take m) g 5 m = a := ⟨_, rfl⟩
      rw [ha] at D1 AL
      have HLET := Lib.hid ha
      have k1 : (a == a) = true := by simp
      clear ha zx zy w0 lL lM sL sM
      go_wp2
      go_region
      all_goals
        go_wp2_with fail
        go_at_call 26
        refine (D1.out _ (by first | exact Bel.rf | exact Bel.rf.drw | exact Bel.rf.drwN _)).mono ?_
        rintro e p1 ⟨rfl, hb⟩
        have HP1 : Hid (Bel v2 p1) := (by first | exact hb | exact Bel.rf.drw.tr hb | exact (Bel.rf.drwN _).tr hb)
        clear hb
        go_wp2_with fail
        go_at_call 31
        refine (AL.out _ HP1.out).mono ?_
        rintro e p2 ⟨rfl, hb⟩
        have HP2 := Lib.hid (HP1.out.tr hb)
        clear hb
        go_wp2_with (go_at_call 30; refine (AW.out _).mono ?_; rintro e w9 ⟨rfl, hb9⟩)
        go_ret
        exact ⟨rfl, ((HBb.out.tr HP2.out).tr hb9).bl⟩
  · have hm : (m : Int) ≤ 5 := by omega
    have D1 : Hid (∀ W, Bel v2 W → _) := fun W hW => distance_ok (some ⟨xa, 0, none⟩) (some ⟨ya, 0, none⟩) xb yb n m (L.take n) (M.take m) g (by omega) (by omega) (by omega) (by omega) g0 g1 (sL.take _) (sM.take _) W ((zi_take zx (by omega)).bel hW) ((zi_take zy (by omega)).bel hW)
    have AL : Hid (∀ W, Bel v2 W → Calls Try.prog 31 #[.slice (some ⟨xa, 0, none⟩) n xb, .slice (some ⟨ya, 0, none⟩) m yb, .int .i64 g, .int .i64 0, .int .i64 0] W fun e w' => e = .returned (.int .i64 (et (L.take n) (M.take m) g n m)) ∧ Bel W w') := fun W hW => by
      have lx : (L.take n).length = n := by rw [List.length_take]; omega
      have ly : (M.take m).length = m := by rw [List.length_take]; omega
      have h := all_ok (some ⟨xa, 0, none⟩) (some ⟨ya, 0, none⟩) xb yb n m (L.take n) (M.take m) g (by omega) (by omega) g0 g1 (sL.take _) (sM.take _) lx ly _ 0 0 (by omega) (by omega) rfl W ((zi_take zx (by omega)).bel hW) ((zi_take zy (by omega)).bel hW)
      rw [rt_all, lx, ly] at h
      exact h
    obtain ⟨a, ha⟩ : ∃ a, et (L.take n) (M.take m) g n m = a := ⟨_, rfl⟩
    rw [ha] at D1 AL
    have HLET := Lib.hid ha
    have k1 : (a == a) = true := by simp
    clear ha zx zy w0 lL lM sL sM
    go_wp2
    go_region
    all_goals
      go_wp2_with fail
      go_at_call 26
      refine (D1.out _ (by first | exact Bel.rf | exact Bel.rf.drw | exact Bel.rf.drwN _)).mono ?_
      rintro e p1 ⟨rfl, hb⟩
      have HP1 : Hid (Bel v2 p1) := (by first | exact hb | exact Bel.rf.drw.tr hb | exact (Bel.rf.drwN _).tr hb)
      clear hb
      go_wp2_with fail
      go_at_call 31
      refine (AL.out _ HP1.out).mono ?_
      rintro e p2 ⟨rfl, hb⟩
      have HP2 := Lib.hid (HP1.out.tr hb)
      clear hb
      go_wp2_with (go_at_call 30; refine (AW.out _).mono ?_; rintro e w9 ⟨rfl, hb9⟩)
      go_ret
      exact ⟨rfl, ((HBb.out.tr HP2.out).tr hb9).bl⟩

set_option maxRecDepth 100000 in
theorem lifted (os : Os) (started : os.Started) (H : Type) (enc : TypeId × Value → H) :
    ReturnsInHanded {} Try.checked os 10 .any (Rows.editAllSpec.pre6 enc Try.prog Try.f10 Rows.editAllRow.domain false) (Rows.editAllSpec.post enc Try.prog Try.f10 false true false false) := by
  refine returnsInHanded_of_change (C := Try.checked) own started (by kernel_rfl) Try.func10
    (ChangeSpec.witness6 (enc := enc) (C := Try.checked) false ⟨#[], #[.slice none 0 0], []⟩ 8 (by kernel_rfl) (by kernel_rfl) (by kernel_rfl) (by kernel_rfl)) ?_
  intro W base args ds gs before hval0 hW hcnd _
  have hval : ∀ (j : Nat) t v, Try.f10.params[j]? = some t → args[j]? = some v → Value.okWide Try.prog W .any base t v := hval0
  have hW' := hW
  obtain ⟨p, q, hA0, hV, rfl, hfz, hnd⟩ := hW
  have hA : DataW.TrodAll enc Try.prog W 0 (fun _ => true) true Try.f10.params.toList args.toList ds p := hA0
  rw [Try.params10] at hA hval
  obtain ⟨v0, vs0, d0, ds0, p0, q0, hargs, rfl, rfl, h0, r0⟩ := trodAll_cons hA
  obtain ⟨rfl, rfl, rfl⟩ := trodAll_nil r0
  obtain rfl : args = #[v0] := by cases args; simp_all
  obtain ⟨rfl, rfl⟩ := trodVars_none hV
  obtain ⟨a0, len0, cap0, rfl⟩ := okWide_slice Try.underlying22 (hval 0 22 v0 rfl rfl)
  have k0 := h0
  have lt0 : ∀ x ∈ p0, x.block < W.heap.size := by obtain ⟨m, hm⟩ := k0; exact DataW.trod_lt m _ _ _ hm
  obtain ⟨z0, w0⟩ : ∃ zs, IsRow .i64 W a0 len0 cap0 zs := by
    obtain ⟨fuel, hf⟩ := h0
    rcases open_ints Try.underlying22 Try.underlying3 (by kernel_rfl) hf with ⟨hcs, _⟩ | ⟨x, l, c, zs, hcs, _, hl, hm, hz, _, hcell, hwz⟩
    · simp [Value.cells] at hcs
      obtain ⟨rfl, rfl, rfl⟩ := hcs
      exact ⟨[], .inl ⟨rfl, rfl, rfl, rfl⟩⟩
    · simp [Value.cells] at hcs
      obtain ⟨rfl, rfl, rfl⟩ := hcs
      exact ⟨zs, .inr ⟨_, rfl, hl, hm, by simpa using hz, hcell, hwz⟩⟩
  clear hA0 hval0
  refine (walk a0 len0 cap0 z0 W w0).mono fun e W' ⟨he, bel⟩ => ?_
  subst he
  exact ⟨_, rfl, _, _, _, [], _, [], hW', trodAll_mk1 (shut_bool Try.underlying4 _), (trodAll_cons_mk (Below.trod laidOut (by kernel_rfl) (of_decide_eq_true (by kernel_rfl)) k0 bel lt0) trodAll_mk0), rfl, bel.frame _, fun h => by cases h⟩

theorem over : Rows.editAllRow.holds Try.pinned (OpenSpec.ofChange Rows.editAllSpec) :=
  OpenClaim.holds_of_wide 10 Try.f10 rfl rfl rfl rfl rfl rfl rfl ⟨rfl, rfl, rfl, rfl, rfl⟩ rfl rfl rfl rfl rfl (by kernel_rfl) Try.func10 (by kernel_rfl)
    (of_decide_eq_true (by kernel_rfl)) (by unfold Func.isWrapper; first | (rw [if_pos (by decide +kernel)]; kernel_rfl) | (rw [if_neg (by decide +kernel)]; exact ⟨rfl, rfl⟩))
    (fun os started H enc _ => lifted os started H enc)

theorem proved : Rows.EditAllSaid := over
end Go.Proofs.Ytkjffielnmdpcaa.editAll
