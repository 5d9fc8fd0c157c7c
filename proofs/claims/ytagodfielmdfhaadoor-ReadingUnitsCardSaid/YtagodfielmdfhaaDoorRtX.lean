/- reading.Parse's deferred function. -/
import Derived.Test.YtagodfielmdfhaaDoorRtI
import Derived.Tactics2
import Derived.Defers
import Derived.Recover
import Derived.Laws.Pointers
import Derived.RegionTactic
namespace Go.Proofs.YtagodfielmdfhaaDoor.Rt
open Go.ChangeShapes Go.WideShapes Go.RowKit Wo Un Rg Go.MapKept Sr
open Rm (Rp tm vl)
set_option linter.unusedVariables false
def thrown (n er : Int) (r : Bool) : PanicEntry := { v := .iface 48 (.agg #[.int .i64 n, .int .i64 er]), recovered := r }
theorem assert_fault (v : Value) (w : World) : (Instr.typeAssert (.iface 48 v) 20 48 true).run Tryd.prog w = .ok (.tuple #[v, .bool true]) w := by
  unfold Instr.typeAssert
  simp [Sem.run_bind, run_underlying Tryd.underlying48, Result.andThen]
def CW (b : Nat) (n er : Int) (v0 l0 e0 : Value) (w : World) (x1 x2 x3 : Bool) (W : World) : Prop :=
  Bk W b 33 #[if x1 = true then .slice none 0 0 else v0] ∧ Bk W (b + 1) 3 #[if x2 = true then .int .i64 n else l0] ∧ Bk W (b + 2) 28 #[if x3 = true then .int .i64 er else e0] ∧ Below b w W
variable {b : Nat} {n er : Int} {v0 l0 e0 : Value} {w W : World} {x1 x2 x3 : Bool}
theorem cw_in (h1 : Bk w b 33 #[v0]) (h2 : Bk w (b + 1) 3 #[l0]) (h3 : Bk w (b + 2) 28 #[e0]) : CW b n er v0 l0 e0 w false false false w := ⟨h1, h2, h3, Below.refl _ _⟩
theorem cw_out (h : CW b n er v0 l0 e0 w true true true W) : Bk W b 33 #[.slice none 0 0] ∧ Bk W (b + 1) 3 #[.int .i64 n] ∧ Bk W (b + 2) 28 #[.int .i64 er] ∧ Below b w W := h
theorem cw_drw (h : CW b n er v0 l0 e0 w x1 x2 x3 W) : CW b n er v0 l0 e0 w x1 x2 x3 W.drew := ⟨h.1.drw, h.2.1.drw, h.2.2.1.drw, Below.drew h.2.2.2⟩
theorem cw_al {o : Obj} (h : CW b n er v0 l0 e0 w x1 x2 x3 W) : CW b n er v0 l0 e0 w x1 x2 x3 (W.alloc o) := ⟨h.1.al _, h.2.1.al _, h.2.2.1.al _, Below.alloc h.2.2.2 (by have := h.1.lt; omega) _⟩
theorem cw_1 (h : CW b n er v0 l0 e0 w x1 x2 x3 W) : CW b n er v0 l0 e0 w true x2 x3 (W.setCell ⟨b, 0, none⟩ (.slice none 0 0)) := ⟨h.1.st 0 _, h.2.1.far (by show b + 1 ≠ b; omega) _, h.2.2.1.far (by show b + 2 ≠ b; omega) _, Below.setCell h.2.2.2 (by show b ≤ b; omega) _⟩
theorem cw_2 (h : CW b n er v0 l0 e0 w x1 x2 x3 W) : CW b n er v0 l0 e0 w x1 true x3 (W.setCell ⟨b + 1, 0, none⟩ (.int .i64 n)) := ⟨h.1.far (by show b ≠ b + 1; omega) _, h.2.1.st 0 _, h.2.2.1.far (by show b + 2 ≠ b + 1; omega) _, Below.setCell h.2.2.2 (by show b ≤ b + 1; omega) _⟩
theorem cw_3 (h : CW b n er v0 l0 e0 w x1 x2 x3 W) : CW b n er v0 l0 e0 w x1 x2 true (W.setCell ⟨b + 2, 0, none⟩ (.int .i64 er)) := ⟨h.1.far (by show b ≠ b + 2; omega) _, h.2.1.far (by show b + 1 ≠ b + 2; omega) _, h.2.2.1.st 0 _, Below.setCell h.2.2.2 (by show b ≤ b + 2; omega) _⟩
theorem st1 {w : World} {g : Nat} {t : TypeId} {a u : Value} (h : Bk w g t #[a]) : Bk (w.setCell ⟨g, 0, none⟩ u) g t #[u] := h.st 0 u
theorem wpS_by {P : Program} {c : Code} {Q : Exit → Act → List Frame → World → Prop} {a : Act} {cs : List Frame} {w : World} (K : Exit → Act → World → Prop) (h : ∀ K', K' = K → c.wp P K' a w) (hK : ∀ e a' w', K e a' w' → Q e a' cs w') : c.wpS P Q a cs w :=
  fun b k _ _ => let ⟨e, a', w', q, r⟩ := h K rfl b k cs; ⟨e, a', cs, w', hK _ _ _ q, r⟩
theorem catch_idle (p q r : Option Addr) (w : World) :
    CallsD Tryd.prog 16 #[.pointer p, .pointer q, .pointer r] .returning w fun e u' w' => e = .returned (.tuple #[]) ∧ u' = .returning ∧ w' = w := by
  refine callsD_of_wpS Tryd.func16 rfl fun c₀ cs hu => ?_
  apply wpS_seq
  apply wpS_region
  simp [wpOpsS, go_sem, recoverD, hu, Tryd.ntmps16, Exit.thenS]
  apply wpS_seq
  apply wpS_region
  simp [wpOpsS, go_sem, recoverD, hu, Exit.thenS]
  refine wpS_cond (t := false) (by simp [Act.eval, Array.replicate]) ?_
  simp only [Bool.false_eq_true, if_false]
  refine wpS_of_wp (wp_skip ?_)
  cases c₀
  simp_all [bodyPostS, results, Tryd.results16]
set_option maxHeartbeats 1000000 in
theorem catch_thrown (h1 : Bk w b 33 #[v0]) (h2 : Bk w (b + 1) 3 #[l0]) (h3 : Bk w (b + 2) 28 #[e0]) :
    CallsD Tryd.prog 16 #[.pointer (some ⟨b, 0, none⟩), .pointer (some ⟨b + 1, 0, none⟩), .pointer (some ⟨b + 2, 0, none⟩)] (.panicking (thrown n er false :: [])) w fun e u' w' =>
      e = .returned (.tuple #[]) ∧ u' = .panicking (thrown n er true :: []) ∧ Bk w' b 33 #[.slice none 0 0] ∧ Bk w' (b + 1) 3 #[.int .i64 n] ∧ Bk w' (b + 2) 28 #[.int .i64 er] ∧ Below b w w' := by
  refine callsD_of_wpS Tryd.func16 rfl fun c₀ cs hu => ?_
  apply wpS_seq
  apply wpS_region
  simp [wpOpsS, go_sem, recoverD, hu, thrown, Tryd.ntmps16, Exit.thenS]
  have kta := assert_fault (.agg #[.int .i64 n, .int .i64 er]) w
  apply wpS_seq
  apply wpS_region
  simp [wpOpsS, go_sem, Exit.thenS]
  refine wpS_cond (t := true) (by simp [Act.eval, Array.replicate]) ?_
  simp only [if_true]
  apply wpS_seq
  apply wpS_region
  simp [wpOpsS, go_sem, kta, Exit.thenS]
  apply wpS_seq
  apply wpS_seq
  apply wpS_region
  simp [wpOpsS, go_sem, Exit.thenS]
  refine wpS_cond (t := false) (by simp [Act.eval, Array.replicate]) ?_
  simp only [Bool.false_eq_true, if_false]
  refine wpS_of_wp (wp_skip ?_)
  simp only [Exit.thenS]
  refine wpS_by (fun e a' w' => (e = .normal ∨ e = .ret) ∧ a'.defers = [] ∧ Bk w' b 33 #[.slice none 0 0] ∧ Bk w' (b + 1) 3 #[.int .i64 n] ∧ Bk w' (b + 2) 28 #[.int .i64 er] ∧ Below b w w') ?_ ?_
  · intro K' hK'
    subst hK'
    clear hu kta
    have s1 := h1.lt
    have s2 := h2.lt
    have s3 := h3.lt
    have HCW : Hid (CW b n er v0 l0 e0 w false false false w) := cw_in h1 h2 h3
    have c1 : w.cell? ⟨b, 0, none⟩ = some v0 := by rw [h1.cell]; rfl
    have c2 : w.cell? ⟨b + 1, 0, none⟩ = some l0 := by rw [h2.cell]; rfl
    have c3 : w.cell? ⟨b + 2, 0, none⟩ = some e0 := by rw [h3.cell]; rfl
    have f1 := h1.fr 0
    have f2 := h2.fr 0
    have f3 := h3.fr 0
    clear h1 h2 h3
    go_region
    all_goals
      refine ⟨.inl rfl, rfl, cw_out (v0 := v0) (l0 := l0) (e0 := e0) ?_⟩
      repeat (first | (with_reducible refine cw_drw ?_) | (with_reducible refine cw_al ?_))
      first
        | exact cw_3 (cw_2 (cw_1 HCW.out))
        | exact cw_3 (cw_1 (cw_2 HCW.out))
        | exact cw_2 (cw_3 (cw_1 HCW.out))
        | exact cw_2 (cw_1 (cw_3 HCW.out))
        | exact cw_1 (cw_3 (cw_2 HCW.out))
        | exact cw_1 (cw_2 (cw_3 HCW.out))
  · rintro e a' w' ⟨he, hd, hx⟩
    rcases he with rfl | rfl
    · exact ⟨hd, _, rfl, .tuple #[], by simp [results, Tryd.results16], rfl, rfl, hx⟩
    · exact ⟨hd, _, rfl, .tuple #[], by simp [results, Tryd.results16], rfl, rfl, hx⟩
end Go.Proofs.YtagodfielmdfhaaDoor.Rt
