/- word.interval. -/
import Derived.Test.YtgdhgeongdenpaaWd1
namespace Go.Proofs.Ytgdhgeongdenpaa.Wd
open Go.ChangeShapes Go.WideShapes Go.RowKit Wo Sr Wi Ms
set_option linter.unusedVariables false
set_option linter.unusedSimpArgs false
theorem results_i {fn : Func} {p : Tmp} (h : fn.results = #[.cell p 45]) (tmps : Array Value) (w : World) (g : Nat) (a b : Value)
    (hp : tmps.getD p undef = .pointer (some ⟨g, 0, none⟩)) (hg : Bk w g 45 #[a, b]) : (results fn tmps).run Try.prog w = .ok (.agg #[a, b]) w := by
  have hp' : tmps[p]?.getD undef = .pointer (some ⟨g, 0, none⟩) := by simpa using hp
  have hl := run_loadVar_row (P := Try.prog) w g 45 45 #[a, b] (0, 0) _ hg Try.underlying45 rfl (by kernel_rfl)
  simp [results, h, hp', asAddr, hl]
/-- the value of an interval -/
def Iv (p : Int × Int) : Value := .agg #[.int .i64 p.1, .int .i64 p.2]
set_option maxHeartbeats 8000000 in
set_option maxRecDepth 100000 in
theorem interval_ok (A : Option Addr) (nc cc : Nat) (C : List Int) (hC : Cv C) (f t : Nat) (f15 : f ≤ 15) (t15 : t ≤ 15) (w : World) (hz : Zi w A nc C) :
    Calls Try.prog 53 #[.slice A nc cc, .int .i64 (f : Int), .int .i64 (t : Int)] w fun e w' => e = .returned (Iv (ivl C f t)) ∧ Bel w w' := by
  have hl := hz.1
  have fi : (f : Int) ≤ 15 := by omega
  have ti : (t : Int) ≤ 15 := by omega
  have f0 : (0 : Int) ≤ (f : Int) := by omega
  have t0 : (0 : Int) ≤ (t : Int) := by omega
  rcases Nat.lt_or_ge nc f with h1 | h1
  · have e : ivl C f t = (1, 0) := by unfold ivl; rw [hl, if_pos h1]
    rw [e]
    have d1 : (nc : Int) < (f : Int) := by omega
    clear hz hl hC e
    go_enter Try.func53, Try.ntmps53
    go_wp2
    exact bodyPost_ret (v := .agg #[.int .i64 1, .int .i64 0]) (results_i Try.results53 _ _ w.heap.size _ _ rfl (by repeat (first | (refine Bk.nq _ _ _ ?_; simp; done) | (with_reducible refine Bk.drwN ?_ _) | (with_reducible refine Bk.drw ?_) | (with_reducible refine Bk.al ?_ _)))) rfl ⟨rfl, (by repeat (first | exact Bel.rf | (with_reducible refine Bel.drwN ?_ _) | (with_reducible refine Bel.drw ?_) | (with_reducible refine Bel.al ?_ _)))⟩
  · have n1 : ¬ (nc : Int) < (f : Int) := by omega
    have hcs : ∀ i, i < nc → ∃ ad, A = some ad ∧ w.cell? (ad.add i) = some (.int .i64 (C.getD i 0)) ∧ -2000 ≤ C.getD i 0 ∧ C.getD i 0 ≤ 2000 := fun i hi => by
      obtain ⟨ad, e, _, hc⟩ := hz.2 (by omega)
      have := hC.2.1 i (by omega)
      exact ⟨ad, e, hc i hi, this.1, this.2⟩
    have HCS := Lib.hid hcs
    have HK : ∀ o, ∀ p v, w.cell? p = some v → (w.alloc o).cell? p = some v := fun o p v h => (Bel.rf.al o).kp h
    have HKK := Lib.hid HK
    clear hcs hz hC HK
    rcases Nat.eq_zero_or_pos f with hf | hf
    · subst hf
      rcases Nat.lt_or_ge t nc with h2 | h2
      · obtain ⟨ad, e, hc, x1, x2⟩ := HCS.out t h2
        subst e
        have e : ivl C 0 t = (-1099511627776, C.getD t 0 - 1) := by unfold ivl; rw [hl, if_neg (by omega), if_neg (by omega), if_pos h2]
        rw [e]
        obtain ⟨x, hx⟩ : ∃ x, C.getD t 0 = x := ⟨_, rfl⟩
        rw [hx] at hc x1 x2 ⊢
        have c1 := fun o => HKK.out o _ _ hc
        have c2 := fun o o' => (Bel.rf.al o').kp (c1 o)
        have hti : (t : Int) < (nc : Int) := by omega
        clear e hl hx
        go_enter Try.func53, Try.ntmps53
        go_wp2
        exact bodyPost_ret (v := .agg #[.int .i64 (-1099511627776), .int .i64 (x - 1)]) (results_i Try.results53 _ _ w.heap.size _ _ rfl (by repeat (first | (refine Bk.nq _ _ _ ?_; simp; done) | (with_reducible refine Bk.drwN ?_ _) | (with_reducible refine Bk.drw ?_) | (with_reducible refine Bk.al ?_ _)))) rfl ⟨rfl, (by repeat (first | exact Bel.rf | (with_reducible refine Bel.drwN ?_ _) | (with_reducible refine Bel.drw ?_) | (with_reducible refine Bel.al ?_ _)))⟩
      · have e : ivl C 0 t = (-1099511627776, 1099511627776) := by unfold ivl; rw [hl, if_neg (by omega), if_neg (by omega), if_neg (by omega)]
        rw [e]
        have hti : ¬ (t : Int) < (nc : Int) := by omega
        clear e hl
        go_enter Try.func53, Try.ntmps53
        go_wp2
        exact bodyPost_ret (v := .agg #[.int .i64 (-1099511627776), .int .i64 1099511627776]) (results_i Try.results53 _ _ w.heap.size _ _ rfl (by repeat (first | (refine Bk.nq _ _ _ ?_; simp; done) | (with_reducible refine Bk.drwN ?_ _) | (with_reducible refine Bk.drw ?_) | (with_reducible refine Bk.al ?_ _)))) rfl ⟨rfl, (by repeat (first | exact Bel.rf | (with_reducible refine Bel.drwN ?_ _) | (with_reducible refine Bel.drw ?_) | (with_reducible refine Bel.al ?_ _)))⟩
    · obtain ⟨q, rfl⟩ : ∃ q, f = q + 1 := ⟨f - 1, by omega⟩
      obtain ⟨ad, e, hc, y1, y2⟩ := HCS.out q (by omega)
      subst e
      obtain ⟨y, hy⟩ : ∃ x, C.getD q 0 = x := ⟨_, rfl⟩
      rw [hy] at hc y1 y2
      have c1 := fun o => HKK.out o _ _ hc
      have c2 := fun o o' => (Bel.rf.al o').kp (c1 o)
      have qf : ((q + 1 : Nat) : Int) - 1 = (q : Int) := by omega
      obtain ⟨F, hF⟩ : ∃ F : Int, ((q + 1 : Nat) : Int) = F := ⟨_, rfl⟩
      have qq : F - 1 = (q : Int) := by omega
      have F0 : (0 : Int) < F := by omega
      have nF : ¬ (nc : Int) < F := by omega
      have qi : (q : Int) < (nc : Int) := by omega
      have qi0 : (0 : Int) ≤ (q : Int) := by omega
      have wq : IntKind.i64.wrap (F - 1) = (q : Int) := by rw [qq]; exact IntWalk.i64_in _ (by omega)
      have wq2 : wrap64 (F - 1) = (q : Int) := by rw [qq]; exact IntWalk.wrap64_in _ (by omega)
      rw [hF] at n1 fi f0 ⊢
      have hy2 : C.getD (q + 1 - 1) 0 = y := by rw [Nat.add_sub_cancel]; exact hy
      rcases Nat.lt_or_ge t nc with h2 | h2
      · obtain ⟨ad2, e, hd, x1, x2⟩ := HCS.out t h2
        cases e
        have e : ivl C (q + 1) t = (y, C.getD t 0 - 1) := by unfold ivl; rw [hl, if_neg (by omega), if_pos (by omega), if_pos h2, hy2]
        rw [e]
        obtain ⟨x, hx⟩ : ∃ x, C.getD t 0 = x := ⟨_, rfl⟩
        rw [hx] at hd x1 x2 ⊢
        have d1 := fun o => HKK.out o _ _ hd
        have d2 := fun o o' => (Bel.rf.al o').kp (d1 o)
        have hti : (t : Int) < (nc : Int) := by omega
        clear e hl hx hy hy2 hF qf qq h1 HCS HKK
        go_enter Try.func53, Try.ntmps53
        go_wp2
        exact bodyPost_ret (v := .agg #[.int .i64 y, .int .i64 (x - 1)]) (results_i Try.results53 _ _ w.heap.size _ _ rfl (by repeat (first | (refine Bk.nq _ _ _ ?_; simp; done) | (with_reducible refine Bk.drwN ?_ _) | (with_reducible refine Bk.drw ?_) | (with_reducible refine Bk.al ?_ _)))) rfl ⟨rfl, (by repeat (first | exact Bel.rf | (with_reducible refine Bel.drwN ?_ _) | (with_reducible refine Bel.drw ?_) | (with_reducible refine Bel.al ?_ _)))⟩
      · have e : ivl C (q + 1) t = (y, 1099511627776) := by unfold ivl; rw [hl, if_neg (by omega), if_pos (by omega), if_neg (by omega), hy2]
        rw [e]
        have hti : ¬ (t : Int) < (nc : Int) := by omega
        clear e hl hy hy2 hF qf qq h1 HCS HKK
        go_enter Try.func53, Try.ntmps53
        go_wp2
        exact bodyPost_ret (v := .agg #[.int .i64 y, .int .i64 1099511627776]) (results_i Try.results53 _ _ w.heap.size _ _ rfl (by repeat (first | (refine Bk.nq _ _ _ ?_; simp; done) | (with_reducible refine Bk.drwN ?_ _) | (with_reducible refine Bk.drw ?_) | (with_reducible refine Bk.al ?_ _)))) rfl ⟨rfl, (by repeat (first | exact Bel.rf | (with_reducible refine Bel.drwN ?_ _) | (with_reducible refine Bel.drw ?_) | (with_reducible refine Bel.al ?_ _)))⟩
end Go.Proofs.Ytgdhgeongdenpaa.Wd
