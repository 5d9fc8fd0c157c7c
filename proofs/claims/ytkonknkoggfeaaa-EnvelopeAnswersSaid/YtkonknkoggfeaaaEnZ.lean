/- envelope and the reference of layer 20 return the same, of any arguments. (mkem.py) -/
import Derived.Test.YtkonknkoggfeaaaEnY
import Derived.Test.YtkonknkoggfeaaaR18b
namespace Go.Proofs.Ytkonknkoggfeaaa.Ev
open Go.ChangeShapes Go.WideShapes Go.RowKit Wo Sr Wi Eu Say Pc Ra
set_option linter.unusedVariables false
/-- a ratio of this value -/
def SomeV (T C : Int) (w : World) (e : Ending) (w' : World) : Prop := ∃ t u, e = .returned (.agg #[.int .i64 t, .int .i64 u]) ∧ Vl t u T C ∧ Bel w w'
theorem results_r1 {fn : Func} {p : Tmp} (h : fn.results = #[.cell p 39]) (tmps : Array Value) (w : World) (g : Nat) (a b : Value)
    (hp : tmps.getD p undef = .pointer (some ⟨g, 0, none⟩)) (hg : Bk w g 39 #[a, b]) :
    (results fn tmps).run Try.prog w = .ok (.agg #[a, b]) w := by
  have hp' : tmps[p]?.getD undef = .pointer (some ⟨g, 0, none⟩) := by simpa using hp
  have hl := run_loadVar_row (P := Try.prog) w g 39 39 #[a, b] (0, 0) _ hg Try.underlying39 rfl (by kernel_rfl)
  simp [results, h, hp', asAddr, hl]
theorem pls_sam_bd {X : List Int} {m p : Nat} (hs : Sam X) (m2 : m ≤ 32) (p1 : 1 ≤ p) (k : Nat) (hk : k < p) : -32000 ≤ (pls X m p).getD k 0 ∧ (pls X m p).getD k 0 ≤ 32000 := pls_in hs m2 p1 k hk
set_option maxHeartbeats 8000000 in
set_option maxRecDepth 100000 in
theorem against_ok (A : Option Addr) (c n m p hp cp ha ca : Nat) (L M : List Int) (b : Int) (n1 : 2 ≤ n) (n2 : n ≤ 32) (m1 : 2 ≤ m) (m2 : m ≤ 32) (b0 : 0 ≤ b) (b32 : b ≤ 32) (bm : (m : Int) - (n : Int) ≤ b) (bn : (n : Int) - (m : Int) ≤ b) (p1 : 1 ≤ p) (p8 : p ≤ 8) (pm : p ≤ m) (hs : Sam L) (ht : Sam M) (w : World) (h1 : Zi w A n L) (h2 : Zi w (some ⟨hp, 0, none⟩) p (pls M m p)) (h3 : Zi w (some ⟨ha, 0, none⟩) (p + 1) (sts m p)) :
    Calls Try.prog 38 #[.slice A n c, .int .i64 b, .slice (some ⟨hp, 0, none⟩) p cp, .slice (some ⟨hp, 0, none⟩) p cp, .slice (some ⟨ha, 0, none⟩) (p + 1) ca] w (SomeV (tq (fun k => (pp M (eus L b m) (els L b m) m p).getD k 0 * (pp M (eus L b m) (els L b m) m p).getD k 0 * wq (m / p) (st m p (k + 1) - st m p k)) p) (cq m p) w) := by
  have sU := eus_sam hs b m
  have sL := els_sam hs b m
  obtain ⟨U, hU⟩ : ∃ U, eus L b m = U := ⟨_, rfl⟩
  obtain ⟨Lo, hLo⟩ : ∃ U, els L b m = U := ⟨_, rfl⟩
  have OK1 : Hid (∀ W, Bel w W → _) := fun W hW => rof_good A c n m L b n1 n2 m1 m2 b0 b32 bm bn hs W (h1.bel hW)
  rw [hU, hLo] at OK1
  rw [hU] at sU
  rw [hLo] at sL
  rw [hU, hLo]
  have FU : Hid (∀ W gu cu, Bel w W → Zi W (some ⟨gu, 0, none⟩) m U → _) := fun W gu cu hW hz => R18.fold_ok ⟨gu, 0, none⟩ ha cu ca m p U m1 m2 p1 p8 sU W hz (h3.bel hW)
  have FL : Hid (∀ W gu cu, Bel w W → Zi W (some ⟨gu, 0, none⟩) m Lo → _) := fun W gu cu hW hz => R18.fold_ok ⟨gu, 0, none⟩ ha cu ca m p Lo m1 m2 p1 p8 sL W hz (h3.bel hW)
  have HIN := Lib.hid (fun k (hk : k < p) => And.intro (pls_in ht m2 p1 k hk) (And.intro (pls_in sU m2 p1 k hk) (pls_in sL m2 p1 k hk)))
  have hDi : ∀ k, k < p → 0 ≤ (pp M U Lo m p).getD k 0 ∧ (pp M U Lo m p).getD k 0 ≤ 64000 := fun k hk => pp_in ht sU sL m2 p1 k hk
  obtain ⟨D, hD⟩ : ∃ D, pp M U Lo m p = D := ⟨_, rfl⟩
  have HDL : Hid (D.length = p) := by show _ = _; rw [← hD, pp_len]
  have HDA : Hid (∀ k, k < p → D.getD k 0 = max (max 0 ((pls M m p).getD k 0 - (pls U m p).getD k 0)) ((pls Lo m p).getD k 0 - (pls M m p).getD k 0)) := fun k hk => by rw [← hD, pp_at _ _ _ _ _ _ hk]; rfl
  rw [hD] at hDi ⊢
  have bD : Bd 4096000 D := fun x hx => by
    obtain ⟨i, hi, rfl⟩ := List.getElem_of_mem hx
    have := hDi i (by rw [HDL.out] at hi; exact hi)
    rw [List.getD_eq_getElem?_getD, List.getElem?_eq_getElem hi, Option.getD_some] at this
    omega
  have QK : Hid (∀ W h' c', Bel w W → Zi W (some ⟨h', 0, none⟩) p D → _) := fun W h' c' hW z => R18.squares_ok h' ha c' ca m p D 1 m1 m2 p1 p8 pm bD (by decide) (by decide) W z (h3.bel hW)
  have H2 := Lib.hid h2
  have cn := h3.at p (by omega)
  rw [sts_at m p p p1 (Nat.le_refl p), st_all m p p1] at cn
  have nn1 : (p : Int) + 1 - 1 = (p : Int) := by omega
  have nn2 : ((p + 1 : Nat) : Int) - 1 = (p : Int) := by omega
  have pn1 : 1 ≤ (p : Int) := by omega
  have pn2 : (p : Int) ≤ 8 := by omega
  have wn1 : wrap64 (p : Int) = (p : Int) := IntWalk.wrap64_in _ (by omega)
  have wn2 : IntKind.i64.wrap (p : Int) = (p : Int) := IntWalk.i64_in _ (by omega)
  have HR0 : Hid (Bk (w.alloc (.cells #[.int .i64 0, .int .i64 0] 39)) w.heap.size 39 #[.int .i64 0, .int .i64 0]) := Bk.nw _ _ _
  have HB0 : Hid (Bel w (w.alloc (.cells #[.int .i64 0, .int .i64 0] 39))) := Bel.rf.al _
  have cnA : ∀ o, (w.alloc o).cell? ⟨ha, p, none⟩ = some (.int .i64 (m : Int)) := fun o => kp_al cn o
  clear h1 h2 h3 hs ht sU sL hU hLo hD hDi bD
  go_enter Try.func38, Try.ntmps38
  go_wp2_with fail
  go_at_call 10
  refine (OK1.out _ HB0.out).mono ?_
  rintro e w1 ⟨gu, cu, gl, cl, rfl, zu, zl, hb1⟩
  have HB1 := Lib.hid (HB0.out.tr hb1)
  have HR1 := Lib.hid (HR0.out.bel hb1)
  have ZU := Lib.hid zu
  have ZL := Lib.hid zl
  clear hb1 zu zl cn cnA
  go_wp2_with fail
  go_at_call 37
  refine (FU.out _ _ _ HB1.out ZU.out).mono ?_
  rintro e w2 ⟨hu, cu2, rfl, z2, hb2⟩
  have HB2 := Lib.hid (HB1.out.tr hb2)
  have HR2 := Lib.hid (HR1.out.bel hb2)
  have ZL2 := Lib.hid (ZL.out.bel hb2)
  have FU2 := Lib.hid (own_zi z2 (pls_len U m p))
  clear hb2 z2
  go_wp2_with fail
  go_at_call 37
  refine (FL.out _ _ _ HB2.out ZL2.out).mono ?_
  rintro e w3 ⟨hl, cl2, rfl, z3, hb3⟩
  have HB3 := Lib.hid (HB2.out.tr hb3)
  have HR3 := Lib.hid (HR2.out.bel hb3)
  have FU3 := Lib.hid (FU2.out.bel hb3)
  have FL3 := Lib.hid (own_zi z3 (pls_len Lo m p))
  clear hb3 z3
  go_wp2
  go_loopw [16, 39] (fun s16 s39 wr => ∃ (t : Nat) (V : World) (u : Value), V = wr ∧ u = s16 ∧ t ≤ p ∧ s39 = .int .i64 (t : Int) ∧ wr.ownsRow w3.heap.size 3 1 u t (zs (D.take t)) ∧ Bel w3 wr) (fun _ s39 _ => p - (intOf s39).toNat)
  case atStart => exact ⟨0, _, _, rfl, rfl, by omega, rfl, World.ownsRow_nil _ _ _ _, Bel.rf⟩
  case round =>
    obtain ⟨t, wr, u16, hwr, hu16, ht, rfl, hz, hb⟩ := hrel
    subst hwr hu16
    have HZ := Lib.hid hz
    have HB := Lib.hid hb
    have hsz := hb.size
    clear hz
    rcases Nat.lt_or_ge t p with hlt | hge
    · have ti : (t : Int) < (p : Int) := by omega
      have c1 := (H2.out.bel (HB3.out.tr hb)).at t hlt
      have c2 := (FU3.out.bel hb).at t hlt
      have c3 := (FL3.out.bel hb).at t hlt
      have hda := HDA.out t hlt
      obtain ⟨in1, in2, in3⟩ := HIN.out t hlt
      obtain ⟨x, hx⟩ : ∃ x, (pls M m p).getD t 0 = x := ⟨_, rfl⟩
      obtain ⟨y, hy⟩ : ∃ x, (pls U m p).getD t 0 = x := ⟨_, rfl⟩
      obtain ⟨z, hz⟩ : ∃ x, (pls Lo m p).getD t 0 = x := ⟨_, rfl⟩
      rw [hx] at c1 hda in1
      rw [hy] at c2 hda in2
      rw [hz] at c3 hda in3
      obtain ⟨d1, hd1⟩ : ∃ d, x - y = d := ⟨_, rfl⟩
      obtain ⟨d2, hd2⟩ : ∃ d, z - x = d := ⟨_, rfl⟩
      rw [hd1, hd2] at hda
      have wd1 : IntKind.i64.wrap d1 = d1 := IntWalk.i64_in _ (by omega)
      have wd2 : IntKind.i64.wrap d2 = d2 := IntWalk.i64_in _ (by omega)
      have wd3 : wrap64 d1 = d1 := IntWalk.wrap64_in _ (by omega)
      have wd4 : wrap64 d2 = d2 := IntWalk.wrap64_in _ (by omega)
      have HN : Hid (∀ v, max (max 0 d1) d2 = v → D.take (t + 1) = D.take t ++ [v]) := fun v hv => by rw [take_snoc _ t (by rw [HDL.out]; exact hlt), hda, hv]
      have cA1 : ∀ o, (wr.alloc o).cell? ⟨hp, t, none⟩ = some (.int .i64 x) := fun o => kp_al c1 o
      have cA2 : ∀ o, (wr.alloc o).cell? ⟨hu, t, none⟩ = some (.int .i64 y) := fun o => kp_al c2 o
      have cA3 : ∀ o, (wr.alloc o).cell? ⟨hl, t, none⟩ = some (.int .i64 z) := fun o => kp_al c3 o
      clear in1 in2 in3 hb
      go_wp2
      rcases (by omega : (0 < d1 ∧ d1 < d2) ∨ (0 < d1 ∧ ¬ d1 < d2) ∨ (¬ 0 < d1 ∧ 0 < d2) ∨ (¬ 0 < d1 ∧ ¬ 0 < d2)) with ⟨g1, g2⟩ | ⟨g1, g2⟩ | ⟨g1, g2⟩ | ⟨g1, g2⟩
      · have k1 : decide (0 < d1) = true := decide_eq_true g1
        have k2 : decide (d1 < d2) = true := decide_eq_true g2
        have k3 : max 0 d1 = d1 := by omega
        have k4 : max d1 d2 = d2 := by omega
        have KS : Hid (∀ W', Bel w3 W' → W'.cell? ⟨hp, t, none⟩ = some (.int .i64 x) ∧ W'.cell? ⟨hu, t, none⟩ = some (.int .i64 y) ∧ W'.cell? ⟨hl, t, none⟩ = some (.int .i64 z)) := fun W' h => ⟨by have := (H2.out.bel (HB3.out.tr h)).at t hlt; rwa [hx] at this, by have := (FU3.out.bel h).at t hlt; rwa [hy] at this, by have := (FL3.out.bel h).at t hlt; rwa [hz] at this⟩
        clear hx hy hz
        go_region_held3 (fun W' => W'.cell? ⟨hp, t, none⟩ = some (.int .i64 x) ∧ W'.cell? ⟨hu, t, none⟩ = some (.int .i64 y) ∧ W'.cell? ⟨hl, t, none⟩ = some (.int .i64 z)) (first | (refine KS.out _ (Bel.tr hbw ?_); (repeat (first | exact Bel.rf | (with_reducible refine Bel.drwN ?_ _) | (with_reducible refine Bel.drw ?_) | (with_reducible refine Bel.al ?_ _))); done) | (refine KS.out _ (Bel.tr HB.out ?_); (repeat (first | exact Bel.rf | (with_reducible refine Bel.drwN ?_ _) | (with_reducible refine Bel.drw ?_) | (with_reducible refine Bel.al ?_ _))); done))
          (first | (refine step_app _ rfl (.tmp 42) (.tmp 62) rfl w3.heap.size u16 t (D.take t) rfl (own_bel HZ.out (by repeat (first | exact Bel.rf | (with_reducible refine Bel.drwN ?_ _) | (with_reducible refine Bel.drw ?_) | (with_reducible refine Bel.al ?_ _)))) _ 1 1 [d2] rfl (by first | exact (R18.zi_one (Bk.nw _ _ _)).bel Bel.rf.drw | exact R18.zi_one (Bk.nw _ _ _) | (refine R18.zi_one (Bk.nq _ _ _ ?_); simp; done)) (by omega) (by simp; omega) ?_; intro vp wp hop hgp hatp; have hbw : Bel w3 wp := Below.grown (HB.out.tr (by repeat (first | exact Bel.rf | (with_reducible refine Bel.drwN ?_ _) | (with_reducible refine Bel.drw ?_) | (with_reducible refine Bel.al ?_ _)))) hgp (HB.out.tr (by repeat (first | exact Bel.rf | (with_reducible refine Bel.drwN ?_ _) | (with_reducible refine Bel.drw ?_) | (with_reducible refine Bel.al ?_ _)))).size (fun q e => (HZ.out.lt q e).1)))
        all_goals
          have HR := Lib.hid (And.intro hop hbw)
          clear hop hbw hgp hatp
          go_wp2
          go_roundw
          case rel => exact ⟨t + 1, _, _, rfl, rfl, by omega, by go_num, by rw [HN.out (d2) (by omega)]; exact HR.out.1, HR.out.2⟩
          case measure => simp [intOf]; omega
      · have k1 : decide (0 < d1) = true := decide_eq_true g1
        have k2 : decide (d1 < d2) = false := decide_eq_false g2
        have k3 : max 0 d1 = d1 := by omega
        have k4 : max d1 d2 = d1 := by omega
        have KS : Hid (∀ W', Bel w3 W' → W'.cell? ⟨hp, t, none⟩ = some (.int .i64 x) ∧ W'.cell? ⟨hu, t, none⟩ = some (.int .i64 y) ∧ W'.cell? ⟨hl, t, none⟩ = some (.int .i64 z)) := fun W' h => ⟨by have := (H2.out.bel (HB3.out.tr h)).at t hlt; rwa [hx] at this, by have := (FU3.out.bel h).at t hlt; rwa [hy] at this, by have := (FL3.out.bel h).at t hlt; rwa [hz] at this⟩
        clear hx hy hz
        go_region_held3 (fun W' => W'.cell? ⟨hp, t, none⟩ = some (.int .i64 x) ∧ W'.cell? ⟨hu, t, none⟩ = some (.int .i64 y) ∧ W'.cell? ⟨hl, t, none⟩ = some (.int .i64 z)) (first | (refine KS.out _ (Bel.tr hbw ?_); (repeat (first | exact Bel.rf | (with_reducible refine Bel.drwN ?_ _) | (with_reducible refine Bel.drw ?_) | (with_reducible refine Bel.al ?_ _))); done) | (refine KS.out _ (Bel.tr HB.out ?_); (repeat (first | exact Bel.rf | (with_reducible refine Bel.drwN ?_ _) | (with_reducible refine Bel.drw ?_) | (with_reducible refine Bel.al ?_ _))); done))
          (first | (refine step_app _ rfl (.tmp 42) (.tmp 62) rfl w3.heap.size u16 t (D.take t) rfl (own_bel HZ.out (by repeat (first | exact Bel.rf | (with_reducible refine Bel.drwN ?_ _) | (with_reducible refine Bel.drw ?_) | (with_reducible refine Bel.al ?_ _)))) _ 1 1 [d1] rfl (by first | exact (R18.zi_one (Bk.nw _ _ _)).bel Bel.rf.drw | exact R18.zi_one (Bk.nw _ _ _) | (refine R18.zi_one (Bk.nq _ _ _ ?_); simp; done)) (by omega) (by simp; omega) ?_; intro vp wp hop hgp hatp; have hbw : Bel w3 wp := Below.grown (HB.out.tr (by repeat (first | exact Bel.rf | (with_reducible refine Bel.drwN ?_ _) | (with_reducible refine Bel.drw ?_) | (with_reducible refine Bel.al ?_ _)))) hgp (HB.out.tr (by repeat (first | exact Bel.rf | (with_reducible refine Bel.drwN ?_ _) | (with_reducible refine Bel.drw ?_) | (with_reducible refine Bel.al ?_ _)))).size (fun q e => (HZ.out.lt q e).1)))
        all_goals
          have HR := Lib.hid (And.intro hop hbw)
          clear hop hbw hgp hatp
          go_wp2
          go_roundw
          case rel => exact ⟨t + 1, _, _, rfl, rfl, by omega, by go_num, by rw [HN.out (d1) (by omega)]; exact HR.out.1, HR.out.2⟩
          case measure => simp [intOf]; omega
      · have k1 : decide (0 < d1) = false := decide_eq_false g1
        have k2 : decide (0 < d2) = true := decide_eq_true g2
        have k3 : max 0 d1 = 0 := by omega
        have k4 : max 0 d2 = d2 := by omega
        have KS : Hid (∀ W', Bel w3 W' → W'.cell? ⟨hp, t, none⟩ = some (.int .i64 x) ∧ W'.cell? ⟨hu, t, none⟩ = some (.int .i64 y) ∧ W'.cell? ⟨hl, t, none⟩ = some (.int .i64 z)) := fun W' h => ⟨by have := (H2.out.bel (HB3.out.tr h)).at t hlt; rwa [hx] at this, by have := (FU3.out.bel h).at t hlt; rwa [hy] at this, by have := (FL3.out.bel h).at t hlt; rwa [hz] at this⟩
        clear hx hy hz
        go_region_held3 (fun W' => W'.cell? ⟨hp, t, none⟩ = some (.int .i64 x) ∧ W'.cell? ⟨hu, t, none⟩ = some (.int .i64 y) ∧ W'.cell? ⟨hl, t, none⟩ = some (.int .i64 z)) (first | (refine KS.out _ (Bel.tr hbw ?_); (repeat (first | exact Bel.rf | (with_reducible refine Bel.drwN ?_ _) | (with_reducible refine Bel.drw ?_) | (with_reducible refine Bel.al ?_ _))); done) | (refine KS.out _ (Bel.tr HB.out ?_); (repeat (first | exact Bel.rf | (with_reducible refine Bel.drwN ?_ _) | (with_reducible refine Bel.drw ?_) | (with_reducible refine Bel.al ?_ _))); done))
          (first | (refine step_app _ rfl (.tmp 42) (.tmp 62) rfl w3.heap.size u16 t (D.take t) rfl (own_bel HZ.out (by repeat (first | exact Bel.rf | (with_reducible refine Bel.drwN ?_ _) | (with_reducible refine Bel.drw ?_) | (with_reducible refine Bel.al ?_ _)))) _ 1 1 [d2] rfl (by first | exact (R18.zi_one (Bk.nw _ _ _)).bel Bel.rf.drw | exact R18.zi_one (Bk.nw _ _ _) | (refine R18.zi_one (Bk.nq _ _ _ ?_); simp; done)) (by omega) (by simp; omega) ?_; intro vp wp hop hgp hatp; have hbw : Bel w3 wp := Below.grown (HB.out.tr (by repeat (first | exact Bel.rf | (with_reducible refine Bel.drwN ?_ _) | (with_reducible refine Bel.drw ?_) | (with_reducible refine Bel.al ?_ _)))) hgp (HB.out.tr (by repeat (first | exact Bel.rf | (with_reducible refine Bel.drwN ?_ _) | (with_reducible refine Bel.drw ?_) | (with_reducible refine Bel.al ?_ _)))).size (fun q e => (HZ.out.lt q e).1)))
        all_goals
          have HR := Lib.hid (And.intro hop hbw)
          clear hop hbw hgp hatp
          go_wp2
          go_roundw
          case rel => exact ⟨t + 1, _, _, rfl, rfl, by omega, by go_num, by rw [HN.out (d2) (by omega)]; exact HR.out.1, HR.out.2⟩
          case measure => simp [intOf]; omega
      · have k1 : decide (0 < d1) = false := decide_eq_false g1
        have k2 : decide (0 < d2) = false := decide_eq_false g2
        have k3 : max 0 d1 = 0 := by omega
        have k4 : max 0 d2 = 0 := by omega
        have KS : Hid (∀ W', Bel w3 W' → W'.cell? ⟨hp, t, none⟩ = some (.int .i64 x) ∧ W'.cell? ⟨hu, t, none⟩ = some (.int .i64 y) ∧ W'.cell? ⟨hl, t, none⟩ = some (.int .i64 z)) := fun W' h => ⟨by have := (H2.out.bel (HB3.out.tr h)).at t hlt; rwa [hx] at this, by have := (FU3.out.bel h).at t hlt; rwa [hy] at this, by have := (FL3.out.bel h).at t hlt; rwa [hz] at this⟩
        clear hx hy hz
        go_region_held3 (fun W' => W'.cell? ⟨hp, t, none⟩ = some (.int .i64 x) ∧ W'.cell? ⟨hu, t, none⟩ = some (.int .i64 y) ∧ W'.cell? ⟨hl, t, none⟩ = some (.int .i64 z)) (first | (refine KS.out _ (Bel.tr hbw ?_); (repeat (first | exact Bel.rf | (with_reducible refine Bel.drwN ?_ _) | (with_reducible refine Bel.drw ?_) | (with_reducible refine Bel.al ?_ _))); done) | (refine KS.out _ (Bel.tr HB.out ?_); (repeat (first | exact Bel.rf | (with_reducible refine Bel.drwN ?_ _) | (with_reducible refine Bel.drw ?_) | (with_reducible refine Bel.al ?_ _))); done))
          (first | (refine step_app _ rfl (.tmp 42) (.tmp 62) rfl w3.heap.size u16 t (D.take t) rfl (own_bel HZ.out (by repeat (first | exact Bel.rf | (with_reducible refine Bel.drwN ?_ _) | (with_reducible refine Bel.drw ?_) | (with_reducible refine Bel.al ?_ _)))) _ 1 1 [0] rfl (by first | exact (R18.zi_one (Bk.nw _ _ _)).bel Bel.rf.drw | exact R18.zi_one (Bk.nw _ _ _) | (refine R18.zi_one (Bk.nq _ _ _ ?_); simp; done)) (by omega) (by simp; omega) ?_; intro vp wp hop hgp hatp; have hbw : Bel w3 wp := Below.grown (HB.out.tr (by repeat (first | exact Bel.rf | (with_reducible refine Bel.drwN ?_ _) | (with_reducible refine Bel.drw ?_) | (with_reducible refine Bel.al ?_ _)))) hgp (HB.out.tr (by repeat (first | exact Bel.rf | (with_reducible refine Bel.drwN ?_ _) | (with_reducible refine Bel.drw ?_) | (with_reducible refine Bel.al ?_ _)))).size (fun q e => (HZ.out.lt q e).1)))
        all_goals
          have HR := Lib.hid (And.intro hop hbw)
          clear hop hbw hgp hatp
          go_wp2
          go_roundw
          case rel => exact ⟨t + 1, _, _, rfl, rfl, by omega, by go_num, by rw [HN.out (0) (by omega)]; exact HR.out.1, HR.out.2⟩
          case measure => simp [intOf]; omega
    · obtain rfl : t = p := by omega
      have hz := HZ.out
      rw [List.take_of_length_le (by rw [HDL.out]; exact Nat.le_refl _)] at hz
      obtain ⟨h5, c5, rfl, _, _⟩ := row_form hz (by omega)
      have Z5 := Lib.hid (own_zi hz HDL.out)
      have HB5 := Lib.hid (HB3.out.tr hb)
      have HR5 := Lib.hid (HR3.out.bel hb)
      clear hz hb
      go_wp2_with (go_at_call 56; refine (QK.out _ _ _ HB5.out Z5.out).mono ?_; rintro e w9 ⟨t', u', rfl, hv, hb9⟩; have B9 := HR5.out.bel hb9; have q0 := B9.cell 0; have q1 := B9.cell 1; have q2 := B9.fr 0; have q3 := B9.fr 1; have HB9 := Lib.hid B9; clear B9)
      rw [Int.mul_one] at hv
      refine bodyPost_ret (v := .agg #[.int .i64 t', .int .i64 u']) (results_r1 Try.results38 _ _ w.heap.size (.int .i64 t') (.int .i64 u') rfl ((HB9.out.st 0 _).st 1 _)) rfl ⟨t', u', rfl, hv, ?_⟩
      exact (((HB5.out.tr hb9).st (by show w.heap.size ≤ w.heap.size; omega) _).st (by show w.heap.size ≤ w.heap.size; omega) _)
end Go.Proofs.Ytkonknkoggfeaaa.Ev
namespace Go.Proofs.Ytkonknkoggfeaaa.Ev
open Go.ChangeShapes Go.WideShapes Go.RowKit Wo Sr Wi Eu Say Pc Ra
set_option linter.unusedVariables false
/-- a ratio of this value, and no error -/
def SomeVV (T C : Int) (w : World) (e : Ending) (w' : World) : Prop := ∃ t u, e = .returned (.tuple #[.agg #[.int .i64 t, .int .i64 u], .int .i64 0]) ∧ Vl t u T C ∧ Bel w w'
set_option maxHeartbeats 4000000 in
theorem rpieces_good (A A' : Option Addr) (c c' n m p : Nat) (L M : List Int) (b : Int) (hE : wk n m L M b = 0) (p1 : 1 ≤ p) (p8 : p ≤ 8) (pm : p ≤ m) (w : World) (h1 : Zi w A n L) (h2 : Zi w A' m M) :
    Calls Try.prog 18 #[.slice A n c, .slice A' m c', .int .i64 b, .int .i64 (p : Int)] w (SomeVV (tq (fun k => (pp M (eus L b m) (els L b m) m p).getD k 0 * (pp M (eus L b m) (els L b m) m p).getD k 0 * wq (m / p) (st m p (k + 1) - st m p k)) p) (cq m p) w) := by
  obtain ⟨⟨b0, b32⟩, ⟨n1, n2⟩, ⟨m1, m2⟩, hs, ht, bn, bm⟩ := wk_yes hE
  obtain ⟨ad', rfl, _, _⟩ := id (h2.2 (by omega))
  have CK : Hid (∀ W, Bel w W → _) := fun W hW => rcheck_any A (some ad') c c' n m L M b (by omega) (by omega) W (h1.bel hW) (h2.bel hW)
  rw [hE] at CK
  have SK : Hid (∀ W, _) := fun W => R18.starts_ok m p m1 m2 p1 p8 pm W
  have FY : Hid (∀ W ha ca, Bel w W → Zi W (some ⟨ha, 0, none⟩) (p + 1) (sts m p) → _) := fun W ha ca hW hz => R18.fold_ok ad' ha c' ca m p M m1 m2 p1 p8 ht W (h2.bel hW) hz
  have GK : Hid (∀ W hp cp ha ca, Bel w W → Zi W (some ⟨hp, 0, none⟩) p (pls M m p) → Zi W (some ⟨ha, 0, none⟩) (p + 1) (sts m p) → _) := fun W hp cp ha ca hW z1 z2 => against_ok A c n m p hp cp ha ca L M b n1 n2 m1 m2 b0 b32 bm bn p1 p8 pm hs ht W (h1.bel hW) z1 z2
  obtain ⟨T, hT⟩ : ∃ T, tq (fun k => (pp M (eus L b m) (els L b m) m p).getD k 0 * (pp M (eus L b m) (els L b m) m p).getD k 0 * wq (m / p) (st m p (k + 1) - st m p k)) p = T := ⟨_, rfl⟩
  rw [hT] at GK ⊢
  clear h1 h2 hs ht hE hT
  have HB0 : Hid (Bel w (w.alloc (.cells #[.int .i64 0, .int .i64 0] 39))) := Bel.rf.al _
  have HR0 : Hid (Bk (w.alloc (.cells #[.int .i64 0, .int .i64 0] 39)) w.heap.size 39 #[.int .i64 0, .int .i64 0]) := Bk.nw _ _ _
  go_enter Try.func18, Try.ntmps18
  go_wp2_with fail
  go_at_call 30
  refine (CK.out _ HB0.out).mono ?_
  rintro e w1 ⟨rfl, hb⟩
  have HB1 := Lib.hid (HB0.out.tr hb)
  have HR1 := Lib.hid (HR0.out.bel hb)
  clear hb
  go_wp2_with fail
  go_at_call 36
  refine (SK.out _).mono ?_
  rintro e w2 ⟨ha, ca, rfl, z, hb⟩
  have HB2 := Lib.hid (HB1.out.tr hb)
  have HR2 := Lib.hid (HR1.out.bel hb)
  have ZA2 := Lib.hid (own_zi z (sts_len m p))
  clear hb z
  go_wp2_with fail
  go_at_call 37
  refine (FY.out _ _ _ HB2.out ZA2.out).mono ?_
  rintro e w3 ⟨hp, cp, rfl, z, hb⟩
  have HB3 := Lib.hid (HB2.out.tr hb)
  have HR3 := Lib.hid (HR2.out.bel hb)
  have ZA3 := Lib.hid (ZA2.out.bel hb)
  have ZP3 := Lib.hid (own_zi z (pls_len M m p))
  clear hb z
  go_wp2_with (go_at_call 38; refine (GK.out _ _ _ _ _ HB3.out ZP3.out ZA3.out).mono ?_; rintro e w9 ⟨t, u, rfl, hv, hb9⟩; have B9 := HR3.out.bel hb9; have q0 := B9.cell 0; have q1 := B9.cell 1; have q2 := B9.fr 0; have q3 := B9.fr 1; have HB9 := Lib.hid B9; clear B9)
  refine bodyPost_ret (v := .tuple #[.agg #[.int .i64 t, .int .i64 u], .int .i64 0]) (results_rt Try.results18 _ _ w.heap.size (.int .i64 t) (.int .i64 u) rfl ((HB9.out.st 0 _).st 1 _)) rfl ?_
  exact ⟨t, u, rfl, hv, ((HB3.out.tr hb9).st (by show w.heap.size ≤ w.heap.size; omega) _).st (by show w.heap.size ≤ w.heap.size; omega) _⟩
end Go.Proofs.Ytkonknkoggfeaaa.Ev
namespace Go.Proofs.Ytkonknkoggfeaaa.Say
open Go.ChangeShapes Go.WideShapes Go.RowKit Wo Sr Wi Ra Eu Pc Ev
set_option linter.unusedVariables false
set_option maxHeartbeats 2000000 in
theorem of_band (A : Option Addr) (c n : Nat) (b k : Int) (hb : ¬ (0 ≤ b ∧ b ≤ 32)) (w : World) :
    Calls Try.prog 9 #[.slice A n c, .int .i64 b, .int .i64 k] w fun e w' => e = .returned (.tuple #[.slice none 0 0, .slice none 0 0, .int .i64 1]) ∧ Bel w w' := by
  rcases (by omega : b < 0 ∨ (0 ≤ b ∧ 32 < b)) with g1 | ⟨g1, g2⟩
  · have d1 : decide (b < 0) = true := decide_eq_true g1
    go_enter Try.func9, Try.ntmps9
    go_wp2
    refine bodyPost_ret (v := .tuple #[.slice none 0 0, .slice none 0 0, .int .i64 1]) (by simp [results, Try.results9, go_sem]) rfl ?_
    exact ⟨rfl, by first | exact Bel.rf | exact Bel.rf.drw⟩
  · have g3 : ¬ b < 0 := by omega
    have d1 : decide (b < 0) = false := decide_eq_false g3
    have d2 : decide (32 < b) = true := decide_eq_true g2
    go_enter Try.func9, Try.ntmps9
    go_wp2
    refine bodyPost_ret (v := .tuple #[.slice none 0 0, .slice none 0 0, .int .i64 1]) (by simp [results, Try.results9, go_sem]) rfl ?_
    exact ⟨rfl, by first | exact Bel.rf | exact Bel.rf.drw⟩
set_option maxHeartbeats 2000000 in
theorem of_win (A : Option Addr) (c n : Nat) (L : List Int) (b k E : Int) (hb : 0 ≤ b ∧ b ≤ 32) (hn : n ≤ 100000000) (hE : one n L = E) (h0 : E ≠ 0) (w : World) (h1 : Zi w A n L) :
    Calls Try.prog 9 #[.slice A n c, .int .i64 b, .int .i64 k] w fun e w' => e = .returned (.tuple #[.slice none 0 0, .slice none 0 0, .int .i64 E]) ∧ Bel w w' := by
  have HW := Lib.hid (window_any A c n L hn w h1)
  rw [hE] at HW
  have e0 : (E == 0) = false := by rw [beq_eq_false_iff_ne]; exact h0
  have g1 : ¬ b < 0 := by omega
  have g2 : ¬ 32 < b := by omega
  have d1 : decide (b < 0) = false := decide_eq_false g1
  have d2 : decide (32 < b) = false := decide_eq_false g2
  clear h1 hE
  go_enter Try.func9, Try.ntmps9
  go_wp2_with fail
  go_at_call 22
  refine HW.out.mono ?_
  rintro e w1 ⟨rfl, hb1⟩
  go_wp2
  refine bodyPost_ret (v := .tuple #[.slice none 0 0, .slice none 0 0, .int .i64 E]) (by simp [results, Try.results9, go_sem]) rfl ?_
  exact ⟨rfl, hb1⟩
set_option maxHeartbeats 4000000 in
theorem of_cnt (A : Option Addr) (c n : Nat) (L : List Int) (b k : Int) (hb : 0 ≤ b ∧ b ≤ 32) (hE : one n L = 0) (hk : ¬ ((2 ≤ k ∧ k ≤ 32) ∧ (n : Int) - k ≤ b ∧ k - (n : Int) ≤ b)) (w : World) (h1 : Zi w A n L) :
    Calls Try.prog 9 #[.slice A n c, .int .i64 b, .int .i64 k] w fun e w' => e = .returned (.tuple #[.slice none 0 0, .slice none 0 0, .int .i64 8]) ∧ Bel w w' := by
  obtain ⟨n1, n2⟩ : 2 ≤ (n : Int) ∧ (n : Int) ≤ 32 := by
    unfold one at hE
    split at hE
    · rename_i h; unfold lenOk at h; omega
    · cases hE
  have HW := Lib.hid (window_any A c n L (by omega) w h1)
  rw [hE] at HW
  have g1 : ¬ b < 0 := by omega
  have g2 : ¬ 32 < b := by omega
  have d1 : decide (b < 0) = false := decide_eq_false g1
  have d2 : decide (32 < b) = false := decide_eq_false g2
  clear h1 hE
  rcases Classical.em (2 ≤ k ∧ k ≤ 32) with hq | hq
  · have AK : Hid (∀ W, _) := fun W => abs_ok ((n : Int) - k) (by omega) (by omega) W
    have LK : Hid (∀ W, _) := fun W => length_ok k hq.1 hq.2 W
    have ab1 : b < ab ((n : Int) - k) := by unfold ab; split <;> omega
    have ab3 : ab ((n : Int) - k) ≤ 32 := by unfold ab; split <;> omega
    obtain ⟨a, ha⟩ : ∃ a, ab ((n : Int) - k) = a := ⟨_, rfl⟩
    rw [ha] at ab1 ab3 AK
    have ab2 : decide (b < a) = true := decide_eq_true ab1
    have wnk : wrap64 ((n : Int) - k) = (n : Int) - k := IntWalk.wrap64_in _ (by omega)
    have wnk2 : IntKind.i64.wrap ((n : Int) - k) = (n : Int) - k := IntWalk.i64_in _ (by omega)
    clear ha hk
    go_enter Try.func9, Try.ntmps9
    go_wp2_with fail
    go_at_call 22
    refine HW.out.mono ?_
    rintro e w1 ⟨rfl, hb1⟩
    go_wp2_with fail
    go_at_call 23
    refine (LK.out _).mono ?_
    rintro e w2 ⟨rfl, rfl⟩
    go_wp2_with fail
    go_at_call 24
    refine (AK.out _).mono ?_
    rintro e w3 ⟨rfl, rfl⟩
    go_wp2
    refine bodyPost_ret (v := .tuple #[.slice none 0 0, .slice none 0 0, .int .i64 8]) (by simp [results, Try.results9, go_sem]) rfl ?_
    exact ⟨rfl, hb1⟩
  · have LK : Hid (∀ W, _) := fun W => length_no k hq W
    clear hk
    go_enter Try.func9, Try.ntmps9
    go_wp2_with fail
    go_at_call 22
    refine HW.out.mono ?_
    rintro e w1 ⟨rfl, hb1⟩
    go_wp2_with fail
    go_at_call 23
    refine (LK.out _).mono ?_
    rintro e w2 ⟨rfl, hb2⟩
    go_wp2
    refine bodyPost_ret (v := .tuple #[.slice none 0 0, .slice none 0 0, .int .i64 8]) (by simp [results, Try.results9, go_sem]) rfl ?_
    exact ⟨rfl, hb1.tr hb2⟩
set_option maxHeartbeats 2000000 in
theorem rof_band (A : Option Addr) (c n : Nat) (b k : Int) (hb : ¬ (0 ≤ b ∧ b ≤ 32)) (w : World) :
    Calls Try.prog 10 #[.slice A n c, .int .i64 b, .int .i64 k] w fun e w' => e = .returned (.tuple #[.slice none 0 0, .slice none 0 0, .int .i64 1]) ∧ Bel w w' := by
  rcases (by omega : b < 0 ∨ (0 ≤ b ∧ 32 < b)) with g1 | ⟨g1, g2⟩
  · have d1 : decide (b < 0) = true := decide_eq_true g1
    go_enter Try.func10, Try.ntmps10
    go_wp2
    refine bodyPost_ret (v := .tuple #[.slice none 0 0, .slice none 0 0, .int .i64 1]) (by simp [results, Try.results10, go_sem]) rfl ?_
    exact ⟨rfl, by first | exact Bel.rf | exact Bel.rf.drw⟩
  · have g3 : ¬ b < 0 := by omega
    have d1 : decide (b < 0) = false := decide_eq_false g3
    have d2 : decide (32 < b) = true := decide_eq_true g2
    go_enter Try.func10, Try.ntmps10
    go_wp2
    refine bodyPost_ret (v := .tuple #[.slice none 0 0, .slice none 0 0, .int .i64 1]) (by simp [results, Try.results10, go_sem]) rfl ?_
    exact ⟨rfl, by first | exact Bel.rf | exact Bel.rf.drw⟩
set_option maxHeartbeats 2000000 in
theorem rof_win (A : Option Addr) (c n : Nat) (L : List Int) (b k E : Int) (hb : 0 ≤ b ∧ b ≤ 32) (hn : n ≤ 100000000) (hE : one n L = E) (h0 : E ≠ 0) (w : World) (h1 : Zi w A n L) :
    Calls Try.prog 10 #[.slice A n c, .int .i64 b, .int .i64 k] w fun e w' => e = .returned (.tuple #[.slice none 0 0, .slice none 0 0, .int .i64 E]) ∧ Bel w w' := by
  have HW := Lib.hid (rwindow_any A c n L hn w h1)
  rw [hE] at HW
  have e0 : (E == 0) = false := by rw [beq_eq_false_iff_ne]; exact h0
  have g1 : ¬ b < 0 := by omega
  have g2 : ¬ 32 < b := by omega
  have d1 : decide (b < 0) = false := decide_eq_false g1
  have d2 : decide (32 < b) = false := decide_eq_false g2
  clear h1 hE
  go_enter Try.func10, Try.ntmps10
  go_wp2_with fail
  go_at_call 26
  refine HW.out.mono ?_
  rintro e w1 ⟨rfl, hb1⟩
  go_wp2
  refine bodyPost_ret (v := .tuple #[.slice none 0 0, .slice none 0 0, .int .i64 E]) (by simp [results, Try.results10, go_sem]) rfl ?_
  exact ⟨rfl, hb1⟩
set_option maxHeartbeats 4000000 in
theorem rof_cnt (A : Option Addr) (c n : Nat) (L : List Int) (b k : Int) (hb : 0 ≤ b ∧ b ≤ 32) (hE : one n L = 0) (hk : ¬ ((2 ≤ k ∧ k ≤ 32) ∧ (n : Int) - k ≤ b ∧ k - (n : Int) ≤ b)) (w : World) (h1 : Zi w A n L) :
    Calls Try.prog 10 #[.slice A n c, .int .i64 b, .int .i64 k] w fun e w' => e = .returned (.tuple #[.slice none 0 0, .slice none 0 0, .int .i64 8]) ∧ Bel w w' := by
  obtain ⟨n1, n2⟩ : 2 ≤ (n : Int) ∧ (n : Int) ≤ 32 := by
    unfold one at hE
    split at hE
    · rename_i h; unfold lenOk at h; omega
    · cases hE
  have HW := Lib.hid (rwindow_any A c n L (by omega) w h1)
  rw [hE] at HW
  have g1 : ¬ b < 0 := by omega
  have g2 : ¬ 32 < b := by omega
  have d1 : decide (b < 0) = false := decide_eq_false g1
  have d2 : decide (32 < b) = false := decide_eq_false g2
  clear h1 hE
  rcases (by omega : k < 2 ∨ (2 ≤ k ∧ 32 < k) ∨ (2 ≤ k ∧ k ≤ 32 ∧ b < k - (n : Int)) ∨ (2 ≤ k ∧ k ≤ 32 ∧ k - (n : Int) ≤ b ∧ b < (n : Int) - k)) with q1 | ⟨q1, q2⟩ | ⟨q1, q2, q3⟩ | ⟨q1, q2, q3, q4⟩
  · have d1q : decide (k < 2) = true := decide_eq_true q1
    clear hk
    go_enter Try.func10, Try.ntmps10
    go_wp2_with fail
    go_at_call 26
    refine HW.out.mono ?_
    rintro e w1 ⟨rfl, hb1⟩
    go_wp2
    refine bodyPost_ret (v := .tuple #[.slice none 0 0, .slice none 0 0, .int .i64 8]) (by simp [results, Try.results10, go_sem]) rfl ?_
    exact ⟨rfl, hb1⟩
  · have e1 : ¬ k < 2 := by omega
    have d1q : decide (k < 2) = false := decide_eq_false e1
    have d2q : decide (32 < k) = true := decide_eq_true q2
    clear hk
    go_enter Try.func10, Try.ntmps10
    go_wp2_with fail
    go_at_call 26
    refine HW.out.mono ?_
    rintro e w1 ⟨rfl, hb1⟩
    go_wp2
    refine bodyPost_ret (v := .tuple #[.slice none 0 0, .slice none 0 0, .int .i64 8]) (by simp [results, Try.results10, go_sem]) rfl ?_
    exact ⟨rfl, hb1⟩
  · have e1 : ¬ k < 2 := by omega
    have d1q : decide (k < 2) = false := decide_eq_false e1
    have e2 : ¬ 32 < k := by omega
    have d2q : decide (32 < k) = false := decide_eq_false e2
    have d3q : decide (b < k - (n : Int)) = true := decide_eq_true q3
    have wk1 : wrap64 (k - (n : Int)) = k - (n : Int) := IntWalk.wrap64_in _ (by omega)
    have wk2 : wrap64 ((n : Int) - k) = (n : Int) - k := IntWalk.wrap64_in _ (by omega)
    clear hk
    go_enter Try.func10, Try.ntmps10
    go_wp2_with fail
    go_at_call 26
    refine HW.out.mono ?_
    rintro e w1 ⟨rfl, hb1⟩
    go_wp2
    refine bodyPost_ret (v := .tuple #[.slice none 0 0, .slice none 0 0, .int .i64 8]) (by simp [results, Try.results10, go_sem]) rfl ?_
    exact ⟨rfl, hb1⟩
  · have e1 : ¬ k < 2 := by omega
    have d1q : decide (k < 2) = false := decide_eq_false e1
    have e2 : ¬ 32 < k := by omega
    have d2q : decide (32 < k) = false := decide_eq_false e2
    have e3 : ¬ b < k - (n : Int) := by omega
    have d3q : decide (b < k - (n : Int)) = false := decide_eq_false e3
    have d4q : decide (b < (n : Int) - k) = true := decide_eq_true q4
    have wk1 : wrap64 (k - (n : Int)) = k - (n : Int) := IntWalk.wrap64_in _ (by omega)
    have wk2 : wrap64 ((n : Int) - k) = (n : Int) - k := IntWalk.wrap64_in _ (by omega)
    clear hk
    go_enter Try.func10, Try.ntmps10
    go_wp2_with fail
    go_at_call 26
    refine HW.out.mono ?_
    rintro e w1 ⟨rfl, hb1⟩
    go_wp2
    refine bodyPost_ret (v := .tuple #[.slice none 0 0, .slice none 0 0, .int .i64 8]) (by simp [results, Try.results10, go_sem]) rfl ?_
    exact ⟨rfl, hb1⟩
end Go.Proofs.Ytkonknkoggfeaaa.Say
namespace Go.Proofs.Ytkonknkoggfeaaa.Ev
open Go.ChangeShapes Go.WideShapes Go.RowKit Wo Sr Wi Eu Say Pc Ra
set_option linter.unusedVariables false
/-- two lists and an error -/
def SomeT (E : Int) (N : Nat) (U Lo : List Int) (w : World) (e : Ending) (w' : World) : Prop := ∃ Au cu Al cl, e = .returned (.tuple #[.slice Au N cu, .slice Al N cl, .int .i64 E]) ∧ Zi w' Au N U ∧ Zi w' Al N Lo ∧ Bel w w'
theorem some_nil2 {E : Int} {w w' : World} {e : Ending} (h : e = .returned (.tuple #[.slice none 0 0, .slice none 0 0, .int .i64 E]) ∧ Bel w w') : SomeT E 0 [] [] w e w' := ⟨none, 0, none, 0, h.1, zi_nil, zi_nil, h.2⟩
/-- envelope.Of and the reference's, of any list and numbers -/
theorem both_of (A : Option Addr) (c n : Nat) (L : List Int) (b k : Int) (hn : n ≤ 100000000) : ∃ (E : Int) (N : Nat) (U Lo : List Int), N ≤ 100 ∧
    (∀ w, Zi w A n L → Calls Try.prog 9 #[.slice A n c, .int .i64 b, .int .i64 k] w (SomeT E N U Lo w)) ∧
    (∀ w, Zi w A n L → Calls Try.prog 10 #[.slice A n c, .int .i64 b, .int .i64 k] w (SomeT E N U Lo w)) := by
  rcases Classical.em (0 ≤ b ∧ b ≤ 32) with hb | hb
  · rcases Classical.em (one n L = 0) with h1 | h1
    · rcases Classical.em ((2 ≤ k ∧ k ≤ 32) ∧ (n : Int) - k ≤ b ∧ k - (n : Int) ≤ b) with hk | hk
      · obtain ⟨⟨k1, k2⟩, k3, k4⟩ := hk
        obtain ⟨m, rfl⟩ := Int.eq_ofNat_of_zero_le (show 0 ≤ k by omega)
        have hns : lenOk n ∧ Sam L := by
          unfold one at h1
          split at h1
          · rename_i g1
            split at h1
            · rename_i g2; exact ⟨g1, all_sam g2⟩
            · cases h1
          · cases h1
        obtain ⟨⟨n1, n2⟩, hs⟩ := hns
        refine ⟨0, m, eus L b m, els L b m, by omega, fun w z => ?_, fun w z => ?_⟩
        · obtain ⟨ad, rfl, _, _⟩ := id (z.2 (by omega))
          refine (of_ok ad c n m L b n1 n2 (by omega) (by omega) hb.1 hb.2 k4 k3 hs w z).mono ?_
          rintro e w' ⟨gu, gl, U, Lo, rfl, he, hu, hl, hbb⟩
          obtain ⟨rfl, rfl⟩ := Env.eq he (env_is hs z.1 (by omega) hb.1 k4)
          exact ⟨_, _, _, _, rfl, hu, hl, hbb⟩
        · refine (rof_good A c n m L b n1 n2 (by omega) (by omega) hb.1 hb.2 k4 k3 hs w z).mono ?_
          rintro e w' ⟨gu, cu, gl, cl, rfl, hu, hl, hbb⟩
          exact ⟨_, _, _, _, rfl, hu, hl, hbb⟩
      · exact ⟨8, 0, [], [], by omega, fun w z => (of_cnt A c n L b k hb h1 hk w z).mono fun e w' h => some_nil2 h, fun w z => (rof_cnt A c n L b k hb h1 hk w z).mono fun e w' h => some_nil2 h⟩
    · exact ⟨one n L, 0, [], [], by omega, fun w z => (of_win A c n L b k _ hb hn rfl h1 w z).mono fun e w' h => some_nil2 h, fun w z => (rof_win A c n L b k _ hb hn rfl h1 w z).mono fun e w' h => some_nil2 h⟩
  · exact ⟨1, 0, [], [], by omega, fun w z => (of_band A c n b k hb w).mono fun e w' h => some_nil2 h, fun w z => (rof_band A c n b k hb w).mono fun e w' h => some_nil2 h⟩
/-- envelope.Keogh and the reference's, of any lists and band -/
theorem both_keogh (A A' : Option Addr) (c c' n m : Nat) (L M : List Int) (b : Int) (hn : n ≤ 100000000) (hm : m ≤ 100000000) : ∃ D E : Int,
    (∀ w, Zi w A n L → Zi w A' m M → Calls Try.prog 12 #[.slice A n c, .slice A' m c', .int .i64 b] w fun e w' => e = .returned (.tuple #[.int .i64 D, .int .i64 E]) ∧ Bel w w') ∧
    (∀ w, Zi w A n L → Zi w A' m M → Calls Try.prog 13 #[.slice A n c, .slice A' m c', .int .i64 b] w fun e w' => e = .returned (.tuple #[.int .i64 D, .int .i64 E]) ∧ Bel w w') := by
  rcases Classical.em (wk n m L M b = 0) with h | h
  · obtain ⟨⟨b0, b32⟩, ⟨n1, n2⟩, ⟨m1, m2⟩, hs, ht, bn, bm⟩ := wk_yes h
    refine ⟨_, 0, fun w k1 k2 => ?_, fun w k1 k2 => rkeogh_good A A' c c' n m L M b h w k1 k2⟩
    obtain ⟨ad, rfl, _, _⟩ := id (k1.2 (by omega))
    obtain ⟨ad', rfl, _, _⟩ := id (k2.2 (by omega))
    refine (keogh_ok ad ad' c c' n m L M b n1 n2 m1 m2 b0 b32 bn bm hs ht w k1 k2).mono ?_
    rintro e w' ⟨U, Lo, rfl, he, hbb⟩
    obtain ⟨rfl, rfl⟩ := Env.eq he (env_is hs k1.1 (by omega) b0 bm)
    exact ⟨rfl, hbb⟩
  · exact ⟨0, _, fun w k1 k2 => keogh_bad A A' c c' n m L M b hn hm _ rfl h w k1 k2, fun w k1 k2 => rkeogh_bad A A' c c' n m L M b hn hm _ rfl h w k1 k2⟩
/-- envelope.Improved and the reference's, of any lists and band -/
theorem both_improved (A A' : Option Addr) (c c' n m : Nat) (L M : List Int) (b : Int) (hn : n ≤ 100000000) (hm : m ≤ 100000000) : ∃ D E : Int,
    (∀ w, Zi w A n L → Zi w A' m M → Calls Try.prog 14 #[.slice A n c, .slice A' m c', .int .i64 b] w fun e w' => e = .returned (.tuple #[.int .i64 D, .int .i64 E]) ∧ Bel w w') ∧
    (∀ w, Zi w A n L → Zi w A' m M → Calls Try.prog 15 #[.slice A n c, .slice A' m c', .int .i64 b] w fun e w' => e = .returned (.tuple #[.int .i64 D, .int .i64 E]) ∧ Bel w w') := by
  rcases Classical.em (wk n m L M b = 0) with h | h
  · obtain ⟨⟨b0, b32⟩, ⟨n1, n2⟩, ⟨m1, m2⟩, hs, ht, bn, bm⟩ := wk_yes h
    refine ⟨_, 0, fun w k1 k2 => ?_, fun w k1 k2 => rimproved_good A A' c c' n m L M b h w k1 k2⟩
    obtain ⟨ad, rfl, _, _⟩ := id (k1.2 (by omega))
    obtain ⟨ad', rfl, _, _⟩ := id (k2.2 (by omega))
    refine (improved_ok ad ad' c c' n m L M b n1 n2 m1 m2 b0 b32 bn bm hs ht w k1 k2).mono ?_
    rintro e w' ⟨U, Lo, A, B, rfl, he, he2, hbb⟩
    have henv := env_is hs (m := m) k1.1 (by omega) b0 bm
    obtain ⟨rfl, rfl⟩ := Env.eq he henv
    have sH : Sam (pj M (eus L b m) (els L b m)) := pj_sam ht (eus_sam hs b m) (els_sam hs b m)
    obtain ⟨rfl, rfl⟩ := Env.eq he2 (env_is sH (m := n) (n := m) (by rw [pj_len, k2.1]) (by omega) b0 bn)
    exact ⟨rfl, hbb⟩
  · exact ⟨0, _, fun w k1 k2 => improved_bad A A' c c' n m L M b hn hm _ rfl h w k1 k2, fun w k1 k2 => rimproved_bad A A' c c' n m L M b hn hm _ rfl h w k1 k2⟩
/-- a ratio with this, and an error -/
def SomeR (E : Int) (K : Int → Int → Prop) (w : World) (e : Ending) (w' : World) : Prop := ∃ X Y : Int, e = .returned (.tuple #[.agg #[.int .i64 X, .int .i64 Y], .int .i64 E]) ∧ K X Y ∧ Bel w w'
/-- envelope.Pieces and the reference's, of any lists and numbers -/
theorem both_epieces (A A' : Option Addr) (c c' n m : Nat) (L M : List Int) (b k : Int) (hn : n ≤ 100000000) (hm : m ≤ 100000000) (hc' : m ≤ c') : ∃ (E : Int) (K : Int → Int → Prop), (∀ a b c d, K a b → K c d → a = c ∧ b = d) ∧
    (∀ w, Zi w A n L → Zi w A' m M → Calls Try.prog 17 #[.slice A n c, .slice A' m c', .int .i64 b, .int .i64 k] w (SomeR E K w)) ∧
    (∀ w, Zi w A n L → Zi w A' m M → Calls Try.prog 18 #[.slice A n c, .slice A' m c', .int .i64 b, .int .i64 k] w (SomeR E K w)) := by
  rcases Classical.em (wk n m L M b = 0) with h | h
  · obtain ⟨⟨b0, b32⟩, ⟨n1, n2⟩, ⟨m1, m2⟩, hs, ht, bn, bm⟩ := wk_yes h
    rcases Classical.em (kOk m k) with hk | hk
    · obtain ⟨k1, k2, k3⟩ := hk
      obtain ⟨p, rfl⟩ := Int.eq_ofNat_of_zero_le (show 0 ≤ k by omega)
      have hC := (cq_in m p (by omega) (by omega) m2).1
      refine ⟨0, fun t u => Vl t u (tq (fun k => (pp M (eus L b m) (els L b m) m p).getD k 0 * (pp M (eus L b m) (els L b m) m p).getD k 0 * wq (m / p) (st m p (k + 1) - st m p k)) p) (cq m p), fun a b c d h1 h2 => vl_eq hC h1 h2, fun w z1 z2 => ?_, fun w z1 z2 => ?_⟩
      · obtain ⟨ad, rfl, _, _⟩ := id (z1.2 (by omega))
        obtain ⟨ad', rfl, _, _⟩ := id (z2.2 (by omega))
        refine (pieces_ok ad ad' c c' n m p L M b n1 n2 m1 m2 b0 b32 bn bm (by omega) (by omega) (by omega) hc' hs ht w z1 z2).mono ?_
        rintro e w' ⟨U, Lo, t, u, rfl, he, hv, hbb⟩
        obtain ⟨rfl, rfl⟩ := Env.eq he (env_is hs z1.1 (by omega) b0 bm)
        exact ⟨t, u, rfl, hv, hbb⟩
      · refine (rpieces_good A A' c c' n m p L M b h (by omega) (by omega) (by omega) w z1 z2).mono ?_
        rintro e w' ⟨t, u, rfl, hv, hbb⟩
        exact ⟨t, u, rfl, hv, hbb⟩
    · refine ⟨1, fun t u => t = 0 ∧ u = 0, fun a b c d h1 h2 => by omega, fun w z1 z2 => (pieces_bad2 A A' c c' n m L M b hn hm k h hk w z1 z2).mono ?_, fun w z1 z2 => (rpieces_bad2 A A' c c' n m L M b hn hm k h hk w z1 z2).mono ?_⟩
      all_goals
        rintro e w' ⟨rfl, hb⟩
        exact ⟨0, 0, rfl, ⟨rfl, rfl⟩, hb⟩
  · refine ⟨wk n m L M b, fun t u => t = 0 ∧ u = 0, fun a b c d h1 h2 => by omega, fun w z1 z2 => (pieces_bad1 A A' c c' n m L M b hn hm k _ rfl h w z1 z2).mono ?_, fun w z1 z2 => (rpieces_bad1 A A' c c' n m L M b hn hm k _ rfl h w z1 z2).mono ?_⟩
    all_goals
      rintro e w' ⟨rfl, hb⟩
      exact ⟨0, 0, rfl, ⟨rfl, rfl⟩, hb⟩
end Go.Proofs.Ytkonknkoggfeaaa.Ev
