/- That the law NormalRange returns true for every input that can be read, and leaves its arguments as they were; no further condition. -/
import Derived.Test.YthmdponfigepjaaRows
import Derived.WalkKit
import Derived.ProofKit
import Derived.OpenShut
import Derived.Test.YthmdponfigepjaaWords
import Derived.Test.YthmdponfigepjaaSrcNew0
import Derived.Test.YthmdponfigepjaaNear
import Derived.Test.YthmdponfigepjaaNorAwake
import Derived.Test.YthmdponfigepjaaApp
import Derived.ShutString
import Derived.ChangeOld
import Derived.Below
namespace Go.Proofs.Ythmdponfigepjaa.normalRange
open Go.ChangeShapes Go.WideShapes Go.ChangeAt Go.RowKit Wo
open Go.ChangeMaps (open_string shut_string)
set_option linter.unusedVariables false

theorem own : ownKnob Try.prog.godebug = none := by kernel_rfl
theorem laidOut : laidOutB Try.prog = true := by kernel_rfl

/-- WHAT THE WALK IS TOLD OF A SLICE OF INTEGERS THAT CAME IN: it is nil; or it leads to a row of 'cap' cells, the numbers 'zs' (the first 'len' are its elements, the rest its spare room), each fitting its kind. -/
def IsRow (k : IntKind) (w : World) (a : Option Addr) (len cap : Nat) (zs : List Int) : Prop :=
  (a = none ∧ len = 0 ∧ cap = 0 ∧ zs = []) ∨
  ∃ x, a = some x ∧ len ≤ cap ∧ cap ≤ maxLen ∧ zs.length = cap ∧ (∀ i, i < zs.length → w.cell? (x.add i) = some (.int k (zs.getD i 0))) ∧ ∀ n ∈ zs, (Lit.int k n).wf = true

open Go.Proofs.Ythmdponfigepjaa.Nr Go.Proofs.Ythmdponfigepjaa.Eu Go.Proofs.Ythmdponfigepjaa.Wi Go.Proofs.Ythmdponfigepjaa.Wo Go.Proofs.Ythmdponfigepjaa.Sr Go.Proofs.Ythmdponfigepjaa.Ra in
set_option maxHeartbeats 400000000 in
set_option maxRecDepth 100000 in
theorem walk (a0 : Option Addr) (len0 cap0 : Nat) (z0 : List Int) (w : World) (w0 : IsRow .i64 w a0 len0 cap0 z0) :
    Calls Try.prog 3 #[.slice a0 len0 cap0] w fun e w' => e = .returned (.bool true) ∧ Below w.heap.size w w' := by
  have AW : Hid (∀ W, Calls Try.prog 17 #[] W fun e w' => e = .returned (.bool true) ∧ Bel W w') := awake_any
  go_enter Try.func3, Try.ntmps3
  go_wp2_with fail
  go_at_call 9
  refine (new_any a0 len0 cap0 z0 w w0).mono ?_
  rintro e v1 ⟨g, rfl, hg, ho1, hb1⟩
  have HO1 := Lib.hid ho1
  have HB1 := Lib.hid hb1
  clear ho1 hb1 w0
  go_wp2_with fail
  go_at_call 10
  refine (pair_any g _ HO1.out).mono ?_
  rintro e v2 ⟨xa, xb, ya, yb, n, L, M, rfl, n1, n2, hxy, hox, hoy, lL, lM, sL, sM, ho2, hc2⟩
  have HB2 : Hid (Bel w v2) := Bel.ch HB1.out hc2 hg
  have HOX := Lib.hid hox
  have HOY := Lib.hid hoy
  have zx : Zi v2 (some ⟨xa, 0, none⟩) n L := own_zi hox lL
  have zy : Zi v2 (some ⟨ya, 0, none⟩) n M := own_zi hoy lM
  have hlm : L.length = M.length := by rw [lL, lM]
  have ni1 : 2 ≤ (n : Int) := by omega
  have ni2 : (n : Int) ≤ 32 := by omega
  have HLL := Lib.hid (And.intro lL (And.intro lM (And.intro sL sM)))
  clear ho2 hc2 hox hoy
  obtain ⟨P, hP⟩ : ∃ P, L.reverse = P := ⟨_, rfl⟩
  obtain ⟨Q, hQ⟩ : ∃ Q, M.reverse = Q := ⟨_, rfl⟩
  have lP : P.length = n := by rw [← hP]; simpa using lL
  have lQ : Q.length = n := by rw [← hQ]; simpa using lM
  have sP : Sam P := fun x hx => sL x (by rw [← hP] at hx; simpa using hx)
  have sQ : Sam Q := fun x hx => sM x (by rw [← hQ] at hx; simpa using hx)
  have atP : ∀ i, i < n → P.getD i 0 = L.getD (n - 1 - i) 0 := fun i hi => by rw [← hP, rev_at L i (by omega), lL]
  have atQ : ∀ i, i < n → Q.getD i 0 = M.getD (n - 1 - i) 0 := fun i hi => by rw [← hQ, rev_at M i (by omega), lM]
  have HP := Lib.hid (And.intro lP (And.intro sP atP))
  have HQ := Lib.hid (And.intro lQ (And.intro sQ atQ))
  have HREV : Hid (vr P = vr L ∧ vr Q = vr M ∧ pr P Q = pr L M) := ⟨by rw [← hP, vr_rev], by rw [← hQ, vr_rev], by rw [← hP, ← hQ, pr_rev _ _ hlm]⟩
  have HZX := Lib.hid zx
  have HZY := Lib.hid zy
  have HLM := Lib.hid hlm
  clear hP hQ lP lQ sP sQ atP atQ lL lM sL sM zx zy hlm HOX HOY
  have HR0 : Hid (∃ (t : Nat) (V : World) (u6 u7 : Value), V = v2 ∧ u6 = (Value.slice none 0 0) ∧ u7 = (Value.slice none 0 0) ∧ t ≤ n ∧ (Value.int .i64 0) = .int .i64 (t : Int) ∧ Tw v2.heap.size v2 v2 u6 t (P.take t) u7 t (Q.take t)) :=
    ⟨0, _, _, _, rfl, rfl, rfl, by omega, rfl, by simpa using Tw.nil (Bel.rf (a := v2)) (Nat.le_refl _)⟩
  go_wp2
  go_loopw [6, 7, 27] (fun s6 s7 s27 wr => ∃ (t : Nat) (V : World) (u6 u7 : Value), V = wr ∧ u6 = s6 ∧ u7 = s7 ∧ t ≤ n ∧ s27 = .int .i64 (t : Int) ∧ Tw v2.heap.size v2 wr u6 t (P.take t) u7 t (Q.take t)) (fun _ _ s27 _ => n - (intOf s27).toNat)
  case atStart => exact HR0.out
  case round =>
    clear HR0
    obtain ⟨t, wr, u6, u7, hwr, hu6, hu7, ht, rfl, hT⟩ := hrel
    subst hwr hu6 hu7
    have HT := Lib.hid hT
    rcases Nat.lt_or_ge t n with hlt | hge
    · obtain ⟨j, hj⟩ : ∃ j, n - 1 - t = j := ⟨_, rfl⟩
      have hji : (n : Int) - 1 - (t : Int) = (j : Int) := by omega
      have hjn : (j : Int) < (n : Int) := by omega
      have hjn2 : j < n := by omega
      have wj1 : IntKind.i64.wrap ((n : Int) - 1) = (n : Int) - 1 := IntWalk.i64_in _ (by omega)
      have wj3 : IntKind.i64.wrap (j : Int) = (j : Int) := IntWalk.i64_in _ (by omega)
      have wj2 : IntKind.i64.wrap ((n : Int) - 1 - (t : Int)) = (j : Int) := by rw [hji]; exact IntWalk.i64_in _ (by omega)
      have c1 := (HZX.out.bel hT.low).at j (by omega)
      have c2 := (HZY.out.bel hT.low).at j (by omega)
      have e1 := HP.out.2.2 t hlt
      have e2 := HQ.out.2.2 t hlt
      rw [hj] at e1 e2
      obtain ⟨x, hx⟩ : ∃ x, L.getD j 0 = x := ⟨_, rfl⟩
      obtain ⟨y, hy⟩ : ∃ x, M.getD j 0 = x := ⟨_, rfl⟩
      rw [hx] at c1 e1
      rw [hy] at c2 e2
      have HX : Hid (P.take (t + 1) = P.take t ++ [x] ∧ Q.take (t + 1) = Q.take t ++ [y]) := ⟨by rw [take_snoc P t (by have := HP.out.1; omega), e1], by rw [take_snoc Q t (by have := HQ.out.1; omega), e2]⟩
      have HCX : Hid (∀ W, Bel v2 W → W.cell? ⟨xa, j, none⟩ = some (.int .i64 x)) := fun W hW => by have := (HZX.out.bel hW).at j hjn2; rwa [hx] at this
      have HCY : Hid (∀ W, Bel v2 W → W.cell? ⟨ya, j, none⟩ = some (.int .i64 y)) := fun W hW => by have := (HZY.out.bel hW).at j hjn2; rwa [hy] at this
      have cA1 : ∀ o, (wr.alloc o).cell? ⟨xa, j, none⟩ = some (.int .i64 x) := fun o => kp_al c1 o
      have cA2 : ∀ o, (wr.alloc o).cell? ⟨ya, j, none⟩ = some (.int .i64 y) := fun o => kp_al c2 o
      have cA3 : ∀ o, (wr.alloc o).drew.cell? ⟨xa, j, none⟩ = some (.int .i64 x) := fun o => kp_al c1 o
      have cA4 : ∀ o, (wr.alloc o).drew.cell? ⟨ya, j, none⟩ = some (.int .i64 y) := fun o => kp_al c2 o
      have ti : (t : Int) < (n : Int) := by omega
      clear hT hx hy e1 e2 hj
      go_wp2
      go_region_law (first
        | (refine step_app _ rfl (.tmp 30) (.tmp 39) rfl v2.heap.size u6 t (P.take t) rfl (own_bel hTB.o1 (by repeat (first | exact Bel.rf | (with_reducible refine Bel.drwN ?_ _) | (with_reducible refine Bel.drw ?_) | (with_reducible refine Bel.al ?_ _)))) _ 1 1 [x] rfl (by first | (refine zi_one (Bk.nq _ _ _ ?_); simp; done) | (refine zi_one ((Bk.nq _ _ _ ?_).al _); simp; done) | (refine zi_one (hkB _ ?_ (Bk.nq _ _ _ ?_)) <;> simp; done) | (refine zi_one (hkB _ ?_ ((Bk.nq _ _ _ ?_).al _)) <;> simp; done)) (by omega) (Tw.base (Tw.bel hTB (by repeat (first | exact Bel.rf | (with_reducible refine Bel.drwN ?_ _) | (with_reducible refine Bel.drw ?_) | (with_reducible refine Bel.al ?_ _))))) ?_; intro vp wp hop hgp hatp; have hT2 := Tw.app1 (Tw.bel hTB (by repeat (first | exact Bel.rf | (with_reducible refine Bel.drwN ?_ _) | (with_reducible refine Bel.drw ?_) | (with_reducible refine Bel.al ?_ _)))) hop hgp hatp)
        | (refine step_app _ rfl (.tmp 30) (.tmp 39) rfl v2.heap.size u6 t (P.take t) rfl (own_bel HT.out.o1 (by repeat (first | exact Bel.rf | (with_reducible refine Bel.drwN ?_ _) | (with_reducible refine Bel.drw ?_) | (with_reducible refine Bel.al ?_ _)))) _ 1 1 [x] rfl (by first | (refine zi_one (Bk.nq _ _ _ ?_); simp; done) | (refine zi_one ((Bk.nq _ _ _ ?_).al _); simp; done)) (by omega) (Tw.base (Tw.bel HT.out (by repeat (first | exact Bel.rf | (with_reducible refine Bel.drwN ?_ _) | (with_reducible refine Bel.drw ?_) | (with_reducible refine Bel.al ?_ _))))) ?_; intro vp wp hop hgp hatp; have hTA := Tw.app1 (Tw.bel HT.out (by repeat (first | exact Bel.rf | (with_reducible refine Bel.drwN ?_ _) | (with_reducible refine Bel.drw ?_) | (with_reducible refine Bel.al ?_ _)))) hop hgp hatp; have cqy := HCY.out _ (Tw.low hTA); have hkA := fun (q : Nat) (hq : wr.heap.size ≤ q) h => bk_grown (g := q) (t := 3) (cs := #[.int .i64 y]) h hgp (fun b e => (HT.out.o1.lt b e).2) hq)
        | (refine step_app _ rfl (.tmp 41) (.tmp 50) rfl v2.heap.size u7 t (Q.take t) rfl (own_bel hTA.o2 (by repeat (first | exact Bel.rf | (with_reducible refine Bel.drwN ?_ _) | (with_reducible refine Bel.drw ?_) | (with_reducible refine Bel.al ?_ _)))) _ 1 1 [y] rfl (by first | (refine zi_one (Bk.nq _ _ _ ?_); simp; done) | (refine zi_one ((Bk.nq _ _ _ ?_).al _); simp; done) | (refine zi_one (hkA _ ?_ (Bk.nq _ _ _ ?_)) <;> simp; done) | (refine zi_one (hkA _ ?_ ((Bk.nq _ _ _ ?_).al _)) <;> simp; done)) (by omega) (Tw.base (Tw.bel hTA (by repeat (first | exact Bel.rf | (with_reducible refine Bel.drwN ?_ _) | (with_reducible refine Bel.drw ?_) | (with_reducible refine Bel.al ?_ _))))) ?_; intro vq wq hoq hgq hatq; have hT2 := Tw.app2 (Tw.bel hTA (by repeat (first | exact Bel.rf | (with_reducible refine Bel.drwN ?_ _) | (with_reducible refine Bel.drw ?_) | (with_reducible refine Bel.al ?_ _)))) hoq hgq hatq)
        | (refine step_app _ rfl (.tmp 41) (.tmp 50) rfl v2.heap.size u7 t (Q.take t) rfl (own_bel HT.out.o2 (by repeat (first | exact Bel.rf | (with_reducible refine Bel.drwN ?_ _) | (with_reducible refine Bel.drw ?_) | (with_reducible refine Bel.al ?_ _)))) _ 1 1 [y] rfl (by first | (refine zi_one (Bk.nq _ _ _ ?_); simp; done) | (refine zi_one ((Bk.nq _ _ _ ?_).al _); simp; done)) (by omega) (Tw.base (Tw.bel HT.out (by repeat (first | exact Bel.rf | (with_reducible refine Bel.drwN ?_ _) | (with_reducible refine Bel.drw ?_) | (with_reducible refine Bel.al ?_ _))))) ?_; intro vq wq hoq hgq hatq; have hTB := Tw.app2 (Tw.bel HT.out (by repeat (first | exact Bel.rf | (with_reducible refine Bel.drwN ?_ _) | (with_reducible refine Bel.drw ?_) | (with_reducible refine Bel.al ?_ _)))) hoq hgq hatq; have cqx := HCX.out _ (Tw.low hTB); have hkB := fun (q : Nat) (hq : wr.heap.size ≤ q) h => bk_grown (g := q) (t := 3) (cs := #[.int .i64 x]) h hgq (fun b e => (HT.out.o2.lt b e).2) hq))
      all_goals
        have HT2 := Lib.hid hT2
        clear hT2
        go_wp2
        go_roundw
        case rel => exact ⟨t + 1, _, _, _, rfl, rfl, rfl, by omega, by go_num, by rw [HX.out.1, HX.out.2]; exact HT2.out⟩
        case measure => simp [intOf]; omega
    · obtain rfl : t = n := by omega
      rw [List.take_of_length_le (by have := HP.out.1; omega), List.take_of_length_le (by have := HQ.out.1; omega)] at hT
      obtain ⟨pa, pb, rfl, hpc, hpq⟩ := row_form hT.o1 (by omega)
      obtain ⟨qa, qb, rfl, hqc, hqq⟩ := row_form hT.o2 (by omega)
      have zp : Zi wr (some ⟨pa, 0, none⟩) t P := own_zi hT.o1 HP.out.1
      have zq : Zi wr (some ⟨qa, 0, none⟩) t Q := own_zi hT.o2 HQ.out.1
      have hbv : Bel v2 wr := hT.low
      have zx := HZX.out.bel hbv
      have zy := HZY.out.bel hbv
      obtain ⟨lL, lM, sL, sM⟩ := HLL.out
      have hlm := HLM.out
      have G1 : Hid (∀ W, Bel wr W → _) := fun W hW => Gap_ok (some ⟨xa, 0, none⟩) (some ⟨ya, 0, none⟩) xb yb t L M n1 n2 sL sM W (zx.bel hW) (zy.bel hW)
      have G2 : Hid (∀ W, Bel wr W → _) := fun W hW => Gap_ok (some ⟨ya, 0, none⟩) (some ⟨xa, 0, none⟩) yb xb t M L n1 n2 sM sL W (zy.bel hW) (zx.bel hW)
      have G3 : Hid (∀ W, Bel wr W → _) := fun W hW => Gap_ok (some ⟨pa, 0, none⟩) (some ⟨qa, 0, none⟩) pb qb t P Q n1 n2 HP.out.2.1 HQ.out.2.1 W (zp.bel hW) (zq.bel hW)
      have P1 : Hid (∀ W, Bel wr W → _) := fun W hW => Product_ok (some ⟨xa, 0, none⟩) (some ⟨ya, 0, none⟩) xb yb t L M n1 n2 sL sM W (zx.bel hW) (zy.bel hW)
      have S1 : Hid (∀ W, Bel wr W → _) := fun W hW => spread_ok xa xb t L (by omega) n2 W (zx.bel hW)
      have S2 : Hid (∀ W, Bel wr W → _) := fun W hW => spread_ok ya yb t M (by omega) n2 W (zy.bel hW)
      unfold gv at G1 G2 G3
      rw [HREV.out.1, HREV.out.2.1, HREV.out.2.2] at G3
      rw [pr_comm hlm.symm, ← (gap_swap (vr L) (vr M) (pr L M)).1, ← (gap_swap (vr L) (vr M) (pr L M)).2] at G2
      have v := vr_le sL (by omega)
      have u := vr_le sM (by omega)
      have cs := pr_cs hlm
      have rv := red_in (c := pr L M) v.1 u.1 v.2 u.2 cs
      have one := gap_one (c := pr L M) v.1 u.1 v.2 u.2 cs
      have hzc : vr L = 0 ∨ vr M = 0 → pr L M = 0 := fun h0 => by
        have : vr L * vr M = 0 := by rcases h0 with h | h <;> rw [h] <;> simp
        have h2 := sq_nn (pr L M)
        have : pr L M * pr L M = 0 := by omega
        rcases Int.mul_eq_zero.1 this with h | h <;> exact h
      have VA : Hid (∀ W, Calls Try.prog 13 #[.agg #[.int .i64 (rN (vr L) (vr M) (pr L M)), .int .i64 (rD (vr L) (vr M) (pr L M))]] W fun e w' => e = .returned (.bool true) ∧ Bel W w') := rvalid_ok _ _ rv.1
      have CM : Hid (∀ W, Calls Try.prog 14 #[.agg #[.int .i64 (rN (vr L) (vr M) (pr L M)), .int .i64 (rD (vr L) (vr M) (pr L M))], .agg #[.int .i64 2, .int .i64 1]] W fun e w' => e = .returned (.int .i64 (cmpI (rN (vr L) (vr M) (pr L M) * 1) (2 * rD (vr L) (vr M) (pr L M)))) ∧ Bel W w') := rcmp_ok _ _ _ _ rv.1 one_rv.2.2
      have LS : Hid (∀ W, Calls Try.prog 16 #[.agg #[.int .i64 (rN (vr L) (vr M) (pr L M)), .int .i64 (rD (vr L) (vr M) (pr L M))], .agg #[.int .i64 1, .int .i64 1]] W fun e w' => e = .returned (.bool (decide (rN (vr L) (vr M) (pr L M) * 1 < 1 * rD (vr L) (vr M) (pr L M)))) ∧ Bel W w') := rless_any _ _ _ _ rv.1 one_rv.2.1
      rw [Int.mul_one] at CM LS
      rw [Int.one_mul] at LS
      obtain ⟨c, hc⟩ : ∃ c, pr L M = c := ⟨_, rfl⟩
      obtain ⟨V, hV⟩ : ∃ c, vr L = c := ⟨_, rfl⟩
      obtain ⟨U, hU⟩ : ∃ c, vr M = c := ⟨_, rfl⟩
      rw [hV, hU, hc] at G1 G2 G3 VA CM LS one hzc
      rw [hV] at S1
      rw [hU] at S2
      rw [hc] at P1
      obtain ⟨X, hX⟩ : ∃ x, rN V U c = x := ⟨_, rfl⟩
      obtain ⟨Y, hY⟩ : ∃ x, rD V U c = x := ⟨_, rfl⟩
      rw [hX, hY] at G1 G2 G3 VA CM LS one
      obtain ⟨R, hR⟩ : ∃ r, cmpI X (2 * Y) = r := ⟨_, rfl⟩
      rw [hR] at CM
      have kR : decide (R ≤ 0) = true := by
        rw [← hR]
        rcases Int.lt_or_le X (2 * Y) with g | g
        · rw [cmpI_lt g]; rfl
        · rw [cmpI_eq (show X = 2 * Y by have := one.2.2; omega)]; rfl
      have HCASE : Hid ((V = 0 ∧ U = 0 ∧ c = 0 ∧ decide (X < Y) = true ∧ (X ≠ 1 ∨ (X = 1 ∧ Y ≠ 1))) ∨ (c = 0 ∧ X = 1 ∧ Y = 1 ∧ decide (X < Y) = false ∧ V ≠ 0) ∨ (c = 0 ∧ X = 1 ∧ Y = 1 ∧ decide (X < Y) = false ∧ V = 0 ∧ U ≠ 0) ∨ (0 < c ∧ V ≠ 0 ∧ U ≠ 0 ∧ decide (X < Y) = true ∧ (X ≠ 1 ∨ (X = 1 ∧ Y ≠ 1))) ∨ (c < 0 ∧ V ≠ 0 ∧ U ≠ 0 ∧ decide (X < Y) = false ∧ (X ≠ 1 ∨ (X = 1 ∧ Y ≠ 1)))) := by
        obtain ⟨o1, o2, o3⟩ := one
        have hne : ¬ (X = 1 ∧ Y = 1) → (X ≠ 1 ∨ (X = 1 ∧ Y ≠ 1)) := fun h => by omega
        show _ ∨ _
        rcases Int.lt_trichotomy c 0 with g | g | g
        · have h1 : V ≠ 0 := fun h => by have := hzc (.inl h); omega
          have h2 : U ≠ 0 := fun h => by have := hzc (.inr h); omega
          exact .inr (.inr (.inr (.inr ⟨g, h1, h2, decide_eq_false (fun h => by have := o2.1 h; omega), hne (fun h => by have := o1.1 h; omega)⟩)))
        · rcases Classical.em (V = 0) with hv | hv
          · rcases Classical.em (U = 0) with hu | hu
            · exact .inl ⟨hv, hu, g, decide_eq_true (o2.2 (.inr ⟨hv, hu⟩)), hne (fun h => by have := o1.1 h; omega)⟩
            · have := o1.2 ⟨g, .inr hu⟩
              exact .inr (.inr (.inl ⟨g, this.1, this.2, decide_eq_false (by omega), hv, hu⟩))
          · have := o1.2 ⟨g, .inl hv⟩
            exact .inr (.inl ⟨g, this.1, this.2, decide_eq_false (by omega), hv⟩)
        · have h1 : V ≠ 0 := fun h => by have := hzc (.inl h); omega
          have h2 : U ≠ 0 := fun h => by have := hzc (.inr h); omega
          exact .inr (.inr (.inr (.inl ⟨g, h1, h2, decide_eq_true (o2.2 (.inl g)), hne (fun h => by have := o1.1 h; omega)⟩)))
      have HBV := Lib.hid hbv
      have HALL := Lib.hid (And.intro hc (And.intro hV (And.intro hU (And.intro hX (And.intro hY hR)))))
      have kXX : (X == X) = true := by simp
      have kYY : (Y == Y) = true := by simp
      clear hT zp zq hbv zx zy lL lM sL sM hlm v u cs rv one hzc hc hV hU hX hY hR HZX HZY HLM hpc hpq hqc hqq
      go_wp2_with fail
      go_at_call 11
      refine (G1.out _ Bel.rf).mono ?_
      rintro e p1 ⟨rfl, hb⟩
      have HD_p1 : Hid (Bel wr (p1.alloc (.cells #[.int .i64 X, .int .i64 Y] 28))) := (hb).al _
      have HN_p1 : Hid (Bk (p1.alloc (.cells #[.int .i64 X, .int .i64 Y] 28)) p1.heap.size 28 #[.int .i64 X, .int .i64 Y]) := Bk.nw _ _ _
      clear hb
      go_wp2_with fail
      go_at_call 11
      refine (G2.out _ HD_p1.out).mono ?_
      rintro e p2 ⟨rfl, hb⟩
      have HD_p2 : Hid (Bel wr (p2.alloc (.cells #[.int .i64 X, .int .i64 Y] 28))) := (HD_p1.out.tr hb).al _
      have HN_p2 : Hid (Bk (p2.alloc (.cells #[.int .i64 X, .int .i64 Y] 28)) p2.heap.size 28 #[.int .i64 X, .int .i64 Y]) := Bk.nw _ _ _
      have HN_p1 := Lib.hid ((HN_p1.out.bel hb).al (.cells #[.int .i64 X, .int .i64 Y] 28))
      clear hb
      go_wp2_with fail
      go_at_call 11
      refine (G3.out _ HD_p2.out).mono ?_
      rintro e p3 ⟨rfl, hb⟩
      have HD_p3 : Hid (Bel wr (p3.alloc (.cells #[.int .i64 X, .int .i64 Y] 28))) := (HD_p2.out.tr hb).al _
      have HN_p3 : Hid (Bk (p3.alloc (.cells #[.int .i64 X, .int .i64 Y] 28)) p3.heap.size 28 #[.int .i64 X, .int .i64 Y]) := Bk.nw _ _ _
      have HN_p1 := Lib.hid ((HN_p1.out.bel hb).al (.cells #[.int .i64 X, .int .i64 Y] 28))
      have HN_p2 := Lib.hid ((HN_p2.out.bel hb).al (.cells #[.int .i64 X, .int .i64 Y] 28))
      clear hb
      go_wp2_with fail
      go_at_call 12
      refine (P1.out _ HD_p3.out).mono ?_
      rintro e p4 ⟨rfl, hb⟩
      have HD_p4 : Hid (Bel wr (p4.alloc (.cells #[.int .i64 1, .int .i64 1] 28))) := (HD_p3.out.tr hb).al _
      have HN1 := Lib.hid ((HN_p1.out.bel hb).al (.cells #[.int .i64 1, .int .i64 1] 28))
      have B2 := (HN_p2.out.bel hb).al (.cells #[.int .i64 1, .int .i64 1] 28)
      have B3 := (HN_p3.out.bel hb).al (.cells #[.int .i64 1, .int .i64 1] 28)
      have HO : Hid (Bk (p4.alloc (.cells #[.int .i64 1, .int .i64 1] 28)) p4.heap.size 28 #[.int .i64 1, .int .i64 1]) := Bk.nw _ _ _
      clear hb
      have q2 : (p4.alloc (.cells #[.int .i64 1, .int .i64 1] 28)).cell? ⟨p2.heap.size, 0, none⟩ = some (.int .i64 X) := B2.cell 0
      have q3 : (p4.alloc (.cells #[.int .i64 1, .int .i64 1] 28)).cell? ⟨p2.heap.size, 1, none⟩ = some (.int .i64 Y) := B2.cell 1
      have q4 : (p4.alloc (.cells #[.int .i64 1, .int .i64 1] 28)).cell? ⟨p3.heap.size, 0, none⟩ = some (.int .i64 X) := B3.cell 0
      have q5 : (p4.alloc (.cells #[.int .i64 1, .int .i64 1] 28)).cell? ⟨p3.heap.size, 1, none⟩ = some (.int .i64 Y) := B3.cell 1
      have q0 : (p4.alloc (.cells #[.int .i64 1, .int .i64 1] 28)).cell? ⟨p1.heap.size, 0, none⟩ = some (.int .i64 X) := HN1.out.cell 0
      have q1 : (p4.alloc (.cells #[.int .i64 1, .int .i64 1] 28)).cell? ⟨p1.heap.size, 1, none⟩ = some (.int .i64 Y) := HN1.out.cell 1
      have q6 : (p4.alloc (.cells #[.int .i64 1, .int .i64 1] 28)).cell? ⟨p4.heap.size, 0, none⟩ = some (.int .i64 1) := HO.out.cell 0
      have q7 : (p4.alloc (.cells #[.int .i64 1, .int .i64 1] 28)).cell? ⟨p4.heap.size, 1, none⟩ = some (.int .i64 1) := HO.out.cell 1
      clear B2 B3
      have kR2 : R ≤ 0 := of_decide_eq_true kR
      rcases HCASE.out with ⟨rfl, rfl, rfl, hl, hne⟩ | ⟨rfl, rfl, rfl, hl, hv⟩ | ⟨rfl, rfl, rfl, hl, rfl, hu⟩ | ⟨hc, hv, hu, hl, hne⟩ | ⟨hc, hv, hu, hl, hne⟩
      · rw [hl] at LS
        rw [show decide ((0 : Int) ≠ 0) = false by decide] at S1 S2
        clear hl
        rcases hne with hne | ⟨rfl, hne⟩
        · have e3 : (X == 1) = false := by simpa using hne
          have KS : Hid (∀ W', Bel (p4.alloc (.cells #[.int .i64 1, .int .i64 1] 28)) W' → ((fun w' => w'.cell? ⟨p1.heap.size, 0, none⟩ = some (.int .i64 X) ∧ w'.cell? ⟨p1.heap.size, 1, none⟩ = some (.int .i64 Y) ∧ w'.cell? ⟨p2.heap.size, 0, none⟩ = some (.int .i64 X) ∧ w'.cell? ⟨p2.heap.size, 1, none⟩ = some (.int .i64 Y) ∧ w'.cell? ⟨p3.heap.size, 0, none⟩ = some (.int .i64 X) ∧ w'.cell? ⟨p3.heap.size, 1, none⟩ = some (.int .i64 Y) ∧ w'.cell? ⟨p4.heap.size, 0, none⟩ = some (.int .i64 1) ∧ w'.cell? ⟨p4.heap.size, 1, none⟩ = some (.int .i64 1))) W') := fun W' h => ⟨h.kp q0, h.kp q1, h.kp q2, h.kp q3, h.kp q4, h.kp q5, h.kp q6, h.kp q7⟩
          clear q0 q1 q2 q3 q4 q5 q6 q7
          go_wp2_with fail
          simp only [List.append_eq, List.cons_append, List.nil_append]
          as_aux_lemma =>
            go_region_held3 (fun w' => w'.cell? ⟨p1.heap.size, 0, none⟩ = some (.int .i64 X) ∧ w'.cell? ⟨p1.heap.size, 1, none⟩ = some (.int .i64 Y) ∧ w'.cell? ⟨p2.heap.size, 0, none⟩ = some (.int .i64 X) ∧ w'.cell? ⟨p2.heap.size, 1, none⟩ = some (.int .i64 Y) ∧ w'.cell? ⟨p3.heap.size, 0, none⟩ = some (.int .i64 X) ∧ w'.cell? ⟨p3.heap.size, 1, none⟩ = some (.int .i64 Y) ∧ w'.cell? ⟨p4.heap.size, 0, none⟩ = some (.int .i64 1) ∧ w'.cell? ⟨p4.heap.size, 1, none⟩ = some (.int .i64 1))
              (exact KS.out _ (by repeat (first | exact Bel.rf | (with_reducible refine Bel.drwN ?_ _) | (with_reducible refine Bel.drw ?_) | (with_reducible refine Bel.al ?_ _) | (refine Bel.tr ?_ (by assumption)))))
              (first
                | (go_at_call 13; refine (VA.out _).mono ?_; rintro r s1 ⟨rfl, h1⟩)
                | (go_at_call 14; refine (CM.out _).mono ?_; rintro r s2 ⟨rfl, h2⟩)
                | (go_at_call 16; refine (LS.out _).mono ?_; rintro r s3 ⟨rfl, h3⟩)
                | (go_at_call 15; first
                    | ((with_reducible refine (S1.out _ (by repeat (first | exact HD_p4.out | (with_reducible refine Bel.drwN ?_ _) | (with_reducible refine Bel.drw ?_) | refine Bel.tr ?_ (by assumption)))).mono ?_); rintro r s4 ⟨rfl, h4⟩)
                    | ((with_reducible refine (S2.out _ (by repeat (first | exact HD_p4.out | (with_reducible refine Bel.drwN ?_ _) | (with_reducible refine Bel.drw ?_) | refine Bel.tr ?_ (by assumption)))).mono ?_); rintro r s5 ⟨rfl, h5⟩))
                | (go_at_call 17; refine (AW.out _).mono ?_; rintro r s6 ⟨rfl, h6⟩))
            all_goals
              go_wp2
              go_ret
              exact ⟨rfl, Bel.bl (Bel.tr (HB2.out.tr HBV.out) (by repeat (first | exact HD_p4.out | (with_reducible refine Bel.drwN ?_ _) | (with_reducible refine Bel.drw ?_) | refine Bel.tr ?_ (by assumption))))⟩
        · have e3 : (Y == 1) = false := by simpa using hne
          have KS : Hid (∀ W', Bel (p4.alloc (.cells #[.int .i64 1, .int .i64 1] 28)) W' → ((fun w' => w'.cell? ⟨p1.heap.size, 0, none⟩ = some (.int .i64 1) ∧ w'.cell? ⟨p1.heap.size, 1, none⟩ = some (.int .i64 Y) ∧ w'.cell? ⟨p2.heap.size, 0, none⟩ = some (.int .i64 1) ∧ w'.cell? ⟨p2.heap.size, 1, none⟩ = some (.int .i64 Y) ∧ w'.cell? ⟨p3.heap.size, 0, none⟩ = some (.int .i64 1) ∧ w'.cell? ⟨p3.heap.size, 1, none⟩ = some (.int .i64 Y) ∧ w'.cell? ⟨p4.heap.size, 0, none⟩ = some (.int .i64 1) ∧ w'.cell? ⟨p4.heap.size, 1, none⟩ = some (.int .i64 1))) W') := fun W' h => ⟨h.kp q0, h.kp q1, h.kp q2, h.kp q3, h.kp q4, h.kp q5, h.kp q6, h.kp q7⟩
          clear q0 q1 q2 q3 q4 q5 q6 q7
          go_wp2_with fail
          simp only [List.append_eq, List.cons_append, List.nil_append]
          as_aux_lemma =>
            go_region_held3 (fun w' => w'.cell? ⟨p1.heap.size, 0, none⟩ = some (.int .i64 1) ∧ w'.cell? ⟨p1.heap.size, 1, none⟩ = some (.int .i64 Y) ∧ w'.cell? ⟨p2.heap.size, 0, none⟩ = some (.int .i64 1) ∧ w'.cell? ⟨p2.heap.size, 1, none⟩ = some (.int .i64 Y) ∧ w'.cell? ⟨p3.heap.size, 0, none⟩ = some (.int .i64 1) ∧ w'.cell? ⟨p3.heap.size, 1, none⟩ = some (.int .i64 Y) ∧ w'.cell? ⟨p4.heap.size, 0, none⟩ = some (.int .i64 1) ∧ w'.cell? ⟨p4.heap.size, 1, none⟩ = some (.int .i64 1))
              (exact KS.out _ (by repeat (first | exact Bel.rf | (with_reducible refine Bel.drwN ?_ _) | (with_reducible refine Bel.drw ?_) | (with_reducible refine Bel.al ?_ _) | (refine Bel.tr ?_ (by assumption)))))
              (first
                | (go_at_call 13; refine (VA.out _).mono ?_; rintro r s1 ⟨rfl, h1⟩)
                | (go_at_call 14; refine (CM.out _).mono ?_; rintro r s2 ⟨rfl, h2⟩)
                | (go_at_call 16; refine (LS.out _).mono ?_; rintro r s3 ⟨rfl, h3⟩)
                | (go_at_call 15; first
                    | ((with_reducible refine (S1.out _ (by repeat (first | exact HD_p4.out | (with_reducible refine Bel.drwN ?_ _) | (with_reducible refine Bel.drw ?_) | refine Bel.tr ?_ (by assumption)))).mono ?_); rintro r s4 ⟨rfl, h4⟩)
                    | ((with_reducible refine (S2.out _ (by repeat (first | exact HD_p4.out | (with_reducible refine Bel.drwN ?_ _) | (with_reducible refine Bel.drw ?_) | refine Bel.tr ?_ (by assumption)))).mono ?_); rintro r s5 ⟨rfl, h5⟩))
                | (go_at_call 17; refine (AW.out _).mono ?_; rintro r s6 ⟨rfl, h6⟩))
            all_goals
              go_wp2
              go_ret
              exact ⟨rfl, Bel.bl (Bel.tr (HB2.out.tr HBV.out) (by repeat (first | exact HD_p4.out | (with_reducible refine Bel.drwN ?_ _) | (with_reducible refine Bel.drw ?_) | refine Bel.tr ?_ (by assumption))))⟩

      · rw [hl] at LS
        rw [show decide (V ≠ 0) = true by simp [hv]] at S1
        clear hl
        have KS : Hid (∀ W', Bel (p4.alloc (.cells #[.int .i64 1, .int .i64 1] 28)) W' → ((fun w' => w'.cell? ⟨p1.heap.size, 0, none⟩ = some (.int .i64 1) ∧ w'.cell? ⟨p1.heap.size, 1, none⟩ = some (.int .i64 1) ∧ w'.cell? ⟨p2.heap.size, 0, none⟩ = some (.int .i64 1) ∧ w'.cell? ⟨p2.heap.size, 1, none⟩ = some (.int .i64 1) ∧ w'.cell? ⟨p3.heap.size, 0, none⟩ = some (.int .i64 1) ∧ w'.cell? ⟨p3.heap.size, 1, none⟩ = some (.int .i64 1) ∧ w'.cell? ⟨p4.heap.size, 0, none⟩ = some (.int .i64 1) ∧ w'.cell? ⟨p4.heap.size, 1, none⟩ = some (.int .i64 1))) W') := fun W' h => ⟨h.kp q0, h.kp q1, h.kp q2, h.kp q3, h.kp q4, h.kp q5, h.kp q6, h.kp q7⟩
        clear q0 q1 q2 q3 q4 q5 q6 q7
        go_wp2_with fail
        simp only [List.append_eq, List.cons_append, List.nil_append]
        as_aux_lemma =>
          refine wp_region_noPanic ?_
          refine wp_region_held_drew (S := (fun w' => w'.cell? ⟨p1.heap.size, 0, none⟩ = some (.int .i64 1) ∧ w'.cell? ⟨p1.heap.size, 1, none⟩ = some (.int .i64 1) ∧ w'.cell? ⟨p2.heap.size, 0, none⟩ = some (.int .i64 1) ∧ w'.cell? ⟨p2.heap.size, 1, none⟩ = some (.int .i64 1) ∧ w'.cell? ⟨p3.heap.size, 0, none⟩ = some (.int .i64 1) ∧ w'.cell? ⟨p3.heap.size, 1, none⟩ = some (.int .i64 1) ∧ w'.cell? ⟨p4.heap.size, 0, none⟩ = some (.int .i64 1) ∧ w'.cell? ⟨p4.heap.size, 1, none⟩ = some (.int .i64 1))) (by kernel_rfl) ?_ (fun hH0 => ?_)
          · (try dsimp only); exact KS.out _ (by repeat (first | exact Bel.rf | (with_reducible refine Bel.drwN ?_ _) | (with_reducible refine Bel.drw ?_) | (with_reducible refine Bel.al ?_ _) | (refine Bel.tr ?_ (by assumption))))
          refine wpAnyH_take (i := 0) (oi := ⟨some 78, .move (.tmp 10), 29, "law.go:112", #[], none⟩) (v := ?_) rfl (by kernel_rfl) (by kernel_rfl) (by kernel_rfl) (fun _ _ _ h => h) (Or.inl ⟨by rfl, ?_⟩) (by assumption) ?_
          rotate_left
          · (intro w hSw; (try dsimp only at hSw); go_simp; try with_reducible rfl)
          try simp only [Act.put, List.setIfInBounds_toArray, List.set_cons_zero, List.set_cons_succ]
          refine wpAnyH_take (i := 1) (oi := ⟨some 79, .binOp .eql 29 (.tmp 78) (.const (.int .i64 0)) 29, 4, "law.go:112", #[⟨0, .data⟩], none⟩) (v := ?_) rfl (by kernel_rfl) (by kernel_rfl) (by kernel_rfl) (fun _ _ _ h => h) (Or.inl ⟨by rfl, ?_⟩) (by assumption) ?_
          rotate_left
          · (intro w hSw; (try dsimp only at hSw); go_simp; try with_reducible rfl)
          try simp only [Act.put, List.setIfInBounds_toArray, List.set_cons_zero, List.set_cons_succ]
          refine wpAnyH_take (i := 2) (oi := ⟨some 80, .move (.tmp 79), 4, "law.go:112", #[⟨1, .data⟩], none⟩) (v := ?_) rfl (by kernel_rfl) (by kernel_rfl) (by kernel_rfl) (fun _ _ _ h => h) (Or.inl ⟨by rfl, ?_⟩) (by assumption) ?_
          rotate_left
          · (intro w hSw; (try dsimp only at hSw); go_simp; try with_reducible rfl)
          try simp only [Act.put, List.setIfInBounds_toArray, List.set_cons_zero, List.set_cons_succ]
          refine wpAnyH_take (i := 3) (oi := ⟨some 81, .move (.tmp 12), 29, "law.go:112", #[⟨2, .guard⟩], some (2, true)⟩) (v := ?_) rfl (by kernel_rfl) (by kernel_rfl) (by kernel_rfl) (fun _ _ _ h => h) (Or.inl ⟨by rfl, ?_⟩) (by assumption) ?_
          rotate_left
          · (intro w hSw; (try dsimp only at hSw); go_simp; try with_reducible rfl)
          try simp only [Act.put, List.setIfInBounds_toArray, List.set_cons_zero, List.set_cons_succ]
          refine wpAnyH_take (i := 4) (oi := ⟨some 82, .binOp .eql 29 (.tmp 81) (.const (.int .i64 0)) 29, 4, "law.go:112", #[⟨3, .data⟩, ⟨2, .guard⟩], some (2, true)⟩) (v := ?_) rfl (by kernel_rfl) (by kernel_rfl) (by kernel_rfl) (fun _ _ _ h => h) (Or.inl ⟨by rfl, ?_⟩) (by assumption) ?_
          rotate_left
          · (intro w hSw; (try dsimp only at hSw); go_simp; try with_reducible rfl)
          try simp only [Act.put, List.setIfInBounds_toArray, List.set_cons_zero, List.set_cons_succ]
          refine wpAnyH_take (i := 5) (oi := ⟨some 83, .pick (.tmp 80) (.tmp 82) (.const (.bool false)), 4, "law.go:112", #[⟨2, .data⟩, ⟨4, .data⟩], none⟩) (v := ?_) rfl (by kernel_rfl) (by kernel_rfl) (by kernel_rfl) (fun _ _ _ h => h) (Or.inl ⟨by rfl, ?_⟩) (by assumption) ?_
          rotate_left
          · (intro w hSw; (try dsimp only at hSw); go_simp; try with_reducible rfl)
          try simp only [Act.put, List.setIfInBounds_toArray, List.set_cons_zero, List.set_cons_succ]
          refine wpAnyH_take (i := 6) (oi := ⟨some 84, .move (.tmp 83), 4, "law.go:112", #[⟨5, .data⟩, ⟨2, .chain⟩], none⟩) (v := ?_) rfl (by kernel_rfl) (by kernel_rfl) (by kernel_rfl) (fun _ _ _ h => h) (Or.inl ⟨by rfl, ?_⟩) (by assumption) ?_
          rotate_left
          · (intro w hSw; (try dsimp only at hSw); go_simp; try with_reducible rfl)
          try simp only [Act.put, List.setIfInBounds_toArray, List.set_cons_zero, List.set_cons_succ]
          refine wpAnyH_take (i := 7) (oi := ⟨some 85, .move (.tmp 14), 29, "law.go:112", #[⟨6, .guard⟩], some (6, true)⟩) (v := ?_) rfl (by kernel_rfl) (by kernel_rfl) (by kernel_rfl) (fun _ _ _ h => h) (Or.inl ⟨by rfl, ?_⟩) (by assumption) ?_
          rotate_left
          · (intro w hSw; (try dsimp only at hSw); go_simp; try with_reducible rfl)
          try simp only [Act.put, List.setIfInBounds_toArray, List.set_cons_zero, List.set_cons_succ]
          refine wpAnyH_take (i := 8) (oi := ⟨some 86, .binOp .eql 29 (.tmp 85) (.const (.int .i64 0)) 29, 4, "law.go:112", #[⟨7, .data⟩, ⟨6, .guard⟩], some (6, true)⟩) (v := ?_) rfl (by kernel_rfl) (by kernel_rfl) (by kernel_rfl) (fun _ _ _ h => h) (Or.inl ⟨by rfl, ?_⟩) (by assumption) ?_
          rotate_left
          · (intro w hSw; (try dsimp only at hSw); go_simp; try with_reducible rfl)
          try simp only [Act.put, List.setIfInBounds_toArray, List.set_cons_zero, List.set_cons_succ]
          refine wpAnyH_take (i := 9) (oi := ⟨some 87, .pick (.tmp 84) (.tmp 86) (.const (.bool false)), 4, "law.go:112", #[⟨6, .data⟩, ⟨8, .data⟩], none⟩) (v := ?_) rfl (by kernel_rfl) (by kernel_rfl) (by kernel_rfl) (fun _ _ _ h => h) (Or.inl ⟨by rfl, ?_⟩) (by assumption) ?_
          rotate_left
          · (intro w hSw; (try dsimp only at hSw); go_simp; try with_reducible rfl)
          try simp only [Act.put, List.setIfInBounds_toArray, List.set_cons_zero, List.set_cons_succ]
          refine wpAnyH_take (i := 10) (oi := ⟨some 88, .move (.tmp 87), 4, "law.go:112", #[⟨9, .data⟩, ⟨6, .chain⟩], none⟩) (v := ?_) rfl (by kernel_rfl) (by kernel_rfl) (by kernel_rfl) (fun _ _ _ h => h) (Or.inl ⟨by rfl, ?_⟩) (by assumption) ?_
          rotate_left
          · (intro w hSw; (try dsimp only at hSw); go_simp; try with_reducible rfl)
          try simp only [Act.put, List.setIfInBounds_toArray, List.set_cons_zero, List.set_cons_succ]
          refine wpAnyH_take (i := 11) (oi := ⟨some 89, .move (.tmp 16), 29, "law.go:112", #[⟨10, .guard⟩], some (10, true)⟩) (v := ?_) rfl (by kernel_rfl) (by kernel_rfl) (by kernel_rfl) (fun _ _ _ h => h) (Or.inl ⟨by rfl, ?_⟩) (by assumption) ?_
          rotate_left
          · (intro w hSw; (try dsimp only at hSw); go_simp; try with_reducible rfl)
          try simp only [Act.put, List.setIfInBounds_toArray, List.set_cons_zero, List.set_cons_succ]
          refine wpAnyH_take (i := 12) (oi := ⟨some 90, .binOp .eql 29 (.tmp 89) (.const (.int .i64 0)) 29, 4, "law.go:112", #[⟨11, .data⟩, ⟨10, .guard⟩], some (10, true)⟩) (v := ?_) rfl (by kernel_rfl) (by kernel_rfl) (by kernel_rfl) (fun _ _ _ h => h) (Or.inl ⟨by rfl, ?_⟩) (by assumption) ?_
          rotate_left
          · (intro w hSw; (try dsimp only at hSw); go_simp; try with_reducible rfl)
          try simp only [Act.put, List.setIfInBounds_toArray, List.set_cons_zero, List.set_cons_succ]
          refine wpAnyH_take (i := 13) (oi := ⟨some 91, .pick (.tmp 88) (.tmp 90) (.const (.bool false)), 4, "law.go:112", #[⟨10, .data⟩, ⟨12, .data⟩], none⟩) (v := ?_) rfl (by kernel_rfl) (by kernel_rfl) (by kernel_rfl) (fun _ _ _ h => h) (Or.inl ⟨by rfl, ?_⟩) (by assumption) ?_
          rotate_left
          · (intro w hSw; (try dsimp only at hSw); go_simp; try with_reducible rfl)
          try simp only [Act.put, List.setIfInBounds_toArray, List.set_cons_zero, List.set_cons_succ]
          refine wpAnyH_take (i := 14) (oi := ⟨some 92, .move (.tmp 91), 4, "law.go:112", #[⟨13, .data⟩, ⟨10, .chain⟩], none⟩) (v := ?_) rfl (by kernel_rfl) (by kernel_rfl) (by kernel_rfl) (fun _ _ _ h => h) (Or.inl ⟨by rfl, ?_⟩) (by assumption) ?_
          rotate_left
          · (intro w hSw; (try dsimp only at hSw); go_simp; try with_reducible rfl)
          try simp only [Act.put, List.setIfInBounds_toArray, List.set_cons_zero, List.set_cons_succ]
          refine wpAnyH_take (i := 15) (oi := ⟨some 93, .load 28 (.tmp 9), 28, "law.go:112", #[⟨14, .guard⟩], some (14, true)⟩) (v := ?_) rfl (by kernel_rfl) (by kernel_rfl) (by kernel_rfl) (fun _ _ _ h => h) (Or.inl ⟨by rfl, ?_⟩) (by assumption) ?_
          rotate_left
          · (intro w hSw; (try dsimp only at hSw); go_simp; try with_reducible rfl)
          try simp only [Act.put, List.setIfInBounds_toArray, List.set_cons_zero, List.set_cons_succ]
          refine wpAnyH_take (i := 16) (oi := ⟨some 94, .load 28 (.tmp 11), 28, "law.go:112", #[⟨14, .guard⟩], some (14, true)⟩) (v := ?_) rfl (by kernel_rfl) (by kernel_rfl) (by kernel_rfl) (fun _ _ _ h => h) (Or.inl ⟨by rfl, ?_⟩) (by assumption) ?_
          rotate_left
          · (intro w hSw; (try dsimp only at hSw); go_simp; try with_reducible rfl)
          try simp only [Act.put, List.setIfInBounds_toArray, List.set_cons_zero, List.set_cons_succ]
          refine wpAnyH_take (i := 17) (oi := ⟨some 95, .binOp .eql 28 (.tmp 93) (.tmp 94) 28, 4, "law.go:112", #[⟨15, .data⟩, ⟨16, .data⟩, ⟨14, .guard⟩], some (14, true)⟩) (v := ?_) rfl (by kernel_rfl) (by kernel_rfl) (by kernel_rfl) (fun _ _ _ h => h) (Or.inl ⟨by rfl, ?_⟩) (by assumption) ?_
          rotate_left
          · (intro w hSw; (try dsimp only at hSw); go_simp; try with_reducible rfl)
          try simp only [Act.put, List.setIfInBounds_toArray, List.set_cons_zero, List.set_cons_succ]
          refine wpAnyH_take (i := 18) (oi := ⟨some 96, .pick (.tmp 92) (.tmp 95) (.const (.bool false)), 4, "law.go:112", #[⟨14, .data⟩, ⟨17, .data⟩], none⟩) (v := ?_) rfl (by kernel_rfl) (by kernel_rfl) (by kernel_rfl) (fun _ _ _ h => h) (Or.inl ⟨by rfl, ?_⟩) (by assumption) ?_
          rotate_left
          · (intro w hSw; (try dsimp only at hSw); go_simp; try with_reducible rfl)
          try simp only [Act.put, List.setIfInBounds_toArray, List.set_cons_zero, List.set_cons_succ]
          refine wpAnyH_take (i := 19) (oi := ⟨some 97, .move (.tmp 96), 4, "law.go:112", #[⟨18, .data⟩, ⟨14, .chain⟩], none⟩) (v := ?_) rfl (by kernel_rfl) (by kernel_rfl) (by kernel_rfl) (fun _ _ _ h => h) (Or.inl ⟨by rfl, ?_⟩) (by assumption) ?_
          rotate_left
          · (intro w hSw; (try dsimp only at hSw); go_simp; try with_reducible rfl)
          try simp only [Act.put, List.setIfInBounds_toArray, List.set_cons_zero, List.set_cons_succ]
          refine wpAnyH_take (i := 20) (oi := ⟨some 98, .load 28 (.tmp 9), 28, "law.go:112", #[⟨19, .guard⟩], some (19, true)⟩) (v := ?_) rfl (by kernel_rfl) (by kernel_rfl) (by kernel_rfl) (fun _ _ _ h => h) (Or.inl ⟨by rfl, ?_⟩) (by assumption) ?_
          rotate_left
          · (intro w hSw; (try dsimp only at hSw); go_simp; try with_reducible rfl)
          try simp only [Act.put, List.setIfInBounds_toArray, List.set_cons_zero, List.set_cons_succ]
          refine wpAnyH_take (i := 21) (oi := ⟨some 99, .load 28 (.tmp 13), 28, "law.go:112", #[⟨19, .guard⟩], some (19, true)⟩) (v := ?_) rfl (by kernel_rfl) (by kernel_rfl) (by kernel_rfl) (fun _ _ _ h => h) (Or.inl ⟨by rfl, ?_⟩) (by assumption) ?_
          rotate_left
          · (intro w hSw; (try dsimp only at hSw); go_simp; try with_reducible rfl)
          try simp only [Act.put, List.setIfInBounds_toArray, List.set_cons_zero, List.set_cons_succ]
          refine wpAnyH_take (i := 22) (oi := ⟨some 100, .binOp .eql 28 (.tmp 98) (.tmp 99) 28, 4, "law.go:112", #[⟨20, .data⟩, ⟨21, .data⟩, ⟨19, .guard⟩], some (19, true)⟩) (v := ?_) rfl (by kernel_rfl) (by kernel_rfl) (by kernel_rfl) (fun _ _ _ h => h) (Or.inl ⟨by rfl, ?_⟩) (by assumption) ?_
          rotate_left
          · (intro w hSw; (try dsimp only at hSw); go_simp; try with_reducible rfl)
          try simp only [Act.put, List.setIfInBounds_toArray, List.set_cons_zero, List.set_cons_succ]
          refine wpAnyH_take (i := 23) (oi := ⟨some 101, .pick (.tmp 97) (.tmp 100) (.const (.bool false)), 4, "law.go:112", #[⟨19, .data⟩, ⟨22, .data⟩], none⟩) (v := ?_) rfl (by kernel_rfl) (by kernel_rfl) (by kernel_rfl) (fun _ _ _ h => h) (Or.inl ⟨by rfl, ?_⟩) (by assumption) ?_
          rotate_left
          · (intro w hSw; (try dsimp only at hSw); go_simp; try with_reducible rfl)
          try simp only [Act.put, List.setIfInBounds_toArray, List.set_cons_zero, List.set_cons_succ]
          refine wpAnyH_take (i := 24) (oi := ⟨some 102, .move (.tmp 101), 4, "law.go:112", #[⟨23, .data⟩, ⟨19, .chain⟩], none⟩) (v := ?_) rfl (by kernel_rfl) (by kernel_rfl) (by kernel_rfl) (fun _ _ _ h => h) (Or.inl ⟨by rfl, ?_⟩) (by assumption) ?_
          rotate_left
          · (intro w hSw; (try dsimp only at hSw); go_simp; try with_reducible rfl)
          try simp only [Act.put, List.setIfInBounds_toArray, List.set_cons_zero, List.set_cons_succ]
          refine wpAnyH_take (i := 25) (oi := ⟨some 103, .load 28 (.tmp 9), 28, "law.go:112", #[⟨24, .guard⟩], some (24, true)⟩) (v := ?_) rfl (by kernel_rfl) (by kernel_rfl) (by kernel_rfl) (fun _ _ _ h => h) (Or.inl ⟨by rfl, ?_⟩) (by assumption) ?_
          rotate_left
          · (intro w hSw; (try dsimp only at hSw); go_simp; try with_reducible rfl)
          try simp only [Act.put, List.setIfInBounds_toArray, List.set_cons_zero, List.set_cons_succ]
          refine wpAnyH_ready (rs := [26]) (by kernel_rfl) (by simp) ?_
          refine AllReadyH.cons (o := ⟨some 104, .call ⟨.value (.func 13), #[.tmp 103], #[28]⟩, 4, "law.go:112", #[⟨25, .data⟩, ⟨24, .chain⟩, ⟨24, .guard⟩], some (24, true)⟩) rfl (fun K hK => ?_) AllReadyH.nil
          go_simp
          go_at_call 13; refine (VA.out _).mono ?_; rintro r s1 ⟨rfl, h1⟩
          try go_wp2_with fail
          refine hK.out _ _ ?_ (fun hH1 => ?_)
          · (try dsimp only); exact KS.out _ (by repeat (first | exact Bel.rf | (with_reducible refine Bel.drwN ?_ _) | (with_reducible refine Bel.drw ?_) | (with_reducible refine Bel.al ?_ _) | (refine Bel.tr ?_ (by assumption))))
          clear hK K hH0
          try simp only [Act.put, List.setIfInBounds_toArray, List.set_cons_zero, List.set_cons_succ]
          refine wpAnyH_take (i := 27) (oi := ⟨some 105, .pick (.tmp 102) (.tmp 104) (.const (.bool false)), 4, "law.go:112", #[⟨24, .data⟩, ⟨26, .data⟩], none⟩) (v := ?_) rfl (by kernel_rfl) (by kernel_rfl) (by kernel_rfl) (fun _ _ _ h => h) (Or.inl ⟨by rfl, ?_⟩) (by assumption) ?_
          rotate_left
          · (intro w hSw; (try dsimp only at hSw); go_simp; try with_reducible rfl)
          try simp only [Act.put, List.setIfInBounds_toArray, List.set_cons_zero, List.set_cons_succ]
          refine wpAnyH_take (i := 28) (oi := ⟨some 106, .move (.tmp 105), 4, "law.go:112", #[⟨27, .data⟩, ⟨26, .chain⟩], none⟩) (v := ?_) rfl (by kernel_rfl) (by kernel_rfl) (by kernel_rfl) (fun _ _ _ h => h) (Or.inl ⟨by rfl, ?_⟩) (by assumption) ?_
          rotate_left
          · (intro w hSw; (try dsimp only at hSw); go_simp; try with_reducible rfl)
          try simp only [Act.put, List.setIfInBounds_toArray, List.set_cons_zero, List.set_cons_succ]
          refine wpAnyH_take (i := 29) (oi := ⟨some 107, .load 28 (.tmp 9), 28, "law.go:112", #[⟨28, .guard⟩], some (28, true)⟩) (v := ?_) rfl (by kernel_rfl) (by kernel_rfl) (by kernel_rfl) (fun _ _ _ h => h) (Or.inl ⟨by rfl, ?_⟩) (by assumption) ?_
          rotate_left
          · (intro w hSw; (try dsimp only at hSw); go_simp; try with_reducible rfl)
          try simp only [Act.put, List.setIfInBounds_toArray, List.set_cons_zero, List.set_cons_succ]
          refine wpAnyH_take (i := 30) (oi := ⟨some 108, .build 28 #[(0, .const (.int .i64 2)), (1, .const (.int .i64 1))], 28, "law.go:112", #[⟨28, .guard⟩], some (28, true)⟩) (v := ?_) rfl (by kernel_rfl) (by kernel_rfl) (by kernel_rfl) (fun _ _ _ h => h) (Or.inl ⟨by rfl, ?_⟩) (by assumption) ?_
          rotate_left
          · (intro w hSw; (try dsimp only at hSw); go_simp; try with_reducible rfl)
          try simp only [Act.put, List.setIfInBounds_toArray, List.set_cons_zero, List.set_cons_succ]
          refine wpAnyH_ready (rs := [31]) (by kernel_rfl) (by simp) ?_
          refine AllReadyH.cons (o := ⟨some 109, .call ⟨.value (.func 14), #[.tmp 107, .tmp 108], #[28, 28]⟩, 3, "law.go:112", #[⟨29, .data⟩, ⟨30, .data⟩, ⟨28, .chain⟩, ⟨28, .guard⟩], some (28, true)⟩) rfl (fun K hK => ?_) AllReadyH.nil
          go_simp
          go_at_call 14; refine (CM.out _).mono ?_; rintro r s2 ⟨rfl, h2⟩
          try go_wp2_with fail
          refine hK.out _ _ ?_ (fun hH2 => ?_)
          · (try dsimp only); exact KS.out _ (by repeat (first | exact Bel.rf | (with_reducible refine Bel.drwN ?_ _) | (with_reducible refine Bel.drw ?_) | (with_reducible refine Bel.al ?_ _) | (refine Bel.tr ?_ (by assumption))))
          clear hK K hH1
          try simp only [Act.put, List.setIfInBounds_toArray, List.set_cons_zero, List.set_cons_succ]
          refine wpAnyH_take (i := 32) (oi := ⟨some 110, .binOp .leq 3 (.tmp 109) (.const (.int .i64 0)) 3, 4, "law.go:112", #[⟨31, .data⟩, ⟨28, .guard⟩], some (28, true)⟩) (v := ?_) rfl (by kernel_rfl) (by kernel_rfl) (by kernel_rfl) (fun _ _ _ h => h) (Or.inl ⟨by rfl, ?_⟩) (by assumption) ?_
          rotate_left
          · (intro w hSw; (try dsimp only at hSw); go_simp; try with_reducible rfl)
          try simp only [Act.put, List.setIfInBounds_toArray, List.set_cons_zero, List.set_cons_succ]
          refine wpAnyH_take (i := 33) (oi := ⟨some 111, .pick (.tmp 106) (.tmp 110) (.const (.bool false)), 4, "law.go:112", #[⟨28, .data⟩, ⟨32, .data⟩], none⟩) (v := ?_) rfl (by kernel_rfl) (by kernel_rfl) (by kernel_rfl) (fun _ _ _ h => h) (Or.inl ⟨by rfl, ?_⟩) (by assumption) ?_
          rotate_left
          · (intro w hSw; (try dsimp only at hSw); go_simp; try with_reducible rfl)
          try simp only [Act.put, List.setIfInBounds_toArray, List.set_cons_zero, List.set_cons_succ]
          refine wpAnyH_take (i := 34) (oi := ⟨some 112, .move (.tmp 111), 4, "law.go:112", #[⟨33, .data⟩, ⟨31, .chain⟩], none⟩) (v := ?_) rfl (by kernel_rfl) (by kernel_rfl) (by kernel_rfl) (fun _ _ _ h => h) (Or.inl ⟨by rfl, ?_⟩) (by assumption) ?_
          rotate_left
          · (intro w hSw; (try dsimp only at hSw); go_simp; try with_reducible rfl)
          try simp only [Act.put, List.setIfInBounds_toArray, List.set_cons_zero, List.set_cons_succ]
          refine wpAnyH_take (i := 35) (oi := ⟨some 113, .load 28 (.tmp 9), 28, "law.go:112", #[⟨34, .guard⟩], some (34, true)⟩) (v := ?_) rfl (by kernel_rfl) (by kernel_rfl) (by kernel_rfl) (fun _ _ _ h => h) (Or.inl ⟨by rfl, ?_⟩) (by assumption) ?_
          rotate_left
          · (intro w hSw; (try dsimp only at hSw); go_simp; try with_reducible rfl)
          try simp only [Act.put, List.setIfInBounds_toArray, List.set_cons_zero, List.set_cons_succ]
          refine wpAnyH_take (i := 36) (oi := ⟨some 114, .load 28 (.tmp 17), 28, "law.go:112", #[⟨34, .guard⟩], some (34, true)⟩) (v := ?_) rfl (by kernel_rfl) (by kernel_rfl) (by kernel_rfl) (fun _ _ _ h => h) (Or.inl ⟨by rfl, ?_⟩) (by assumption) ?_
          rotate_left
          · (intro w hSw; (try dsimp only at hSw); go_simp; try with_reducible rfl)
          try simp only [Act.put, List.setIfInBounds_toArray, List.set_cons_zero, List.set_cons_succ]
          refine wpAnyH_take (i := 37) (oi := ⟨some 115, .binOp .eql 28 (.tmp 113) (.tmp 114) 28, 4, "law.go:112", #[⟨35, .data⟩, ⟨36, .data⟩, ⟨34, .guard⟩], some (34, true)⟩) (v := ?_) rfl (by kernel_rfl) (by kernel_rfl) (by kernel_rfl) (fun _ _ _ h => h) (Or.inl ⟨by rfl, ?_⟩) (by assumption) ?_
          rotate_left
          · (intro w hSw; (try dsimp only at hSw); go_simp; try with_reducible rfl)
          try simp only [Act.put, List.setIfInBounds_toArray, List.set_cons_zero, List.set_cons_succ]
          refine wpAnyH_take (i := 38) (oi := ⟨some 116, .move (.tmp 15), 3, "law.go:112", #[⟨34, .guard⟩], some (34, true)⟩) (v := ?_) rfl (by kernel_rfl) (by kernel_rfl) (by kernel_rfl) (fun _ _ _ h => h) (Or.inl ⟨by rfl, ?_⟩) (by assumption) ?_
          rotate_left
          · (intro w hSw; (try dsimp only at hSw); go_simp; try with_reducible rfl)
          try simp only [Act.put, List.setIfInBounds_toArray, List.set_cons_zero, List.set_cons_succ]
          refine wpAnyH_take (i := 39) (oi := ⟨some 117, .binOp .eql 3 (.tmp 116) (.const (.int .i64 0)) 3, 4, "law.go:112", #[⟨38, .data⟩, ⟨34, .guard⟩], some (34, true)⟩) (v := ?_) rfl (by kernel_rfl) (by kernel_rfl) (by kernel_rfl) (fun _ _ _ h => h) (Or.inl ⟨by rfl, ?_⟩) (by assumption) ?_
          rotate_left
          · (intro w hSw; (try dsimp only at hSw); go_simp; try with_reducible rfl)
          try simp only [Act.put, List.setIfInBounds_toArray, List.set_cons_zero, List.set_cons_succ]
          refine wpAnyH_take (i := 40) (oi := ⟨some 118, .move (.tmp 117), 4, "law.go:112", #[⟨39, .data⟩, ⟨34, .chain⟩, ⟨34, .guard⟩], some (34, true)⟩) (v := ?_) rfl (by kernel_rfl) (by kernel_rfl) (by kernel_rfl) (fun _ _ _ h => h) (Or.inl ⟨by rfl, ?_⟩) (by assumption) ?_
          rotate_left
          · (intro w hSw; (try dsimp only at hSw); go_simp; try with_reducible rfl)
          try simp only [Act.put, List.setIfInBounds_toArray, List.set_cons_zero, List.set_cons_succ]
          refine wpAnyH_take (i := 41) (oi := ⟨some 119, .move (.tmp 4), 22, "law.go:112", #[⟨40, .guard⟩], some (40, true)⟩) (v := ?_) rfl (by kernel_rfl) (by kernel_rfl) (by kernel_rfl) (fun _ _ _ h => h) (Or.inl ⟨by rfl, ?_⟩) (by assumption) ?_
          rotate_left
          · (intro w hSw; (try dsimp only at hSw); go_simp; try with_reducible rfl)
          try simp only [Act.put, List.setIfInBounds_toArray, List.set_cons_zero, List.set_cons_succ]
          refine wpAnyH_ready (rs := [42]) (by kernel_rfl) (by simp) ?_
          refine AllReadyH.cons (o := ⟨some 120, .call ⟨.value (.func 15), #[.tmp 119], #[22]⟩, 4, "law.go:112", #[⟨41, .data⟩, ⟨40, .chain⟩, ⟨40, .guard⟩], some (40, true)⟩) rfl (fun K hK => ?_) AllReadyH.nil
          go_simp
          go_at_call 15; (with_reducible refine (S1.out _ (by repeat (first | exact HD_p4.out | (with_reducible refine Bel.drwN ?_ _) | (with_reducible refine Bel.drw ?_) | refine Bel.tr ?_ (by assumption)))).mono ?_); rintro r s3 ⟨rfl, h3⟩
          try go_wp2_with fail
          refine hK.out _ _ ?_ (fun hH3 => ?_)
          · (try dsimp only); exact KS.out _ (by repeat (first | exact Bel.rf | (with_reducible refine Bel.drwN ?_ _) | (with_reducible refine Bel.drw ?_) | (with_reducible refine Bel.al ?_ _) | (refine Bel.tr ?_ (by assumption))))
          clear hK K hH2
          try simp only [Act.put, List.setIfInBounds_toArray, List.set_cons_zero, List.set_cons_succ]
          refine wpAnyH_take (i := 43) (oi := ⟨some 121, .move (.tmp 120), 4, "law.go:112", #[⟨42, .data⟩, ⟨42, .chain⟩, ⟨40, .guard⟩], some (40, true)⟩) (v := ?_) rfl (by kernel_rfl) (by kernel_rfl) (by kernel_rfl) (fun _ _ _ h => h) (Or.inl ⟨by rfl, ?_⟩) (by assumption) ?_
          rotate_left
          · (intro w hSw; (try dsimp only at hSw); go_simp; try with_reducible rfl)
          try simp only [Act.put, List.setIfInBounds_toArray, List.set_cons_zero, List.set_cons_succ]
          refine wpAnyH_take (i := 44) (oi := ⟨some 122, .move (.tmp 5), 22, "law.go:112", #[⟨43, .guard⟩], some (43, false)⟩) (v := undef) rfl (by kernel_rfl) (by kernel_rfl) (by kernel_rfl) (fun _ _ _ h => h) (Or.inr ⟨by rfl, rfl⟩) (by assumption) ?_
          try simp only [Act.put, List.setIfInBounds_toArray, List.set_cons_zero, List.set_cons_succ]
          refine wpAnyH_ready (rs := [45]) (by kernel_rfl) (by simp) ?_
          refine AllReadyH.cons (o := ⟨some 123, .call ⟨.value (.func 15), #[.tmp 122], #[22]⟩, 4, "law.go:112", #[⟨44, .data⟩, ⟨43, .chain⟩, ⟨43, .guard⟩], some (43, false)⟩) rfl (fun K hK => ?_) AllReadyH.nil
          go_simp
          refine hK.out _ _ (by assumption) (fun hH4 => ?_)
          clear hK K hH3
          try simp only [Act.put, List.setIfInBounds_toArray, List.set_cons_zero, List.set_cons_succ]
          refine wpAnyH_take (i := 46) (oi := ⟨some 124, .pick (.tmp 121) (.const (.bool true)) (.tmp 123), 4, "law.go:112", #[⟨43, .data⟩, ⟨45, .data⟩, ⟨40, .guard⟩], some (40, true)⟩) (v := ?_) rfl (by kernel_rfl) (by kernel_rfl) (by kernel_rfl) (fun _ _ _ h => h) (Or.inl ⟨by rfl, ?_⟩) (by assumption) ?_
          rotate_left
          · (intro w hSw; (try dsimp only at hSw); go_simp; try with_reducible rfl)
          try simp only [Act.put, List.setIfInBounds_toArray, List.set_cons_zero, List.set_cons_succ]
          refine wpAnyH_take (i := 47) (oi := ⟨some 125, .pick (.tmp 118) (.tmp 124) (.const (.bool false)), 4, "law.go:112", #[⟨40, .data⟩, ⟨46, .data⟩, ⟨34, .guard⟩], some (34, true)⟩) (v := ?_) rfl (by kernel_rfl) (by kernel_rfl) (by kernel_rfl) (fun _ _ _ h => h) (Or.inl ⟨by rfl, ?_⟩) (by assumption) ?_
          rotate_left
          · (intro w hSw; (try dsimp only at hSw); go_simp; try with_reducible rfl)
          try simp only [Act.put, List.setIfInBounds_toArray, List.set_cons_zero, List.set_cons_succ]
          refine wpAnyH_take (i := 48) (oi := ⟨some 126, .binOp .eql 4 (.tmp 115) (.tmp 125) 4, 4, "law.go:112", #[⟨37, .data⟩, ⟨47, .data⟩, ⟨34, .guard⟩], some (34, true)⟩) (v := ?_) rfl (by kernel_rfl) (by kernel_rfl) (by kernel_rfl) (fun _ _ _ h => h) (Or.inl ⟨by rfl, ?_⟩) (by assumption) ?_
          rotate_left
          · (intro w hSw; (try dsimp only at hSw); go_simp; try with_reducible rfl)
          try simp only [Act.put, List.setIfInBounds_toArray, List.set_cons_zero, List.set_cons_succ]
          refine wpAnyH_take (i := 49) (oi := ⟨some 127, .pick (.tmp 112) (.tmp 126) (.const (.bool false)), 4, "law.go:112", #[⟨34, .data⟩, ⟨48, .data⟩], none⟩) (v := ?_) rfl (by kernel_rfl) (by kernel_rfl) (by kernel_rfl) (fun _ _ _ h => h) (Or.inl ⟨by rfl, ?_⟩) (by assumption) ?_
          rotate_left
          · (intro w hSw; (try dsimp only at hSw); go_simp; try with_reducible rfl)
          try simp only [Act.put, List.setIfInBounds_toArray, List.set_cons_zero, List.set_cons_succ]
          refine wpAnyH_take (i := 50) (oi := ⟨some 128, .move (.tmp 127), 4, "law.go:112", #[⟨49, .data⟩, ⟨45, .chain⟩], none⟩) (v := ?_) rfl (by kernel_rfl) (by kernel_rfl) (by kernel_rfl) (fun _ _ _ h => h) (Or.inl ⟨by rfl, ?_⟩) (by assumption) ?_
          rotate_left
          · (intro w hSw; (try dsimp only at hSw); go_simp; try with_reducible rfl)
          try simp only [Act.put, List.setIfInBounds_toArray, List.set_cons_zero, List.set_cons_succ]
          refine wpAnyH_take (i := 51) (oi := ⟨some 129, .load 28 (.tmp 9), 28, "law.go:112", #[⟨50, .guard⟩], some (50, true)⟩) (v := ?_) rfl (by kernel_rfl) (by kernel_rfl) (by kernel_rfl) (fun _ _ _ h => h) (Or.inl ⟨by rfl, ?_⟩) (by assumption) ?_
          rotate_left
          · (intro w hSw; (try dsimp only at hSw); go_simp; try with_reducible rfl)
          try simp only [Act.put, List.setIfInBounds_toArray, List.set_cons_zero, List.set_cons_succ]
          refine wpAnyH_take (i := 52) (oi := ⟨some 130, .load 28 (.tmp 17), 28, "law.go:112", #[⟨50, .guard⟩], some (50, true)⟩) (v := ?_) rfl (by kernel_rfl) (by kernel_rfl) (by kernel_rfl) (fun _ _ _ h => h) (Or.inl ⟨by rfl, ?_⟩) (by assumption) ?_
          rotate_left
          · (intro w hSw; (try dsimp only at hSw); go_simp; try with_reducible rfl)
          try simp only [Act.put, List.setIfInBounds_toArray, List.set_cons_zero, List.set_cons_succ]
          refine wpAnyH_take (i := 54) (oi := ⟨some 132, .move (.tmp 15), 3, "law.go:112", #[⟨50, .guard⟩], some (50, true)⟩) (v := ?_) rfl (by kernel_rfl) (by kernel_rfl) (by kernel_rfl) (fun _ _ _ h => h) (Or.inl ⟨by rfl, ?_⟩) (by assumption) ?_
          rotate_left
          · (intro w hSw; (try dsimp only at hSw); go_simp; try with_reducible rfl)
          try simp only [Act.put, List.setIfInBounds_toArray, List.set_cons_zero, List.set_cons_succ]
          refine wpAnyH_take (i := 55) (oi := ⟨some 133, .binOp .gtr 3 (.tmp 132) (.const (.int .i64 0)) 3, 4, "law.go:112", #[⟨54, .data⟩, ⟨50, .guard⟩], some (50, true)⟩) (v := ?_) rfl (by kernel_rfl) (by kernel_rfl) (by kernel_rfl) (fun _ _ _ h => h) (Or.inl ⟨by rfl, ?_⟩) (by assumption) ?_
          rotate_left
          · (intro w hSw; (try dsimp only at hSw); go_simp; try with_reducible rfl)
          try simp only [Act.put, List.setIfInBounds_toArray, List.set_cons_zero, List.set_cons_succ]
          refine wpAnyH_ready (rs := [53]) (by kernel_rfl) (by simp) ?_
          refine AllReadyH.cons (o := ⟨some 131, .call ⟨.value (.func 16), #[.tmp 129, .tmp 130], #[28, 28]⟩, 4, "law.go:112", #[⟨51, .data⟩, ⟨52, .data⟩, ⟨50, .chain⟩, ⟨50, .guard⟩], some (50, true)⟩) rfl (fun K hK => ?_) AllReadyH.nil
          go_simp
          go_at_call 16; refine (LS.out _).mono ?_; rintro r s5 ⟨rfl, h5⟩
          try go_wp2_with fail
          refine hK.out _ _ ?_ (fun hH5 => ?_)
          · (try dsimp only); exact KS.out _ (by repeat (first | exact Bel.rf | (with_reducible refine Bel.drwN ?_ _) | (with_reducible refine Bel.drw ?_) | (with_reducible refine Bel.al ?_ _) | (refine Bel.tr ?_ (by assumption))))
          clear hK K hH4
          try simp only [Act.put, List.setIfInBounds_toArray, List.set_cons_zero, List.set_cons_succ]
          refine wpAnyH_take (i := 56) (oi := ⟨some 134, .move (.tmp 133), 4, "law.go:112", #[⟨55, .data⟩, ⟨53, .chain⟩, ⟨50, .guard⟩], some (50, true)⟩) (v := ?_) rfl (by kernel_rfl) (by kernel_rfl) (by kernel_rfl) (fun _ _ _ h => h) (Or.inl ⟨by rfl, ?_⟩) (by assumption) ?_
          rotate_left
          · (intro w hSw; (try dsimp only at hSw); go_simp; try with_reducible rfl)
          try simp only [Act.put, List.setIfInBounds_toArray, List.set_cons_zero, List.set_cons_succ]
          refine wpAnyH_take (i := 57) (oi := ⟨some 135, .move (.tmp 4), 22, "law.go:112", #[⟨56, .guard⟩], some (56, false)⟩) (v := ?_) rfl (by kernel_rfl) (by kernel_rfl) (by kernel_rfl) (fun _ _ _ h => h) (Or.inl ⟨by rfl, ?_⟩) (by assumption) ?_
          rotate_left
          · (intro w hSw; (try dsimp only at hSw); go_simp; try with_reducible rfl)
          try simp only [Act.put, List.setIfInBounds_toArray, List.set_cons_zero, List.set_cons_succ]
          refine wpAnyH_ready (rs := [58]) (by kernel_rfl) (by simp) ?_
          refine AllReadyH.cons (o := ⟨some 136, .call ⟨.value (.func 15), #[.tmp 135], #[22]⟩, 4, "law.go:112", #[⟨57, .data⟩, ⟨56, .chain⟩, ⟨56, .guard⟩], some (56, false)⟩) rfl (fun K hK => ?_) AllReadyH.nil
          go_simp
          go_at_call 15; (with_reducible refine (S1.out _ (by repeat (first | exact HD_p4.out | (with_reducible refine Bel.drwN ?_ _) | (with_reducible refine Bel.drw ?_) | refine Bel.tr ?_ (by assumption)))).mono ?_); rintro r s6 ⟨rfl, h6⟩
          try go_wp2_with fail
          refine hK.out _ _ ?_ (fun hH6 => ?_)
          · (try dsimp only); exact KS.out _ (by repeat (first | exact Bel.rf | (with_reducible refine Bel.drwN ?_ _) | (with_reducible refine Bel.drw ?_) | (with_reducible refine Bel.al ?_ _) | (refine Bel.tr ?_ (by assumption))))
          clear hK K hH5
          try simp only [Act.put, List.setIfInBounds_toArray, List.set_cons_zero, List.set_cons_succ]
          refine wpAnyH_take (i := 59) (oi := ⟨some 137, .unOp .not 4 (.tmp 136), 4, "law.go:112", #[⟨58, .data⟩, ⟨56, .guard⟩], some (56, false)⟩) (v := ?_) rfl (by kernel_rfl) (by kernel_rfl) (by kernel_rfl) (fun _ _ _ h => h) (Or.inl ⟨by rfl, ?_⟩) (by assumption) ?_
          rotate_left
          · (intro w hSw; (try dsimp only at hSw); go_simp; try with_reducible rfl)
          try simp only [Act.put, List.setIfInBounds_toArray, List.set_cons_zero, List.set_cons_succ]
          refine wpAnyH_take (i := 60) (oi := ⟨some 138, .move (.tmp 137), 4, "law.go:112", #[⟨59, .data⟩, ⟨58, .chain⟩, ⟨56, .guard⟩], some (56, false)⟩) (v := ?_) rfl (by kernel_rfl) (by kernel_rfl) (by kernel_rfl) (fun _ _ _ h => h) (Or.inl ⟨by rfl, ?_⟩) (by assumption) ?_
          rotate_left
          · (intro w hSw; (try dsimp only at hSw); go_simp; try with_reducible rfl)
          try simp only [Act.put, List.setIfInBounds_toArray, List.set_cons_zero, List.set_cons_succ]
          refine wpAnyH_take (i := 61) (oi := ⟨some 139, .move (.tmp 5), 22, "law.go:112", #[⟨60, .guard⟩], some (60, true)⟩) (v := undef) rfl (by kernel_rfl) (by kernel_rfl) (by kernel_rfl) (fun _ _ _ h => h) (Or.inr ⟨by rfl, rfl⟩) (by assumption) ?_
          try simp only [Act.put, List.setIfInBounds_toArray, List.set_cons_zero, List.set_cons_succ]
          refine wpAnyH_ready (rs := [62]) (by kernel_rfl) (by simp) ?_
          refine AllReadyH.cons (o := ⟨some 140, .call ⟨.value (.func 15), #[.tmp 139], #[22]⟩, 4, "law.go:112", #[⟨61, .data⟩, ⟨60, .chain⟩, ⟨60, .guard⟩], some (60, true)⟩) rfl (fun K hK => ?_) AllReadyH.nil
          go_simp
          refine hK.out _ _ (by assumption) (fun hH7 => ?_)
          clear hK K hH6
          try simp only [Act.put, List.setIfInBounds_toArray, List.set_cons_zero, List.set_cons_succ]
          refine wpAnyH_take (i := 63) (oi := ⟨some 141, .unOp .not 4 (.tmp 140), 4, "law.go:112", #[⟨62, .data⟩, ⟨60, .guard⟩], some (60, true)⟩) (v := undef) rfl (by kernel_rfl) (by kernel_rfl) (by kernel_rfl) (fun _ _ _ h => h) (Or.inr ⟨by rfl, rfl⟩) (by assumption) ?_
          try simp only [Act.put, List.setIfInBounds_toArray, List.set_cons_zero, List.set_cons_succ]
          refine wpAnyH_take (i := 64) (oi := ⟨some 142, .pick (.tmp 138) (.tmp 141) (.const (.bool false)), 4, "law.go:112", #[⟨60, .data⟩, ⟨63, .data⟩, ⟨56, .guard⟩], some (56, false)⟩) (v := ?_) rfl (by kernel_rfl) (by kernel_rfl) (by kernel_rfl) (fun _ _ _ h => h) (Or.inl ⟨by rfl, ?_⟩) (by assumption) ?_
          rotate_left
          · (intro w hSw; (try dsimp only at hSw); go_simp; try with_reducible rfl)
          try simp only [Act.put, List.setIfInBounds_toArray, List.set_cons_zero, List.set_cons_succ]
          refine wpAnyH_take (i := 65) (oi := ⟨some 143, .pick (.tmp 134) (.const (.bool true)) (.tmp 142), 4, "law.go:112", #[⟨56, .data⟩, ⟨64, .data⟩, ⟨50, .guard⟩], some (50, true)⟩) (v := ?_) rfl (by kernel_rfl) (by kernel_rfl) (by kernel_rfl) (fun _ _ _ h => h) (Or.inl ⟨by rfl, ?_⟩) (by assumption) ?_
          rotate_left
          · (intro w hSw; (try dsimp only at hSw); go_simp; try with_reducible rfl)
          try simp only [Act.put, List.setIfInBounds_toArray, List.set_cons_zero, List.set_cons_succ]
          refine wpAnyH_take (i := 66) (oi := ⟨some 144, .binOp .eql 4 (.tmp 131) (.tmp 143) 4, 4, "law.go:112", #[⟨53, .data⟩, ⟨65, .data⟩, ⟨50, .guard⟩], some (50, true)⟩) (v := ?_) rfl (by kernel_rfl) (by kernel_rfl) (by kernel_rfl) (fun _ _ _ h => h) (Or.inl ⟨by rfl, ?_⟩) (by assumption) ?_
          rotate_left
          · (intro w hSw; (try dsimp only at hSw); go_simp; try with_reducible rfl)
          try simp only [Act.put, List.setIfInBounds_toArray, List.set_cons_zero, List.set_cons_succ]
          refine wpAnyH_take (i := 67) (oi := ⟨some 145, .pick (.tmp 128) (.tmp 144) (.const (.bool false)), 4, "law.go:112", #[⟨50, .data⟩, ⟨66, .data⟩], none⟩) (v := ?_) rfl (by kernel_rfl) (by kernel_rfl) (by kernel_rfl) (fun _ _ _ h => h) (Or.inl ⟨by rfl, ?_⟩) (by assumption) ?_
          rotate_left
          · (intro w hSw; (try dsimp only at hSw); go_simp; try with_reducible rfl)
          try simp only [Act.put, List.setIfInBounds_toArray, List.set_cons_zero, List.set_cons_succ]
          refine wpAnyH_take (i := 68) (oi := ⟨some 146, .move (.tmp 145), 4, "law.go:112", #[⟨67, .data⟩, ⟨62, .chain⟩], none⟩) (v := ?_) rfl (by kernel_rfl) (by kernel_rfl) (by kernel_rfl) (fun _ _ _ h => h) (Or.inl ⟨by rfl, ?_⟩) (by assumption) ?_
          rotate_left
          · (intro w hSw; (try dsimp only at hSw); go_simp; try with_reducible rfl)
          try simp only [Act.put, List.setIfInBounds_toArray, List.set_cons_zero, List.set_cons_succ]
          refine wpAnyH_ready (rs := [69]) (by kernel_rfl) (by simp) ?_
          refine AllReadyH.cons (o := ⟨some 147, .call ⟨.value (.func 17), #[], #[]⟩, 4, "law.go:112", #[⟨68, .chain⟩, ⟨68, .guard⟩], some (68, true)⟩) rfl (fun K hK => ?_) AllReadyH.nil
          go_simp
          go_at_call 17; refine (AW.out _).mono ?_; rintro r s8 ⟨rfl, h8⟩
          try go_wp2_with fail
          refine hK.out _ _ ?_ (fun hH8 => ?_)
          · (try dsimp only); exact KS.out _ (by repeat (first | exact Bel.rf | (with_reducible refine Bel.drwN ?_ _) | (with_reducible refine Bel.drw ?_) | (with_reducible refine Bel.al ?_ _) | (refine Bel.tr ?_ (by assumption))))
          clear hK K hH7
          try simp only [Act.put, List.setIfInBounds_toArray, List.set_cons_zero, List.set_cons_succ]
          refine wpAnyH_take (i := 70) (oi := ⟨some 148, .pick (.tmp 146) (.tmp 147) (.const (.bool false)), 4, "law.go:112", #[⟨68, .data⟩, ⟨69, .data⟩], none⟩) (v := ?_) rfl (by kernel_rfl) (by kernel_rfl) (by kernel_rfl) (fun _ _ _ h => h) (Or.inl ⟨by rfl, ?_⟩) (by assumption) ?_
          rotate_left
          · (intro w hSw; (try dsimp only at hSw); go_simp; try with_reducible rfl)
          try simp only [Act.put, List.setIfInBounds_toArray, List.set_cons_zero, List.set_cons_succ]
          refine wpAnyH_take (i := 71) (oi := ⟨some 2, .assign (.tmp 148), 4, "law.go:112", #[⟨70, .data⟩, ⟨69, .chain⟩, ⟨0, .phase⟩, ⟨1, .phase⟩, ⟨2, .phase⟩, ⟨3, .phase⟩, ⟨4, .phase⟩, ⟨5, .phase⟩, ⟨6, .phase⟩, ⟨7, .phase⟩, ⟨8, .phase⟩, ⟨9, .phase⟩, ⟨10, .phase⟩, ⟨11, .phase⟩, ⟨12, .phase⟩, ⟨13, .phase⟩, ⟨14, .phase⟩, ⟨15, .phase⟩, ⟨16, .phase⟩, ⟨17, .phase⟩, ⟨18, .phase⟩, ⟨19, .phase⟩, ⟨20, .phase⟩, ⟨21, .phase⟩, ⟨22, .phase⟩, ⟨23, .phase⟩, ⟨24, .phase⟩, ⟨25, .phase⟩, ⟨26, .phase⟩, ⟨27, .phase⟩, ⟨28, .phase⟩, ⟨29, .phase⟩, ⟨30, .phase⟩, ⟨31, .phase⟩, ⟨32, .phase⟩, ⟨33, .phase⟩, ⟨34, .phase⟩, ⟨35, .phase⟩, ⟨36, .phase⟩, ⟨37, .phase⟩, ⟨38, .phase⟩, ⟨39, .phase⟩, ⟨40, .phase⟩, ⟨41, .phase⟩, ⟨42, .phase⟩, ⟨43, .phase⟩, ⟨44, .phase⟩, ⟨45, .phase⟩, ⟨46, .phase⟩, ⟨47, .phase⟩, ⟨48, .phase⟩, ⟨49, .phase⟩, ⟨50, .phase⟩, ⟨51, .phase⟩, ⟨52, .phase⟩, ⟨53, .phase⟩, ⟨54, .phase⟩, ⟨55, .phase⟩, ⟨56, .phase⟩, ⟨57, .phase⟩, ⟨58, .phase⟩, ⟨59, .phase⟩, ⟨60, .phase⟩, ⟨61, .phase⟩, ⟨62, .phase⟩, ⟨63, .phase⟩, ⟨64, .phase⟩, ⟨65, .phase⟩, ⟨66, .phase⟩, ⟨67, .phase⟩, ⟨68, .phase⟩, ⟨69, .phase⟩, ⟨70, .phase⟩], none⟩) (v := ?_) rfl (by kernel_rfl) (by kernel_rfl) (by kernel_rfl) (fun _ _ _ h => h) (Or.inl ⟨by rfl, ?_⟩) (by assumption) ?_
          rotate_left
          · (intro w hSw; (try dsimp only at hSw); go_simp; try with_reducible rfl)
          try simp only [Act.put, List.setIfInBounds_toArray, List.set_cons_zero, List.set_cons_succ]
          refine wpAnyH_done (by kernel_rfl) ?_ _
          refine NoPanic.normal ?_
          all_goals
            go_wp2
            go_ret
            exact ⟨rfl, Bel.bl (Bel.tr (HB2.out.tr HBV.out) (by repeat (first | exact HD_p4.out | (with_reducible refine Bel.drwN ?_ _) | (with_reducible refine Bel.drw ?_) | refine Bel.tr ?_ (by assumption))))⟩

      · rw [hl] at LS
        rw [show decide ((0 : Int) ≠ 0) = false by decide] at S1
        rw [show decide (U ≠ 0) = true by simp [hu]] at S2
        clear hl
        have KS : Hid (∀ W', Bel (p4.alloc (.cells #[.int .i64 1, .int .i64 1] 28)) W' → ((fun w' => w'.cell? ⟨p1.heap.size, 0, none⟩ = some (.int .i64 1) ∧ w'.cell? ⟨p1.heap.size, 1, none⟩ = some (.int .i64 1) ∧ w'.cell? ⟨p2.heap.size, 0, none⟩ = some (.int .i64 1) ∧ w'.cell? ⟨p2.heap.size, 1, none⟩ = some (.int .i64 1) ∧ w'.cell? ⟨p3.heap.size, 0, none⟩ = some (.int .i64 1) ∧ w'.cell? ⟨p3.heap.size, 1, none⟩ = some (.int .i64 1) ∧ w'.cell? ⟨p4.heap.size, 0, none⟩ = some (.int .i64 1) ∧ w'.cell? ⟨p4.heap.size, 1, none⟩ = some (.int .i64 1))) W') := fun W' h => ⟨h.kp q0, h.kp q1, h.kp q2, h.kp q3, h.kp q4, h.kp q5, h.kp q6, h.kp q7⟩
        clear q0 q1 q2 q3 q4 q5 q6 q7
        go_wp2_with fail
        simp only [List.append_eq, List.cons_append, List.nil_append]
        as_aux_lemma =>
          go_region_held3 (fun w' => w'.cell? ⟨p1.heap.size, 0, none⟩ = some (.int .i64 1) ∧ w'.cell? ⟨p1.heap.size, 1, none⟩ = some (.int .i64 1) ∧ w'.cell? ⟨p2.heap.size, 0, none⟩ = some (.int .i64 1) ∧ w'.cell? ⟨p2.heap.size, 1, none⟩ = some (.int .i64 1) ∧ w'.cell? ⟨p3.heap.size, 0, none⟩ = some (.int .i64 1) ∧ w'.cell? ⟨p3.heap.size, 1, none⟩ = some (.int .i64 1) ∧ w'.cell? ⟨p4.heap.size, 0, none⟩ = some (.int .i64 1) ∧ w'.cell? ⟨p4.heap.size, 1, none⟩ = some (.int .i64 1))
            (exact KS.out _ (by repeat (first | exact Bel.rf | (with_reducible refine Bel.drwN ?_ _) | (with_reducible refine Bel.drw ?_) | (with_reducible refine Bel.al ?_ _) | (refine Bel.tr ?_ (by assumption)))))
            (first
              | (go_at_call 13; refine (VA.out _).mono ?_; rintro r s1 ⟨rfl, h1⟩)
              | (go_at_call 14; refine (CM.out _).mono ?_; rintro r s2 ⟨rfl, h2⟩)
              | (go_at_call 16; refine (LS.out _).mono ?_; rintro r s3 ⟨rfl, h3⟩)
              | (go_at_call 15; first
                  | ((with_reducible refine (S1.out _ (by repeat (first | exact HD_p4.out | (with_reducible refine Bel.drwN ?_ _) | (with_reducible refine Bel.drw ?_) | refine Bel.tr ?_ (by assumption)))).mono ?_); rintro r s4 ⟨rfl, h4⟩)
                  | ((with_reducible refine (S2.out _ (by repeat (first | exact HD_p4.out | (with_reducible refine Bel.drwN ?_ _) | (with_reducible refine Bel.drw ?_) | refine Bel.tr ?_ (by assumption)))).mono ?_); rintro r s5 ⟨rfl, h5⟩))
              | (go_at_call 17; refine (AW.out _).mono ?_; rintro r s6 ⟨rfl, h6⟩))
          all_goals
            go_wp2
            go_ret
            exact ⟨rfl, Bel.bl (Bel.tr (HB2.out.tr HBV.out) (by repeat (first | exact HD_p4.out | (with_reducible refine Bel.drwN ?_ _) | (with_reducible refine Bel.drw ?_) | refine Bel.tr ?_ (by assumption))))⟩

      · rw [hl] at LS
        rw [show decide (V ≠ 0) = true by simp [hv]] at S1
        rw [show decide (U ≠ 0) = true by simp [hu]] at S2
        have k1 : (c == 0) = false := by simp; omega
        clear hl
        rcases hne with hne | ⟨rfl, hne⟩
        · have e3 : (X == 1) = false := by simpa using hne
          have KS : Hid (∀ W', Bel (p4.alloc (.cells #[.int .i64 1, .int .i64 1] 28)) W' → ((fun w' => w'.cell? ⟨p1.heap.size, 0, none⟩ = some (.int .i64 X) ∧ w'.cell? ⟨p1.heap.size, 1, none⟩ = some (.int .i64 Y) ∧ w'.cell? ⟨p2.heap.size, 0, none⟩ = some (.int .i64 X) ∧ w'.cell? ⟨p2.heap.size, 1, none⟩ = some (.int .i64 Y) ∧ w'.cell? ⟨p3.heap.size, 0, none⟩ = some (.int .i64 X) ∧ w'.cell? ⟨p3.heap.size, 1, none⟩ = some (.int .i64 Y) ∧ w'.cell? ⟨p4.heap.size, 0, none⟩ = some (.int .i64 1) ∧ w'.cell? ⟨p4.heap.size, 1, none⟩ = some (.int .i64 1))) W') := fun W' h => ⟨h.kp q0, h.kp q1, h.kp q2, h.kp q3, h.kp q4, h.kp q5, h.kp q6, h.kp q7⟩
          clear q0 q1 q2 q3 q4 q5 q6 q7
          go_wp2_with fail
          simp only [List.append_eq, List.cons_append, List.nil_append]
          as_aux_lemma =>
            refine wp_region_noPanic ?_
            refine wp_region_held_drew (S := (fun w' => w'.cell? ⟨p1.heap.size, 0, none⟩ = some (.int .i64 X) ∧ w'.cell? ⟨p1.heap.size, 1, none⟩ = some (.int .i64 Y) ∧ w'.cell? ⟨p2.heap.size, 0, none⟩ = some (.int .i64 X) ∧ w'.cell? ⟨p2.heap.size, 1, none⟩ = some (.int .i64 Y) ∧ w'.cell? ⟨p3.heap.size, 0, none⟩ = some (.int .i64 X) ∧ w'.cell? ⟨p3.heap.size, 1, none⟩ = some (.int .i64 Y) ∧ w'.cell? ⟨p4.heap.size, 0, none⟩ = some (.int .i64 1) ∧ w'.cell? ⟨p4.heap.size, 1, none⟩ = some (.int .i64 1))) (by kernel_rfl) ?_ (fun hH0 => ?_)
            · (try dsimp only); exact KS.out _ (by repeat (first | exact Bel.rf | (with_reducible refine Bel.drwN ?_ _) | (with_reducible refine Bel.drw ?_) | (with_reducible refine Bel.al ?_ _) | (refine Bel.tr ?_ (by assumption))))
            refine wpAnyH_take (i := 0) (oi := ⟨some 78, .move (.tmp 10), 29, "law.go:112", #[], none⟩) (v := ?_) rfl (by kernel_rfl) (by kernel_rfl) (by kernel_rfl) (fun _ _ _ h => h) (Or.inl ⟨by rfl, ?_⟩) (by assumption) ?_
            rotate_left
            · (intro w hSw; (try dsimp only at hSw); go_simp; try with_reducible rfl)
            try simp only [Act.put, List.setIfInBounds_toArray, List.set_cons_zero, List.set_cons_succ]
            refine wpAnyH_take (i := 1) (oi := ⟨some 79, .binOp .eql 29 (.tmp 78) (.const (.int .i64 0)) 29, 4, "law.go:112", #[⟨0, .data⟩], none⟩) (v := ?_) rfl (by kernel_rfl) (by kernel_rfl) (by kernel_rfl) (fun _ _ _ h => h) (Or.inl ⟨by rfl, ?_⟩) (by assumption) ?_
            rotate_left
            · (intro w hSw; (try dsimp only at hSw); go_simp; try with_reducible rfl)
            try simp only [Act.put, List.setIfInBounds_toArray, List.set_cons_zero, List.set_cons_succ]
            refine wpAnyH_take (i := 2) (oi := ⟨some 80, .move (.tmp 79), 4, "law.go:112", #[⟨1, .data⟩], none⟩) (v := ?_) rfl (by kernel_rfl) (by kernel_rfl) (by kernel_rfl) (fun _ _ _ h => h) (Or.inl ⟨by rfl, ?_⟩) (by assumption) ?_
            rotate_left
            · (intro w hSw; (try dsimp only at hSw); go_simp; try with_reducible rfl)
            try simp only [Act.put, List.setIfInBounds_toArray, List.set_cons_zero, List.set_cons_succ]
            refine wpAnyH_take (i := 3) (oi := ⟨some 81, .move (.tmp 12), 29, "law.go:112", #[⟨2, .guard⟩], some (2, true)⟩) (v := ?_) rfl (by kernel_rfl) (by kernel_rfl) (by kernel_rfl) (fun _ _ _ h => h) (Or.inl ⟨by rfl, ?_⟩) (by assumption) ?_
            rotate_left
            · (intro w hSw; (try dsimp only at hSw); go_simp; try with_reducible rfl)
            try simp only [Act.put, List.setIfInBounds_toArray, List.set_cons_zero, List.set_cons_succ]
            refine wpAnyH_take (i := 4) (oi := ⟨some 82, .binOp .eql 29 (.tmp 81) (.const (.int .i64 0)) 29, 4, "law.go:112", #[⟨3, .data⟩, ⟨2, .guard⟩], some (2, true)⟩) (v := ?_) rfl (by kernel_rfl) (by kernel_rfl) (by kernel_rfl) (fun _ _ _ h => h) (Or.inl ⟨by rfl, ?_⟩) (by assumption) ?_
            rotate_left
            · (intro w hSw; (try dsimp only at hSw); go_simp; try with_reducible rfl)
            try simp only [Act.put, List.setIfInBounds_toArray, List.set_cons_zero, List.set_cons_succ]
            refine wpAnyH_take (i := 5) (oi := ⟨some 83, .pick (.tmp 80) (.tmp 82) (.const (.bool false)), 4, "law.go:112", #[⟨2, .data⟩, ⟨4, .data⟩], none⟩) (v := ?_) rfl (by kernel_rfl) (by kernel_rfl) (by kernel_rfl) (fun _ _ _ h => h) (Or.inl ⟨by rfl, ?_⟩) (by assumption) ?_
            rotate_left
            · (intro w hSw; (try dsimp only at hSw); go_simp; try with_reducible rfl)
            try simp only [Act.put, List.setIfInBounds_toArray, List.set_cons_zero, List.set_cons_succ]
            refine wpAnyH_take (i := 6) (oi := ⟨some 84, .move (.tmp 83), 4, "law.go:112", #[⟨5, .data⟩, ⟨2, .chain⟩], none⟩) (v := ?_) rfl (by kernel_rfl) (by kernel_rfl) (by kernel_rfl) (fun _ _ _ h => h) (Or.inl ⟨by rfl, ?_⟩) (by assumption) ?_
            rotate_left
            · (intro w hSw; (try dsimp only at hSw); go_simp; try with_reducible rfl)
            try simp only [Act.put, List.setIfInBounds_toArray, List.set_cons_zero, List.set_cons_succ]
            refine wpAnyH_take (i := 7) (oi := ⟨some 85, .move (.tmp 14), 29, "law.go:112", #[⟨6, .guard⟩], some (6, true)⟩) (v := ?_) rfl (by kernel_rfl) (by kernel_rfl) (by kernel_rfl) (fun _ _ _ h => h) (Or.inl ⟨by rfl, ?_⟩) (by assumption) ?_
            rotate_left
            · (intro w hSw; (try dsimp only at hSw); go_simp; try with_reducible rfl)
            try simp only [Act.put, List.setIfInBounds_toArray, List.set_cons_zero, List.set_cons_succ]
            refine wpAnyH_take (i := 8) (oi := ⟨some 86, .binOp .eql 29 (.tmp 85) (.const (.int .i64 0)) 29, 4, "law.go:112", #[⟨7, .data⟩, ⟨6, .guard⟩], some (6, true)⟩) (v := ?_) rfl (by kernel_rfl) (by kernel_rfl) (by kernel_rfl) (fun _ _ _ h => h) (Or.inl ⟨by rfl, ?_⟩) (by assumption) ?_
            rotate_left
            · (intro w hSw; (try dsimp only at hSw); go_simp; try with_reducible rfl)
            try simp only [Act.put, List.setIfInBounds_toArray, List.set_cons_zero, List.set_cons_succ]
            refine wpAnyH_take (i := 9) (oi := ⟨some 87, .pick (.tmp 84) (.tmp 86) (.const (.bool false)), 4, "law.go:112", #[⟨6, .data⟩, ⟨8, .data⟩], none⟩) (v := ?_) rfl (by kernel_rfl) (by kernel_rfl) (by kernel_rfl) (fun _ _ _ h => h) (Or.inl ⟨by rfl, ?_⟩) (by assumption) ?_
            rotate_left
            · (intro w hSw; (try dsimp only at hSw); go_simp; try with_reducible rfl)
            try simp only [Act.put, List.setIfInBounds_toArray, List.set_cons_zero, List.set_cons_succ]
            refine wpAnyH_take (i := 10) (oi := ⟨some 88, .move (.tmp 87), 4, "law.go:112", #[⟨9, .data⟩, ⟨6, .chain⟩], none⟩) (v := ?_) rfl (by kernel_rfl) (by kernel_rfl) (by kernel_rfl) (fun _ _ _ h => h) (Or.inl ⟨by rfl, ?_⟩) (by assumption) ?_
            rotate_left
            · (intro w hSw; (try dsimp only at hSw); go_simp; try with_reducible rfl)
            try simp only [Act.put, List.setIfInBounds_toArray, List.set_cons_zero, List.set_cons_succ]
            refine wpAnyH_take (i := 11) (oi := ⟨some 89, .move (.tmp 16), 29, "law.go:112", #[⟨10, .guard⟩], some (10, true)⟩) (v := ?_) rfl (by kernel_rfl) (by kernel_rfl) (by kernel_rfl) (fun _ _ _ h => h) (Or.inl ⟨by rfl, ?_⟩) (by assumption) ?_
            rotate_left
            · (intro w hSw; (try dsimp only at hSw); go_simp; try with_reducible rfl)
            try simp only [Act.put, List.setIfInBounds_toArray, List.set_cons_zero, List.set_cons_succ]
            refine wpAnyH_take (i := 12) (oi := ⟨some 90, .binOp .eql 29 (.tmp 89) (.const (.int .i64 0)) 29, 4, "law.go:112", #[⟨11, .data⟩, ⟨10, .guard⟩], some (10, true)⟩) (v := ?_) rfl (by kernel_rfl) (by kernel_rfl) (by kernel_rfl) (fun _ _ _ h => h) (Or.inl ⟨by rfl, ?_⟩) (by assumption) ?_
            rotate_left
            · (intro w hSw; (try dsimp only at hSw); go_simp; try with_reducible rfl)
            try simp only [Act.put, List.setIfInBounds_toArray, List.set_cons_zero, List.set_cons_succ]
            refine wpAnyH_take (i := 13) (oi := ⟨some 91, .pick (.tmp 88) (.tmp 90) (.const (.bool false)), 4, "law.go:112", #[⟨10, .data⟩, ⟨12, .data⟩], none⟩) (v := ?_) rfl (by kernel_rfl) (by kernel_rfl) (by kernel_rfl) (fun _ _ _ h => h) (Or.inl ⟨by rfl, ?_⟩) (by assumption) ?_
            rotate_left
            · (intro w hSw; (try dsimp only at hSw); go_simp; try with_reducible rfl)
            try simp only [Act.put, List.setIfInBounds_toArray, List.set_cons_zero, List.set_cons_succ]
            refine wpAnyH_take (i := 14) (oi := ⟨some 92, .move (.tmp 91), 4, "law.go:112", #[⟨13, .data⟩, ⟨10, .chain⟩], none⟩) (v := ?_) rfl (by kernel_rfl) (by kernel_rfl) (by kernel_rfl) (fun _ _ _ h => h) (Or.inl ⟨by rfl, ?_⟩) (by assumption) ?_
            rotate_left
            · (intro w hSw; (try dsimp only at hSw); go_simp; try with_reducible rfl)
            try simp only [Act.put, List.setIfInBounds_toArray, List.set_cons_zero, List.set_cons_succ]
            refine wpAnyH_take (i := 15) (oi := ⟨some 93, .load 28 (.tmp 9), 28, "law.go:112", #[⟨14, .guard⟩], some (14, true)⟩) (v := ?_) rfl (by kernel_rfl) (by kernel_rfl) (by kernel_rfl) (fun _ _ _ h => h) (Or.inl ⟨by rfl, ?_⟩) (by assumption) ?_
            rotate_left
            · (intro w hSw; (try dsimp only at hSw); go_simp; try with_reducible rfl)
            try simp only [Act.put, List.setIfInBounds_toArray, List.set_cons_zero, List.set_cons_succ]
            refine wpAnyH_take (i := 16) (oi := ⟨some 94, .load 28 (.tmp 11), 28, "law.go:112", #[⟨14, .guard⟩], some (14, true)⟩) (v := ?_) rfl (by kernel_rfl) (by kernel_rfl) (by kernel_rfl) (fun _ _ _ h => h) (Or.inl ⟨by rfl, ?_⟩) (by assumption) ?_
            rotate_left
            · (intro w hSw; (try dsimp only at hSw); go_simp; try with_reducible rfl)
            try simp only [Act.put, List.setIfInBounds_toArray, List.set_cons_zero, List.set_cons_succ]
            refine wpAnyH_take (i := 17) (oi := ⟨some 95, .binOp .eql 28 (.tmp 93) (.tmp 94) 28, 4, "law.go:112", #[⟨15, .data⟩, ⟨16, .data⟩, ⟨14, .guard⟩], some (14, true)⟩) (v := ?_) rfl (by kernel_rfl) (by kernel_rfl) (by kernel_rfl) (fun _ _ _ h => h) (Or.inl ⟨by rfl, ?_⟩) (by assumption) ?_
            rotate_left
            · (intro w hSw; (try dsimp only at hSw); go_simp; try with_reducible rfl)
            try simp only [Act.put, List.setIfInBounds_toArray, List.set_cons_zero, List.set_cons_succ]
            refine wpAnyH_take (i := 18) (oi := ⟨some 96, .pick (.tmp 92) (.tmp 95) (.const (.bool false)), 4, "law.go:112", #[⟨14, .data⟩, ⟨17, .data⟩], none⟩) (v := ?_) rfl (by kernel_rfl) (by kernel_rfl) (by kernel_rfl) (fun _ _ _ h => h) (Or.inl ⟨by rfl, ?_⟩) (by assumption) ?_
            rotate_left
            · (intro w hSw; (try dsimp only at hSw); go_simp; try with_reducible rfl)
            try simp only [Act.put, List.setIfInBounds_toArray, List.set_cons_zero, List.set_cons_succ]
            refine wpAnyH_take (i := 19) (oi := ⟨some 97, .move (.tmp 96), 4, "law.go:112", #[⟨18, .data⟩, ⟨14, .chain⟩], none⟩) (v := ?_) rfl (by kernel_rfl) (by kernel_rfl) (by kernel_rfl) (fun _ _ _ h => h) (Or.inl ⟨by rfl, ?_⟩) (by assumption) ?_
            rotate_left
            · (intro w hSw; (try dsimp only at hSw); go_simp; try with_reducible rfl)
            try simp only [Act.put, List.setIfInBounds_toArray, List.set_cons_zero, List.set_cons_succ]
            refine wpAnyH_take (i := 20) (oi := ⟨some 98, .load 28 (.tmp 9), 28, "law.go:112", #[⟨19, .guard⟩], some (19, true)⟩) (v := ?_) rfl (by kernel_rfl) (by kernel_rfl) (by kernel_rfl) (fun _ _ _ h => h) (Or.inl ⟨by rfl, ?_⟩) (by assumption) ?_
            rotate_left
            · (intro w hSw; (try dsimp only at hSw); go_simp; try with_reducible rfl)
            try simp only [Act.put, List.setIfInBounds_toArray, List.set_cons_zero, List.set_cons_succ]
            refine wpAnyH_take (i := 21) (oi := ⟨some 99, .load 28 (.tmp 13), 28, "law.go:112", #[⟨19, .guard⟩], some (19, true)⟩) (v := ?_) rfl (by kernel_rfl) (by kernel_rfl) (by kernel_rfl) (fun _ _ _ h => h) (Or.inl ⟨by rfl, ?_⟩) (by assumption) ?_
            rotate_left
            · (intro w hSw; (try dsimp only at hSw); go_simp; try with_reducible rfl)
            try simp only [Act.put, List.setIfInBounds_toArray, List.set_cons_zero, List.set_cons_succ]
            refine wpAnyH_take (i := 22) (oi := ⟨some 100, .binOp .eql 28 (.tmp 98) (.tmp 99) 28, 4, "law.go:112", #[⟨20, .data⟩, ⟨21, .data⟩, ⟨19, .guard⟩], some (19, true)⟩) (v := ?_) rfl (by kernel_rfl) (by kernel_rfl) (by kernel_rfl) (fun _ _ _ h => h) (Or.inl ⟨by rfl, ?_⟩) (by assumption) ?_
            rotate_left
            · (intro w hSw; (try dsimp only at hSw); go_simp; try with_reducible rfl)
            try simp only [Act.put, List.setIfInBounds_toArray, List.set_cons_zero, List.set_cons_succ]
            refine wpAnyH_take (i := 23) (oi := ⟨some 101, .pick (.tmp 97) (.tmp 100) (.const (.bool false)), 4, "law.go:112", #[⟨19, .data⟩, ⟨22, .data⟩], none⟩) (v := ?_) rfl (by kernel_rfl) (by kernel_rfl) (by kernel_rfl) (fun _ _ _ h => h) (Or.inl ⟨by rfl, ?_⟩) (by assumption) ?_
            rotate_left
            · (intro w hSw; (try dsimp only at hSw); go_simp; try with_reducible rfl)
            try simp only [Act.put, List.setIfInBounds_toArray, List.set_cons_zero, List.set_cons_succ]
            refine wpAnyH_take (i := 24) (oi := ⟨some 102, .move (.tmp 101), 4, "law.go:112", #[⟨23, .data⟩, ⟨19, .chain⟩], none⟩) (v := ?_) rfl (by kernel_rfl) (by kernel_rfl) (by kernel_rfl) (fun _ _ _ h => h) (Or.inl ⟨by rfl, ?_⟩) (by assumption) ?_
            rotate_left
            · (intro w hSw; (try dsimp only at hSw); go_simp; try with_reducible rfl)
            try simp only [Act.put, List.setIfInBounds_toArray, List.set_cons_zero, List.set_cons_succ]
            refine wpAnyH_take (i := 25) (oi := ⟨some 103, .load 28 (.tmp 9), 28, "law.go:112", #[⟨24, .guard⟩], some (24, true)⟩) (v := ?_) rfl (by kernel_rfl) (by kernel_rfl) (by kernel_rfl) (fun _ _ _ h => h) (Or.inl ⟨by rfl, ?_⟩) (by assumption) ?_
            rotate_left
            · (intro w hSw; (try dsimp only at hSw); go_simp; try with_reducible rfl)
            try simp only [Act.put, List.setIfInBounds_toArray, List.set_cons_zero, List.set_cons_succ]
            refine wpAnyH_ready (rs := [26]) (by kernel_rfl) (by simp) ?_
            refine AllReadyH.cons (o := ⟨some 104, .call ⟨.value (.func 13), #[.tmp 103], #[28]⟩, 4, "law.go:112", #[⟨25, .data⟩, ⟨24, .chain⟩, ⟨24, .guard⟩], some (24, true)⟩) rfl (fun K hK => ?_) AllReadyH.nil
            go_simp
            go_at_call 13; refine (VA.out _).mono ?_; rintro r s1 ⟨rfl, h1⟩
            try go_wp2_with fail
            refine hK.out _ _ ?_ (fun hH1 => ?_)
            · (try dsimp only); exact KS.out _ (by repeat (first | exact Bel.rf | (with_reducible refine Bel.drwN ?_ _) | (with_reducible refine Bel.drw ?_) | (with_reducible refine Bel.al ?_ _) | (refine Bel.tr ?_ (by assumption))))
            clear hK K hH0
            try simp only [Act.put, List.setIfInBounds_toArray, List.set_cons_zero, List.set_cons_succ]
            refine wpAnyH_take (i := 27) (oi := ⟨some 105, .pick (.tmp 102) (.tmp 104) (.const (.bool false)), 4, "law.go:112", #[⟨24, .data⟩, ⟨26, .data⟩], none⟩) (v := ?_) rfl (by kernel_rfl) (by kernel_rfl) (by kernel_rfl) (fun _ _ _ h => h) (Or.inl ⟨by rfl, ?_⟩) (by assumption) ?_
            rotate_left
            · (intro w hSw; (try dsimp only at hSw); go_simp; try with_reducible rfl)
            try simp only [Act.put, List.setIfInBounds_toArray, List.set_cons_zero, List.set_cons_succ]
            refine wpAnyH_take (i := 28) (oi := ⟨some 106, .move (.tmp 105), 4, "law.go:112", #[⟨27, .data⟩, ⟨26, .chain⟩], none⟩) (v := ?_) rfl (by kernel_rfl) (by kernel_rfl) (by kernel_rfl) (fun _ _ _ h => h) (Or.inl ⟨by rfl, ?_⟩) (by assumption) ?_
            rotate_left
            · (intro w hSw; (try dsimp only at hSw); go_simp; try with_reducible rfl)
            try simp only [Act.put, List.setIfInBounds_toArray, List.set_cons_zero, List.set_cons_succ]
            refine wpAnyH_take (i := 29) (oi := ⟨some 107, .load 28 (.tmp 9), 28, "law.go:112", #[⟨28, .guard⟩], some (28, true)⟩) (v := ?_) rfl (by kernel_rfl) (by kernel_rfl) (by kernel_rfl) (fun _ _ _ h => h) (Or.inl ⟨by rfl, ?_⟩) (by assumption) ?_
            rotate_left
            · (intro w hSw; (try dsimp only at hSw); go_simp; try with_reducible rfl)
            try simp only [Act.put, List.setIfInBounds_toArray, List.set_cons_zero, List.set_cons_succ]
            refine wpAnyH_take (i := 30) (oi := ⟨some 108, .build 28 #[(0, .const (.int .i64 2)), (1, .const (.int .i64 1))], 28, "law.go:112", #[⟨28, .guard⟩], some (28, true)⟩) (v := ?_) rfl (by kernel_rfl) (by kernel_rfl) (by kernel_rfl) (fun _ _ _ h => h) (Or.inl ⟨by rfl, ?_⟩) (by assumption) ?_
            rotate_left
            · (intro w hSw; (try dsimp only at hSw); go_simp; try with_reducible rfl)
            try simp only [Act.put, List.setIfInBounds_toArray, List.set_cons_zero, List.set_cons_succ]
            refine wpAnyH_ready (rs := [31]) (by kernel_rfl) (by simp) ?_
            refine AllReadyH.cons (o := ⟨some 109, .call ⟨.value (.func 14), #[.tmp 107, .tmp 108], #[28, 28]⟩, 3, "law.go:112", #[⟨29, .data⟩, ⟨30, .data⟩, ⟨28, .chain⟩, ⟨28, .guard⟩], some (28, true)⟩) rfl (fun K hK => ?_) AllReadyH.nil
            go_simp
            go_at_call 14; refine (CM.out _).mono ?_; rintro r s2 ⟨rfl, h2⟩
            try go_wp2_with fail
            refine hK.out _ _ ?_ (fun hH2 => ?_)
            · (try dsimp only); exact KS.out _ (by repeat (first | exact Bel.rf | (with_reducible refine Bel.drwN ?_ _) | (with_reducible refine Bel.drw ?_) | (with_reducible refine Bel.al ?_ _) | (refine Bel.tr ?_ (by assumption))))
            clear hK K hH1
            try simp only [Act.put, List.setIfInBounds_toArray, List.set_cons_zero, List.set_cons_succ]
            refine wpAnyH_take (i := 32) (oi := ⟨some 110, .binOp .leq 3 (.tmp 109) (.const (.int .i64 0)) 3, 4, "law.go:112", #[⟨31, .data⟩, ⟨28, .guard⟩], some (28, true)⟩) (v := ?_) rfl (by kernel_rfl) (by kernel_rfl) (by kernel_rfl) (fun _ _ _ h => h) (Or.inl ⟨by rfl, ?_⟩) (by assumption) ?_
            rotate_left
            · (intro w hSw; (try dsimp only at hSw); go_simp; try with_reducible rfl)
            try simp only [Act.put, List.setIfInBounds_toArray, List.set_cons_zero, List.set_cons_succ]
            refine wpAnyH_take (i := 33) (oi := ⟨some 111, .pick (.tmp 106) (.tmp 110) (.const (.bool false)), 4, "law.go:112", #[⟨28, .data⟩, ⟨32, .data⟩], none⟩) (v := ?_) rfl (by kernel_rfl) (by kernel_rfl) (by kernel_rfl) (fun _ _ _ h => h) (Or.inl ⟨by rfl, ?_⟩) (by assumption) ?_
            rotate_left
            · (intro w hSw; (try dsimp only at hSw); go_simp; try with_reducible rfl)
            try simp only [Act.put, List.setIfInBounds_toArray, List.set_cons_zero, List.set_cons_succ]
            refine wpAnyH_take (i := 34) (oi := ⟨some 112, .move (.tmp 111), 4, "law.go:112", #[⟨33, .data⟩, ⟨31, .chain⟩], none⟩) (v := ?_) rfl (by kernel_rfl) (by kernel_rfl) (by kernel_rfl) (fun _ _ _ h => h) (Or.inl ⟨by rfl, ?_⟩) (by assumption) ?_
            rotate_left
            · (intro w hSw; (try dsimp only at hSw); go_simp; try with_reducible rfl)
            try simp only [Act.put, List.setIfInBounds_toArray, List.set_cons_zero, List.set_cons_succ]
            refine wpAnyH_take (i := 35) (oi := ⟨some 113, .load 28 (.tmp 9), 28, "law.go:112", #[⟨34, .guard⟩], some (34, true)⟩) (v := ?_) rfl (by kernel_rfl) (by kernel_rfl) (by kernel_rfl) (fun _ _ _ h => h) (Or.inl ⟨by rfl, ?_⟩) (by assumption) ?_
            rotate_left
            · (intro w hSw; (try dsimp only at hSw); go_simp; try with_reducible rfl)
            try simp only [Act.put, List.setIfInBounds_toArray, List.set_cons_zero, List.set_cons_succ]
            refine wpAnyH_take (i := 36) (oi := ⟨some 114, .load 28 (.tmp 17), 28, "law.go:112", #[⟨34, .guard⟩], some (34, true)⟩) (v := ?_) rfl (by kernel_rfl) (by kernel_rfl) (by kernel_rfl) (fun _ _ _ h => h) (Or.inl ⟨by rfl, ?_⟩) (by assumption) ?_
            rotate_left
            · (intro w hSw; (try dsimp only at hSw); go_simp; try with_reducible rfl)
            try simp only [Act.put, List.setIfInBounds_toArray, List.set_cons_zero, List.set_cons_succ]
            refine wpAnyH_take (i := 37) (oi := ⟨some 115, .binOp .eql 28 (.tmp 113) (.tmp 114) 28, 4, "law.go:112", #[⟨35, .data⟩, ⟨36, .data⟩, ⟨34, .guard⟩], some (34, true)⟩) (v := ?_) rfl (by kernel_rfl) (by kernel_rfl) (by kernel_rfl) (fun _ _ _ h => h) (Or.inl ⟨by rfl, ?_⟩) (by assumption) ?_
            rotate_left
            · (intro w hSw; (try dsimp only at hSw); go_simp; try with_reducible rfl)
            try simp only [Act.put, List.setIfInBounds_toArray, List.set_cons_zero, List.set_cons_succ]
            refine wpAnyH_take (i := 38) (oi := ⟨some 116, .move (.tmp 15), 3, "law.go:112", #[⟨34, .guard⟩], some (34, true)⟩) (v := ?_) rfl (by kernel_rfl) (by kernel_rfl) (by kernel_rfl) (fun _ _ _ h => h) (Or.inl ⟨by rfl, ?_⟩) (by assumption) ?_
            rotate_left
            · (intro w hSw; (try dsimp only at hSw); go_simp; try with_reducible rfl)
            try simp only [Act.put, List.setIfInBounds_toArray, List.set_cons_zero, List.set_cons_succ]
            refine wpAnyH_take (i := 39) (oi := ⟨some 117, .binOp .eql 3 (.tmp 116) (.const (.int .i64 0)) 3, 4, "law.go:112", #[⟨38, .data⟩, ⟨34, .guard⟩], some (34, true)⟩) (v := ?_) rfl (by kernel_rfl) (by kernel_rfl) (by kernel_rfl) (fun _ _ _ h => h) (Or.inl ⟨by rfl, ?_⟩) (by assumption) ?_
            rotate_left
            · (intro w hSw; (try dsimp only at hSw); go_simp; try with_reducible rfl)
            try simp only [Act.put, List.setIfInBounds_toArray, List.set_cons_zero, List.set_cons_succ]
            refine wpAnyH_take (i := 40) (oi := ⟨some 118, .move (.tmp 117), 4, "law.go:112", #[⟨39, .data⟩, ⟨34, .chain⟩, ⟨34, .guard⟩], some (34, true)⟩) (v := ?_) rfl (by kernel_rfl) (by kernel_rfl) (by kernel_rfl) (fun _ _ _ h => h) (Or.inl ⟨by rfl, ?_⟩) (by assumption) ?_
            rotate_left
            · (intro w hSw; (try dsimp only at hSw); go_simp; try with_reducible rfl)
            try simp only [Act.put, List.setIfInBounds_toArray, List.set_cons_zero, List.set_cons_succ]
            refine wpAnyH_take (i := 41) (oi := ⟨some 119, .move (.tmp 4), 22, "law.go:112", #[⟨40, .guard⟩], some (40, true)⟩) (v := undef) rfl (by kernel_rfl) (by kernel_rfl) (by kernel_rfl) (fun _ _ _ h => h) (Or.inr ⟨by rfl, rfl⟩) (by assumption) ?_
            try simp only [Act.put, List.setIfInBounds_toArray, List.set_cons_zero, List.set_cons_succ]
            refine wpAnyH_ready (rs := [42]) (by kernel_rfl) (by simp) ?_
            refine AllReadyH.cons (o := ⟨some 120, .call ⟨.value (.func 15), #[.tmp 119], #[22]⟩, 4, "law.go:112", #[⟨41, .data⟩, ⟨40, .chain⟩, ⟨40, .guard⟩], some (40, true)⟩) rfl (fun K hK => ?_) AllReadyH.nil
            go_simp
            refine hK.out _ _ (by assumption) (fun hH3 => ?_)
            clear hK K hH2
            try simp only [Act.put, List.setIfInBounds_toArray, List.set_cons_zero, List.set_cons_succ]
            refine wpAnyH_take (i := 43) (oi := ⟨some 121, .move (.tmp 120), 4, "law.go:112", #[⟨42, .data⟩, ⟨42, .chain⟩, ⟨40, .guard⟩], some (40, true)⟩) (v := undef) rfl (by kernel_rfl) (by kernel_rfl) (by kernel_rfl) (fun _ _ _ h => h) (Or.inr ⟨by rfl, rfl⟩) (by assumption) ?_
            try simp only [Act.put, List.setIfInBounds_toArray, List.set_cons_zero, List.set_cons_succ]
            refine wpAnyH_take (i := 44) (oi := ⟨some 122, .move (.tmp 5), 22, "law.go:112", #[⟨43, .guard⟩], some (43, false)⟩) (v := undef) rfl (by kernel_rfl) (by kernel_rfl) (by kernel_rfl) (fun _ _ _ h => h) (Or.inr ⟨by rfl, rfl⟩) (by assumption) ?_
            try simp only [Act.put, List.setIfInBounds_toArray, List.set_cons_zero, List.set_cons_succ]
            refine wpAnyH_ready (rs := [45]) (by kernel_rfl) (by simp) ?_
            refine AllReadyH.cons (o := ⟨some 123, .call ⟨.value (.func 15), #[.tmp 122], #[22]⟩, 4, "law.go:112", #[⟨44, .data⟩, ⟨43, .chain⟩, ⟨43, .guard⟩], some (43, false)⟩) rfl (fun K hK => ?_) AllReadyH.nil
            go_simp
            refine hK.out _ _ (by assumption) (fun hH4 => ?_)
            clear hK K hH3
            try simp only [Act.put, List.setIfInBounds_toArray, List.set_cons_zero, List.set_cons_succ]
            refine wpAnyH_take (i := 46) (oi := ⟨some 124, .pick (.tmp 121) (.const (.bool true)) (.tmp 123), 4, "law.go:112", #[⟨43, .data⟩, ⟨45, .data⟩, ⟨40, .guard⟩], some (40, true)⟩) (v := undef) rfl (by kernel_rfl) (by kernel_rfl) (by kernel_rfl) (fun _ _ _ h => h) (Or.inr ⟨by rfl, rfl⟩) (by assumption) ?_
            try simp only [Act.put, List.setIfInBounds_toArray, List.set_cons_zero, List.set_cons_succ]
            refine wpAnyH_take (i := 47) (oi := ⟨some 125, .pick (.tmp 118) (.tmp 124) (.const (.bool false)), 4, "law.go:112", #[⟨40, .data⟩, ⟨46, .data⟩, ⟨34, .guard⟩], some (34, true)⟩) (v := ?_) rfl (by kernel_rfl) (by kernel_rfl) (by kernel_rfl) (fun _ _ _ h => h) (Or.inl ⟨by rfl, ?_⟩) (by assumption) ?_
            rotate_left
            · (intro w hSw; (try dsimp only at hSw); go_simp; try with_reducible rfl)
            try simp only [Act.put, List.setIfInBounds_toArray, List.set_cons_zero, List.set_cons_succ]
            refine wpAnyH_take (i := 48) (oi := ⟨some 126, .binOp .eql 4 (.tmp 115) (.tmp 125) 4, 4, "law.go:112", #[⟨37, .data⟩, ⟨47, .data⟩, ⟨34, .guard⟩], some (34, true)⟩) (v := ?_) rfl (by kernel_rfl) (by kernel_rfl) (by kernel_rfl) (fun _ _ _ h => h) (Or.inl ⟨by rfl, ?_⟩) (by assumption) ?_
            rotate_left
            · (intro w hSw; (try dsimp only at hSw); go_simp; try with_reducible rfl)
            try simp only [Act.put, List.setIfInBounds_toArray, List.set_cons_zero, List.set_cons_succ]
            refine wpAnyH_take (i := 49) (oi := ⟨some 127, .pick (.tmp 112) (.tmp 126) (.const (.bool false)), 4, "law.go:112", #[⟨34, .data⟩, ⟨48, .data⟩], none⟩) (v := ?_) rfl (by kernel_rfl) (by kernel_rfl) (by kernel_rfl) (fun _ _ _ h => h) (Or.inl ⟨by rfl, ?_⟩) (by assumption) ?_
            rotate_left
            · (intro w hSw; (try dsimp only at hSw); go_simp; try with_reducible rfl)
            try simp only [Act.put, List.setIfInBounds_toArray, List.set_cons_zero, List.set_cons_succ]
            refine wpAnyH_take (i := 50) (oi := ⟨some 128, .move (.tmp 127), 4, "law.go:112", #[⟨49, .data⟩, ⟨45, .chain⟩], none⟩) (v := ?_) rfl (by kernel_rfl) (by kernel_rfl) (by kernel_rfl) (fun _ _ _ h => h) (Or.inl ⟨by rfl, ?_⟩) (by assumption) ?_
            rotate_left
            · (intro w hSw; (try dsimp only at hSw); go_simp; try with_reducible rfl)
            try simp only [Act.put, List.setIfInBounds_toArray, List.set_cons_zero, List.set_cons_succ]
            refine wpAnyH_take (i := 51) (oi := ⟨some 129, .load 28 (.tmp 9), 28, "law.go:112", #[⟨50, .guard⟩], some (50, true)⟩) (v := ?_) rfl (by kernel_rfl) (by kernel_rfl) (by kernel_rfl) (fun _ _ _ h => h) (Or.inl ⟨by rfl, ?_⟩) (by assumption) ?_
            rotate_left
            · (intro w hSw; (try dsimp only at hSw); go_simp; try with_reducible rfl)
            try simp only [Act.put, List.setIfInBounds_toArray, List.set_cons_zero, List.set_cons_succ]
            refine wpAnyH_take (i := 52) (oi := ⟨some 130, .load 28 (.tmp 17), 28, "law.go:112", #[⟨50, .guard⟩], some (50, true)⟩) (v := ?_) rfl (by kernel_rfl) (by kernel_rfl) (by kernel_rfl) (fun _ _ _ h => h) (Or.inl ⟨by rfl, ?_⟩) (by assumption) ?_
            rotate_left
            · (intro w hSw; (try dsimp only at hSw); go_simp; try with_reducible rfl)
            try simp only [Act.put, List.setIfInBounds_toArray, List.set_cons_zero, List.set_cons_succ]
            refine wpAnyH_take (i := 54) (oi := ⟨some 132, .move (.tmp 15), 3, "law.go:112", #[⟨50, .guard⟩], some (50, true)⟩) (v := ?_) rfl (by kernel_rfl) (by kernel_rfl) (by kernel_rfl) (fun _ _ _ h => h) (Or.inl ⟨by rfl, ?_⟩) (by assumption) ?_
            rotate_left
            · (intro w hSw; (try dsimp only at hSw); go_simp; try with_reducible rfl)
            try simp only [Act.put, List.setIfInBounds_toArray, List.set_cons_zero, List.set_cons_succ]
            refine wpAnyH_take (i := 55) (oi := ⟨some 133, .binOp .gtr 3 (.tmp 132) (.const (.int .i64 0)) 3, 4, "law.go:112", #[⟨54, .data⟩, ⟨50, .guard⟩], some (50, true)⟩) (v := ?_) rfl (by kernel_rfl) (by kernel_rfl) (by kernel_rfl) (fun _ _ _ h => h) (Or.inl ⟨by rfl, ?_⟩) (by assumption) ?_
            rotate_left
            · (intro w hSw; (try dsimp only at hSw); go_simp; try with_reducible rfl)
            try simp only [Act.put, List.setIfInBounds_toArray, List.set_cons_zero, List.set_cons_succ]
            refine wpAnyH_ready (rs := [53]) (by kernel_rfl) (by simp) ?_
            refine AllReadyH.cons (o := ⟨some 131, .call ⟨.value (.func 16), #[.tmp 129, .tmp 130], #[28, 28]⟩, 4, "law.go:112", #[⟨51, .data⟩, ⟨52, .data⟩, ⟨50, .chain⟩, ⟨50, .guard⟩], some (50, true)⟩) rfl (fun K hK => ?_) AllReadyH.nil
            go_simp
            go_at_call 16; refine (LS.out _).mono ?_; rintro r s5 ⟨rfl, h5⟩
            try go_wp2_with fail
            refine hK.out _ _ ?_ (fun hH5 => ?_)
            · (try dsimp only); exact KS.out _ (by repeat (first | exact Bel.rf | (with_reducible refine Bel.drwN ?_ _) | (with_reducible refine Bel.drw ?_) | (with_reducible refine Bel.al ?_ _) | (refine Bel.tr ?_ (by assumption))))
            clear hK K hH4
            try simp only [Act.put, List.setIfInBounds_toArray, List.set_cons_zero, List.set_cons_succ]
            refine wpAnyH_take (i := 56) (oi := ⟨some 134, .move (.tmp 133), 4, "law.go:112", #[⟨55, .data⟩, ⟨53, .chain⟩, ⟨50, .guard⟩], some (50, true)⟩) (v := ?_) rfl (by kernel_rfl) (by kernel_rfl) (by kernel_rfl) (fun _ _ _ h => h) (Or.inl ⟨by rfl, ?_⟩) (by assumption) ?_
            rotate_left
            · (intro w hSw; (try dsimp only at hSw); go_simp; try with_reducible rfl)
            try simp only [Act.put, List.setIfInBounds_toArray, List.set_cons_zero, List.set_cons_succ]
            refine wpAnyH_take (i := 57) (oi := ⟨some 135, .move (.tmp 4), 22, "law.go:112", #[⟨56, .guard⟩], some (56, false)⟩) (v := undef) rfl (by kernel_rfl) (by kernel_rfl) (by kernel_rfl) (fun _ _ _ h => h) (Or.inr ⟨by rfl, rfl⟩) (by assumption) ?_
            try simp only [Act.put, List.setIfInBounds_toArray, List.set_cons_zero, List.set_cons_succ]
            refine wpAnyH_ready (rs := [58]) (by kernel_rfl) (by simp) ?_
            refine AllReadyH.cons (o := ⟨some 136, .call ⟨.value (.func 15), #[.tmp 135], #[22]⟩, 4, "law.go:112", #[⟨57, .data⟩, ⟨56, .chain⟩, ⟨56, .guard⟩], some (56, false)⟩) rfl (fun K hK => ?_) AllReadyH.nil
            go_simp
            refine hK.out _ _ (by assumption) (fun hH6 => ?_)
            clear hK K hH5
            try simp only [Act.put, List.setIfInBounds_toArray, List.set_cons_zero, List.set_cons_succ]
            refine wpAnyH_take (i := 59) (oi := ⟨some 137, .unOp .not 4 (.tmp 136), 4, "law.go:112", #[⟨58, .data⟩, ⟨56, .guard⟩], some (56, false)⟩) (v := undef) rfl (by kernel_rfl) (by kernel_rfl) (by kernel_rfl) (fun _ _ _ h => h) (Or.inr ⟨by rfl, rfl⟩) (by assumption) ?_
            try simp only [Act.put, List.setIfInBounds_toArray, List.set_cons_zero, List.set_cons_succ]
            refine wpAnyH_take (i := 60) (oi := ⟨some 138, .move (.tmp 137), 4, "law.go:112", #[⟨59, .data⟩, ⟨58, .chain⟩, ⟨56, .guard⟩], some (56, false)⟩) (v := undef) rfl (by kernel_rfl) (by kernel_rfl) (by kernel_rfl) (fun _ _ _ h => h) (Or.inr ⟨by rfl, rfl⟩) (by assumption) ?_
            try simp only [Act.put, List.setIfInBounds_toArray, List.set_cons_zero, List.set_cons_succ]
            refine wpAnyH_take (i := 61) (oi := ⟨some 139, .move (.tmp 5), 22, "law.go:112", #[⟨60, .guard⟩], some (60, true)⟩) (v := undef) rfl (by kernel_rfl) (by kernel_rfl) (by kernel_rfl) (fun _ _ _ h => h) (Or.inr ⟨by rfl, rfl⟩) (by assumption) ?_
            try simp only [Act.put, List.setIfInBounds_toArray, List.set_cons_zero, List.set_cons_succ]
            refine wpAnyH_ready (rs := [62]) (by kernel_rfl) (by simp) ?_
            refine AllReadyH.cons (o := ⟨some 140, .call ⟨.value (.func 15), #[.tmp 139], #[22]⟩, 4, "law.go:112", #[⟨61, .data⟩, ⟨60, .chain⟩, ⟨60, .guard⟩], some (60, true)⟩) rfl (fun K hK => ?_) AllReadyH.nil
            go_simp
            refine hK.out _ _ (by assumption) (fun hH7 => ?_)
            clear hK K hH6
            try simp only [Act.put, List.setIfInBounds_toArray, List.set_cons_zero, List.set_cons_succ]
            refine wpAnyH_take (i := 63) (oi := ⟨some 141, .unOp .not 4 (.tmp 140), 4, "law.go:112", #[⟨62, .data⟩, ⟨60, .guard⟩], some (60, true)⟩) (v := undef) rfl (by kernel_rfl) (by kernel_rfl) (by kernel_rfl) (fun _ _ _ h => h) (Or.inr ⟨by rfl, rfl⟩) (by assumption) ?_
            try simp only [Act.put, List.setIfInBounds_toArray, List.set_cons_zero, List.set_cons_succ]
            refine wpAnyH_take (i := 64) (oi := ⟨some 142, .pick (.tmp 138) (.tmp 141) (.const (.bool false)), 4, "law.go:112", #[⟨60, .data⟩, ⟨63, .data⟩, ⟨56, .guard⟩], some (56, false)⟩) (v := undef) rfl (by kernel_rfl) (by kernel_rfl) (by kernel_rfl) (fun _ _ _ h => h) (Or.inr ⟨by rfl, rfl⟩) (by assumption) ?_
            try simp only [Act.put, List.setIfInBounds_toArray, List.set_cons_zero, List.set_cons_succ]
            refine wpAnyH_take (i := 65) (oi := ⟨some 143, .pick (.tmp 134) (.const (.bool true)) (.tmp 142), 4, "law.go:112", #[⟨56, .data⟩, ⟨64, .data⟩, ⟨50, .guard⟩], some (50, true)⟩) (v := ?_) rfl (by kernel_rfl) (by kernel_rfl) (by kernel_rfl) (fun _ _ _ h => h) (Or.inl ⟨by rfl, ?_⟩) (by assumption) ?_
            rotate_left
            · (intro w hSw; (try dsimp only at hSw); go_simp; try with_reducible rfl)
            try simp only [Act.put, List.setIfInBounds_toArray, List.set_cons_zero, List.set_cons_succ]
            refine wpAnyH_take (i := 66) (oi := ⟨some 144, .binOp .eql 4 (.tmp 131) (.tmp 143) 4, 4, "law.go:112", #[⟨53, .data⟩, ⟨65, .data⟩, ⟨50, .guard⟩], some (50, true)⟩) (v := ?_) rfl (by kernel_rfl) (by kernel_rfl) (by kernel_rfl) (fun _ _ _ h => h) (Or.inl ⟨by rfl, ?_⟩) (by assumption) ?_
            rotate_left
            · (intro w hSw; (try dsimp only at hSw); go_simp; try with_reducible rfl)
            try simp only [Act.put, List.setIfInBounds_toArray, List.set_cons_zero, List.set_cons_succ]
            refine wpAnyH_take (i := 67) (oi := ⟨some 145, .pick (.tmp 128) (.tmp 144) (.const (.bool false)), 4, "law.go:112", #[⟨50, .data⟩, ⟨66, .data⟩], none⟩) (v := ?_) rfl (by kernel_rfl) (by kernel_rfl) (by kernel_rfl) (fun _ _ _ h => h) (Or.inl ⟨by rfl, ?_⟩) (by assumption) ?_
            rotate_left
            · (intro w hSw; (try dsimp only at hSw); go_simp; try with_reducible rfl)
            try simp only [Act.put, List.setIfInBounds_toArray, List.set_cons_zero, List.set_cons_succ]
            refine wpAnyH_take (i := 68) (oi := ⟨some 146, .move (.tmp 145), 4, "law.go:112", #[⟨67, .data⟩, ⟨62, .chain⟩], none⟩) (v := ?_) rfl (by kernel_rfl) (by kernel_rfl) (by kernel_rfl) (fun _ _ _ h => h) (Or.inl ⟨by rfl, ?_⟩) (by assumption) ?_
            rotate_left
            · (intro w hSw; (try dsimp only at hSw); go_simp; try with_reducible rfl)
            try simp only [Act.put, List.setIfInBounds_toArray, List.set_cons_zero, List.set_cons_succ]
            refine wpAnyH_ready (rs := [69]) (by kernel_rfl) (by simp) ?_
            refine AllReadyH.cons (o := ⟨some 147, .call ⟨.value (.func 17), #[], #[]⟩, 4, "law.go:112", #[⟨68, .chain⟩, ⟨68, .guard⟩], some (68, true)⟩) rfl (fun K hK => ?_) AllReadyH.nil
            go_simp
            go_at_call 17; refine (AW.out _).mono ?_; rintro r s8 ⟨rfl, h8⟩
            try go_wp2_with fail
            refine hK.out _ _ ?_ (fun hH8 => ?_)
            · (try dsimp only); exact KS.out _ (by repeat (first | exact Bel.rf | (with_reducible refine Bel.drwN ?_ _) | (with_reducible refine Bel.drw ?_) | (with_reducible refine Bel.al ?_ _) | (refine Bel.tr ?_ (by assumption))))
            clear hK K hH7
            try simp only [Act.put, List.setIfInBounds_toArray, List.set_cons_zero, List.set_cons_succ]
            refine wpAnyH_take (i := 70) (oi := ⟨some 148, .pick (.tmp 146) (.tmp 147) (.const (.bool false)), 4, "law.go:112", #[⟨68, .data⟩, ⟨69, .data⟩], none⟩) (v := ?_) rfl (by kernel_rfl) (by kernel_rfl) (by kernel_rfl) (fun _ _ _ h => h) (Or.inl ⟨by rfl, ?_⟩) (by assumption) ?_
            rotate_left
            · (intro w hSw; (try dsimp only at hSw); go_simp; try with_reducible rfl)
            try simp only [Act.put, List.setIfInBounds_toArray, List.set_cons_zero, List.set_cons_succ]
            refine wpAnyH_take (i := 71) (oi := ⟨some 2, .assign (.tmp 148), 4, "law.go:112", #[⟨70, .data⟩, ⟨69, .chain⟩, ⟨0, .phase⟩, ⟨1, .phase⟩, ⟨2, .phase⟩, ⟨3, .phase⟩, ⟨4, .phase⟩, ⟨5, .phase⟩, ⟨6, .phase⟩, ⟨7, .phase⟩, ⟨8, .phase⟩, ⟨9, .phase⟩, ⟨10, .phase⟩, ⟨11, .phase⟩, ⟨12, .phase⟩, ⟨13, .phase⟩, ⟨14, .phase⟩, ⟨15, .phase⟩, ⟨16, .phase⟩, ⟨17, .phase⟩, ⟨18, .phase⟩, ⟨19, .phase⟩, ⟨20, .phase⟩, ⟨21, .phase⟩, ⟨22, .phase⟩, ⟨23, .phase⟩, ⟨24, .phase⟩, ⟨25, .phase⟩, ⟨26, .phase⟩, ⟨27, .phase⟩, ⟨28, .phase⟩, ⟨29, .phase⟩, ⟨30, .phase⟩, ⟨31, .phase⟩, ⟨32, .phase⟩, ⟨33, .phase⟩, ⟨34, .phase⟩, ⟨35, .phase⟩, ⟨36, .phase⟩, ⟨37, .phase⟩, ⟨38, .phase⟩, ⟨39, .phase⟩, ⟨40, .phase⟩, ⟨41, .phase⟩, ⟨42, .phase⟩, ⟨43, .phase⟩, ⟨44, .phase⟩, ⟨45, .phase⟩, ⟨46, .phase⟩, ⟨47, .phase⟩, ⟨48, .phase⟩, ⟨49, .phase⟩, ⟨50, .phase⟩, ⟨51, .phase⟩, ⟨52, .phase⟩, ⟨53, .phase⟩, ⟨54, .phase⟩, ⟨55, .phase⟩, ⟨56, .phase⟩, ⟨57, .phase⟩, ⟨58, .phase⟩, ⟨59, .phase⟩, ⟨60, .phase⟩, ⟨61, .phase⟩, ⟨62, .phase⟩, ⟨63, .phase⟩, ⟨64, .phase⟩, ⟨65, .phase⟩, ⟨66, .phase⟩, ⟨67, .phase⟩, ⟨68, .phase⟩, ⟨69, .phase⟩, ⟨70, .phase⟩], none⟩) (v := ?_) rfl (by kernel_rfl) (by kernel_rfl) (by kernel_rfl) (fun _ _ _ h => h) (Or.inl ⟨by rfl, ?_⟩) (by assumption) ?_
            rotate_left
            · (intro w hSw; (try dsimp only at hSw); go_simp; try with_reducible rfl)
            try simp only [Act.put, List.setIfInBounds_toArray, List.set_cons_zero, List.set_cons_succ]
            refine wpAnyH_done (by kernel_rfl) ?_ _
            refine NoPanic.normal ?_
            all_goals
              go_wp2
              go_ret
              exact ⟨rfl, Bel.bl (Bel.tr (HB2.out.tr HBV.out) (by repeat (first | exact HD_p4.out | (with_reducible refine Bel.drwN ?_ _) | (with_reducible refine Bel.drw ?_) | refine Bel.tr ?_ (by assumption))))⟩
        · have e3 : (Y == 1) = false := by simpa using hne
          have KS : Hid (∀ W', Bel (p4.alloc (.cells #[.int .i64 1, .int .i64 1] 28)) W' → ((fun w' => w'.cell? ⟨p1.heap.size, 0, none⟩ = some (.int .i64 1) ∧ w'.cell? ⟨p1.heap.size, 1, none⟩ = some (.int .i64 Y) ∧ w'.cell? ⟨p2.heap.size, 0, none⟩ = some (.int .i64 1) ∧ w'.cell? ⟨p2.heap.size, 1, none⟩ = some (.int .i64 Y) ∧ w'.cell? ⟨p3.heap.size, 0, none⟩ = some (.int .i64 1) ∧ w'.cell? ⟨p3.heap.size, 1, none⟩ = some (.int .i64 Y) ∧ w'.cell? ⟨p4.heap.size, 0, none⟩ = some (.int .i64 1) ∧ w'.cell? ⟨p4.heap.size, 1, none⟩ = some (.int .i64 1))) W') := fun W' h => ⟨h.kp q0, h.kp q1, h.kp q2, h.kp q3, h.kp q4, h.kp q5, h.kp q6, h.kp q7⟩
          clear q0 q1 q2 q3 q4 q5 q6 q7
          go_wp2_with fail
          simp only [List.append_eq, List.cons_append, List.nil_append]
          as_aux_lemma =>
            refine wp_region_noPanic ?_
            refine wp_region_held_drew (S := (fun w' => w'.cell? ⟨p1.heap.size, 0, none⟩ = some (.int .i64 1) ∧ w'.cell? ⟨p1.heap.size, 1, none⟩ = some (.int .i64 Y) ∧ w'.cell? ⟨p2.heap.size, 0, none⟩ = some (.int .i64 1) ∧ w'.cell? ⟨p2.heap.size, 1, none⟩ = some (.int .i64 Y) ∧ w'.cell? ⟨p3.heap.size, 0, none⟩ = some (.int .i64 1) ∧ w'.cell? ⟨p3.heap.size, 1, none⟩ = some (.int .i64 Y) ∧ w'.cell? ⟨p4.heap.size, 0, none⟩ = some (.int .i64 1) ∧ w'.cell? ⟨p4.heap.size, 1, none⟩ = some (.int .i64 1))) (by kernel_rfl) ?_ (fun hH0 => ?_)
            · (try dsimp only); exact KS.out _ (by repeat (first | exact Bel.rf | (with_reducible refine Bel.drwN ?_ _) | (with_reducible refine Bel.drw ?_) | (with_reducible refine Bel.al ?_ _) | (refine Bel.tr ?_ (by assumption))))
            refine wpAnyH_take (i := 0) (oi := ⟨some 78, .move (.tmp 10), 29, "law.go:112", #[], none⟩) (v := ?_) rfl (by kernel_rfl) (by kernel_rfl) (by kernel_rfl) (fun _ _ _ h => h) (Or.inl ⟨by rfl, ?_⟩) (by assumption) ?_
            rotate_left
            · (intro w hSw; (try dsimp only at hSw); go_simp; try with_reducible rfl)
            try simp only [Act.put, List.setIfInBounds_toArray, List.set_cons_zero, List.set_cons_succ]
            refine wpAnyH_take (i := 1) (oi := ⟨some 79, .binOp .eql 29 (.tmp 78) (.const (.int .i64 0)) 29, 4, "law.go:112", #[⟨0, .data⟩], none⟩) (v := ?_) rfl (by kernel_rfl) (by kernel_rfl) (by kernel_rfl) (fun _ _ _ h => h) (Or.inl ⟨by rfl, ?_⟩) (by assumption) ?_
            rotate_left
            · (intro w hSw; (try dsimp only at hSw); go_simp; try with_reducible rfl)
            try simp only [Act.put, List.setIfInBounds_toArray, List.set_cons_zero, List.set_cons_succ]
            refine wpAnyH_take (i := 2) (oi := ⟨some 80, .move (.tmp 79), 4, "law.go:112", #[⟨1, .data⟩], none⟩) (v := ?_) rfl (by kernel_rfl) (by kernel_rfl) (by kernel_rfl) (fun _ _ _ h => h) (Or.inl ⟨by rfl, ?_⟩) (by assumption) ?_
            rotate_left
            · (intro w hSw; (try dsimp only at hSw); go_simp; try with_reducible rfl)
            try simp only [Act.put, List.setIfInBounds_toArray, List.set_cons_zero, List.set_cons_succ]
            refine wpAnyH_take (i := 3) (oi := ⟨some 81, .move (.tmp 12), 29, "law.go:112", #[⟨2, .guard⟩], some (2, true)⟩) (v := ?_) rfl (by kernel_rfl) (by kernel_rfl) (by kernel_rfl) (fun _ _ _ h => h) (Or.inl ⟨by rfl, ?_⟩) (by assumption) ?_
            rotate_left
            · (intro w hSw; (try dsimp only at hSw); go_simp; try with_reducible rfl)
            try simp only [Act.put, List.setIfInBounds_toArray, List.set_cons_zero, List.set_cons_succ]
            refine wpAnyH_take (i := 4) (oi := ⟨some 82, .binOp .eql 29 (.tmp 81) (.const (.int .i64 0)) 29, 4, "law.go:112", #[⟨3, .data⟩, ⟨2, .guard⟩], some (2, true)⟩) (v := ?_) rfl (by kernel_rfl) (by kernel_rfl) (by kernel_rfl) (fun _ _ _ h => h) (Or.inl ⟨by rfl, ?_⟩) (by assumption) ?_
            rotate_left
            · (intro w hSw; (try dsimp only at hSw); go_simp; try with_reducible rfl)
            try simp only [Act.put, List.setIfInBounds_toArray, List.set_cons_zero, List.set_cons_succ]
            refine wpAnyH_take (i := 5) (oi := ⟨some 83, .pick (.tmp 80) (.tmp 82) (.const (.bool false)), 4, "law.go:112", #[⟨2, .data⟩, ⟨4, .data⟩], none⟩) (v := ?_) rfl (by kernel_rfl) (by kernel_rfl) (by kernel_rfl) (fun _ _ _ h => h) (Or.inl ⟨by rfl, ?_⟩) (by assumption) ?_
            rotate_left
            · (intro w hSw; (try dsimp only at hSw); go_simp; try with_reducible rfl)
            try simp only [Act.put, List.setIfInBounds_toArray, List.set_cons_zero, List.set_cons_succ]
            refine wpAnyH_take (i := 6) (oi := ⟨some 84, .move (.tmp 83), 4, "law.go:112", #[⟨5, .data⟩, ⟨2, .chain⟩], none⟩) (v := ?_) rfl (by kernel_rfl) (by kernel_rfl) (by kernel_rfl) (fun _ _ _ h => h) (Or.inl ⟨by rfl, ?_⟩) (by assumption) ?_
            rotate_left
            · (intro w hSw; (try dsimp only at hSw); go_simp; try with_reducible rfl)
            try simp only [Act.put, List.setIfInBounds_toArray, List.set_cons_zero, List.set_cons_succ]
            refine wpAnyH_take (i := 7) (oi := ⟨some 85, .move (.tmp 14), 29, "law.go:112", #[⟨6, .guard⟩], some (6, true)⟩) (v := ?_) rfl (by kernel_rfl) (by kernel_rfl) (by kernel_rfl) (fun _ _ _ h => h) (Or.inl ⟨by rfl, ?_⟩) (by assumption) ?_
            rotate_left
            · (intro w hSw; (try dsimp only at hSw); go_simp; try with_reducible rfl)
            try simp only [Act.put, List.setIfInBounds_toArray, List.set_cons_zero, List.set_cons_succ]
            refine wpAnyH_take (i := 8) (oi := ⟨some 86, .binOp .eql 29 (.tmp 85) (.const (.int .i64 0)) 29, 4, "law.go:112", #[⟨7, .data⟩, ⟨6, .guard⟩], some (6, true)⟩) (v := ?_) rfl (by kernel_rfl) (by kernel_rfl) (by kernel_rfl) (fun _ _ _ h => h) (Or.inl ⟨by rfl, ?_⟩) (by assumption) ?_
            rotate_left
            · (intro w hSw; (try dsimp only at hSw); go_simp; try with_reducible rfl)
            try simp only [Act.put, List.setIfInBounds_toArray, List.set_cons_zero, List.set_cons_succ]
            refine wpAnyH_take (i := 9) (oi := ⟨some 87, .pick (.tmp 84) (.tmp 86) (.const (.bool false)), 4, "law.go:112", #[⟨6, .data⟩, ⟨8, .data⟩], none⟩) (v := ?_) rfl (by kernel_rfl) (by kernel_rfl) (by kernel_rfl) (fun _ _ _ h => h) (Or.inl ⟨by rfl, ?_⟩) (by assumption) ?_
            rotate_left
            · (intro w hSw; (try dsimp only at hSw); go_simp; try with_reducible rfl)
            try simp only [Act.put, List.setIfInBounds_toArray, List.set_cons_zero, List.set_cons_succ]
            refine wpAnyH_take (i := 10) (oi := ⟨some 88, .move (.tmp 87), 4, "law.go:112", #[⟨9, .data⟩, ⟨6, .chain⟩], none⟩) (v := ?_) rfl (by kernel_rfl) (by kernel_rfl) (by kernel_rfl) (fun _ _ _ h => h) (Or.inl ⟨by rfl, ?_⟩) (by assumption) ?_
            rotate_left
            · (intro w hSw; (try dsimp only at hSw); go_simp; try with_reducible rfl)
            try simp only [Act.put, List.setIfInBounds_toArray, List.set_cons_zero, List.set_cons_succ]
            refine wpAnyH_take (i := 11) (oi := ⟨some 89, .move (.tmp 16), 29, "law.go:112", #[⟨10, .guard⟩], some (10, true)⟩) (v := ?_) rfl (by kernel_rfl) (by kernel_rfl) (by kernel_rfl) (fun _ _ _ h => h) (Or.inl ⟨by rfl, ?_⟩) (by assumption) ?_
            rotate_left
            · (intro w hSw; (try dsimp only at hSw); go_simp; try with_reducible rfl)
            try simp only [Act.put, List.setIfInBounds_toArray, List.set_cons_zero, List.set_cons_succ]
            refine wpAnyH_take (i := 12) (oi := ⟨some 90, .binOp .eql 29 (.tmp 89) (.const (.int .i64 0)) 29, 4, "law.go:112", #[⟨11, .data⟩, ⟨10, .guard⟩], some (10, true)⟩) (v := ?_) rfl (by kernel_rfl) (by kernel_rfl) (by kernel_rfl) (fun _ _ _ h => h) (Or.inl ⟨by rfl, ?_⟩) (by assumption) ?_
            rotate_left
            · (intro w hSw; (try dsimp only at hSw); go_simp; try with_reducible rfl)
            try simp only [Act.put, List.setIfInBounds_toArray, List.set_cons_zero, List.set_cons_succ]
            refine wpAnyH_take (i := 13) (oi := ⟨some 91, .pick (.tmp 88) (.tmp 90) (.const (.bool false)), 4, "law.go:112", #[⟨10, .data⟩, ⟨12, .data⟩], none⟩) (v := ?_) rfl (by kernel_rfl) (by kernel_rfl) (by kernel_rfl) (fun _ _ _ h => h) (Or.inl ⟨by rfl, ?_⟩) (by assumption) ?_
            rotate_left
            · (intro w hSw; (try dsimp only at hSw); go_simp; try with_reducible rfl)
            try simp only [Act.put, List.setIfInBounds_toArray, List.set_cons_zero, List.set_cons_succ]
            refine wpAnyH_take (i := 14) (oi := ⟨some 92, .move (.tmp 91), 4, "law.go:112", #[⟨13, .data⟩, ⟨10, .chain⟩], none⟩) (v := ?_) rfl (by kernel_rfl) (by kernel_rfl) (by kernel_rfl) (fun _ _ _ h => h) (Or.inl ⟨by rfl, ?_⟩) (by assumption) ?_
            rotate_left
            · (intro w hSw; (try dsimp only at hSw); go_simp; try with_reducible rfl)
            try simp only [Act.put, List.setIfInBounds_toArray, List.set_cons_zero, List.set_cons_succ]
            refine wpAnyH_take (i := 15) (oi := ⟨some 93, .load 28 (.tmp 9), 28, "law.go:112", #[⟨14, .guard⟩], some (14, true)⟩) (v := ?_) rfl (by kernel_rfl) (by kernel_rfl) (by kernel_rfl) (fun _ _ _ h => h) (Or.inl ⟨by rfl, ?_⟩) (by assumption) ?_
            rotate_left
            · (intro w hSw; (try dsimp only at hSw); go_simp; try with_reducible rfl)
            try simp only [Act.put, List.setIfInBounds_toArray, List.set_cons_zero, List.set_cons_succ]
            refine wpAnyH_take (i := 16) (oi := ⟨some 94, .load 28 (.tmp 11), 28, "law.go:112", #[⟨14, .guard⟩], some (14, true)⟩) (v := ?_) rfl (by kernel_rfl) (by kernel_rfl) (by kernel_rfl) (fun _ _ _ h => h) (Or.inl ⟨by rfl, ?_⟩) (by assumption) ?_
            rotate_left
            · (intro w hSw; (try dsimp only at hSw); go_simp; try with_reducible rfl)
            try simp only [Act.put, List.setIfInBounds_toArray, List.set_cons_zero, List.set_cons_succ]
            refine wpAnyH_take (i := 17) (oi := ⟨some 95, .binOp .eql 28 (.tmp 93) (.tmp 94) 28, 4, "law.go:112", #[⟨15, .data⟩, ⟨16, .data⟩, ⟨14, .guard⟩], some (14, true)⟩) (v := ?_) rfl (by kernel_rfl) (by kernel_rfl) (by kernel_rfl) (fun _ _ _ h => h) (Or.inl ⟨by rfl, ?_⟩) (by assumption) ?_
            rotate_left
            · (intro w hSw; (try dsimp only at hSw); go_simp; try with_reducible rfl)
            try simp only [Act.put, List.setIfInBounds_toArray, List.set_cons_zero, List.set_cons_succ]
            refine wpAnyH_take (i := 18) (oi := ⟨some 96, .pick (.tmp 92) (.tmp 95) (.const (.bool false)), 4, "law.go:112", #[⟨14, .data⟩, ⟨17, .data⟩], none⟩) (v := ?_) rfl (by kernel_rfl) (by kernel_rfl) (by kernel_rfl) (fun _ _ _ h => h) (Or.inl ⟨by rfl, ?_⟩) (by assumption) ?_
            rotate_left
            · (intro w hSw; (try dsimp only at hSw); go_simp; try with_reducible rfl)
            try simp only [Act.put, List.setIfInBounds_toArray, List.set_cons_zero, List.set_cons_succ]
            refine wpAnyH_take (i := 19) (oi := ⟨some 97, .move (.tmp 96), 4, "law.go:112", #[⟨18, .data⟩, ⟨14, .chain⟩], none⟩) (v := ?_) rfl (by kernel_rfl) (by kernel_rfl) (by kernel_rfl) (fun _ _ _ h => h) (Or.inl ⟨by rfl, ?_⟩) (by assumption) ?_
            rotate_left
            · (intro w hSw; (try dsimp only at hSw); go_simp; try with_reducible rfl)
            try simp only [Act.put, List.setIfInBounds_toArray, List.set_cons_zero, List.set_cons_succ]
            refine wpAnyH_take (i := 20) (oi := ⟨some 98, .load 28 (.tmp 9), 28, "law.go:112", #[⟨19, .guard⟩], some (19, true)⟩) (v := ?_) rfl (by kernel_rfl) (by kernel_rfl) (by kernel_rfl) (fun _ _ _ h => h) (Or.inl ⟨by rfl, ?_⟩) (by assumption) ?_
            rotate_left
            · (intro w hSw; (try dsimp only at hSw); go_simp; try with_reducible rfl)
            try simp only [Act.put, List.setIfInBounds_toArray, List.set_cons_zero, List.set_cons_succ]
            refine wpAnyH_take (i := 21) (oi := ⟨some 99, .load 28 (.tmp 13), 28, "law.go:112", #[⟨19, .guard⟩], some (19, true)⟩) (v := ?_) rfl (by kernel_rfl) (by kernel_rfl) (by kernel_rfl) (fun _ _ _ h => h) (Or.inl ⟨by rfl, ?_⟩) (by assumption) ?_
            rotate_left
            · (intro w hSw; (try dsimp only at hSw); go_simp; try with_reducible rfl)
            try simp only [Act.put, List.setIfInBounds_toArray, List.set_cons_zero, List.set_cons_succ]
            refine wpAnyH_take (i := 22) (oi := ⟨some 100, .binOp .eql 28 (.tmp 98) (.tmp 99) 28, 4, "law.go:112", #[⟨20, .data⟩, ⟨21, .data⟩, ⟨19, .guard⟩], some (19, true)⟩) (v := ?_) rfl (by kernel_rfl) (by kernel_rfl) (by kernel_rfl) (fun _ _ _ h => h) (Or.inl ⟨by rfl, ?_⟩) (by assumption) ?_
            rotate_left
            · (intro w hSw; (try dsimp only at hSw); go_simp; try with_reducible rfl)
            try simp only [Act.put, List.setIfInBounds_toArray, List.set_cons_zero, List.set_cons_succ]
            refine wpAnyH_take (i := 23) (oi := ⟨some 101, .pick (.tmp 97) (.tmp 100) (.const (.bool false)), 4, "law.go:112", #[⟨19, .data⟩, ⟨22, .data⟩], none⟩) (v := ?_) rfl (by kernel_rfl) (by kernel_rfl) (by kernel_rfl) (fun _ _ _ h => h) (Or.inl ⟨by rfl, ?_⟩) (by assumption) ?_
            rotate_left
            · (intro w hSw; (try dsimp only at hSw); go_simp; try with_reducible rfl)
            try simp only [Act.put, List.setIfInBounds_toArray, List.set_cons_zero, List.set_cons_succ]
            refine wpAnyH_take (i := 24) (oi := ⟨some 102, .move (.tmp 101), 4, "law.go:112", #[⟨23, .data⟩, ⟨19, .chain⟩], none⟩) (v := ?_) rfl (by kernel_rfl) (by kernel_rfl) (by kernel_rfl) (fun _ _ _ h => h) (Or.inl ⟨by rfl, ?_⟩) (by assumption) ?_
            rotate_left
            · (intro w hSw; (try dsimp only at hSw); go_simp; try with_reducible rfl)
            try simp only [Act.put, List.setIfInBounds_toArray, List.set_cons_zero, List.set_cons_succ]
            refine wpAnyH_take (i := 25) (oi := ⟨some 103, .load 28 (.tmp 9), 28, "law.go:112", #[⟨24, .guard⟩], some (24, true)⟩) (v := ?_) rfl (by kernel_rfl) (by kernel_rfl) (by kernel_rfl) (fun _ _ _ h => h) (Or.inl ⟨by rfl, ?_⟩) (by assumption) ?_
            rotate_left
            · (intro w hSw; (try dsimp only at hSw); go_simp; try with_reducible rfl)
            try simp only [Act.put, List.setIfInBounds_toArray, List.set_cons_zero, List.set_cons_succ]
            refine wpAnyH_ready (rs := [26]) (by kernel_rfl) (by simp) ?_
            refine AllReadyH.cons (o := ⟨some 104, .call ⟨.value (.func 13), #[.tmp 103], #[28]⟩, 4, "law.go:112", #[⟨25, .data⟩, ⟨24, .chain⟩, ⟨24, .guard⟩], some (24, true)⟩) rfl (fun K hK => ?_) AllReadyH.nil
            go_simp
            go_at_call 13; refine (VA.out _).mono ?_; rintro r s1 ⟨rfl, h1⟩
            try go_wp2_with fail
            refine hK.out _ _ ?_ (fun hH1 => ?_)
            · (try dsimp only); exact KS.out _ (by repeat (first | exact Bel.rf | (with_reducible refine Bel.drwN ?_ _) | (with_reducible refine Bel.drw ?_) | (with_reducible refine Bel.al ?_ _) | (refine Bel.tr ?_ (by assumption))))
            clear hK K hH0
            try simp only [Act.put, List.setIfInBounds_toArray, List.set_cons_zero, List.set_cons_succ]
            refine wpAnyH_take (i := 27) (oi := ⟨some 105, .pick (.tmp 102) (.tmp 104) (.const (.bool false)), 4, "law.go:112", #[⟨24, .data⟩, ⟨26, .data⟩], none⟩) (v := ?_) rfl (by kernel_rfl) (by kernel_rfl) (by kernel_rfl) (fun _ _ _ h => h) (Or.inl ⟨by rfl, ?_⟩) (by assumption) ?_
            rotate_left
            · (intro w hSw; (try dsimp only at hSw); go_simp; try with_reducible rfl)
            try simp only [Act.put, List.setIfInBounds_toArray, List.set_cons_zero, List.set_cons_succ]
            refine wpAnyH_take (i := 28) (oi := ⟨some 106, .move (.tmp 105), 4, "law.go:112", #[⟨27, .data⟩, ⟨26, .chain⟩], none⟩) (v := ?_) rfl (by kernel_rfl) (by kernel_rfl) (by kernel_rfl) (fun _ _ _ h => h) (Or.inl ⟨by rfl, ?_⟩) (by assumption) ?_
            rotate_left
            · (intro w hSw; (try dsimp only at hSw); go_simp; try with_reducible rfl)
            try simp only [Act.put, List.setIfInBounds_toArray, List.set_cons_zero, List.set_cons_succ]
            refine wpAnyH_take (i := 29) (oi := ⟨some 107, .load 28 (.tmp 9), 28, "law.go:112", #[⟨28, .guard⟩], some (28, true)⟩) (v := ?_) rfl (by kernel_rfl) (by kernel_rfl) (by kernel_rfl) (fun _ _ _ h => h) (Or.inl ⟨by rfl, ?_⟩) (by assumption) ?_
            rotate_left
            · (intro w hSw; (try dsimp only at hSw); go_simp; try with_reducible rfl)
            try simp only [Act.put, List.setIfInBounds_toArray, List.set_cons_zero, List.set_cons_succ]
            refine wpAnyH_take (i := 30) (oi := ⟨some 108, .build 28 #[(0, .const (.int .i64 2)), (1, .const (.int .i64 1))], 28, "law.go:112", #[⟨28, .guard⟩], some (28, true)⟩) (v := ?_) rfl (by kernel_rfl) (by kernel_rfl) (by kernel_rfl) (fun _ _ _ h => h) (Or.inl ⟨by rfl, ?_⟩) (by assumption) ?_
            rotate_left
            · (intro w hSw; (try dsimp only at hSw); go_simp; try with_reducible rfl)
            try simp only [Act.put, List.setIfInBounds_toArray, List.set_cons_zero, List.set_cons_succ]
            refine wpAnyH_ready (rs := [31]) (by kernel_rfl) (by simp) ?_
            refine AllReadyH.cons (o := ⟨some 109, .call ⟨.value (.func 14), #[.tmp 107, .tmp 108], #[28, 28]⟩, 3, "law.go:112", #[⟨29, .data⟩, ⟨30, .data⟩, ⟨28, .chain⟩, ⟨28, .guard⟩], some (28, true)⟩) rfl (fun K hK => ?_) AllReadyH.nil
            go_simp
            go_at_call 14; refine (CM.out _).mono ?_; rintro r s2 ⟨rfl, h2⟩
            try go_wp2_with fail
            refine hK.out _ _ ?_ (fun hH2 => ?_)
            · (try dsimp only); exact KS.out _ (by repeat (first | exact Bel.rf | (with_reducible refine Bel.drwN ?_ _) | (with_reducible refine Bel.drw ?_) | (with_reducible refine Bel.al ?_ _) | (refine Bel.tr ?_ (by assumption))))
            clear hK K hH1
            try simp only [Act.put, List.setIfInBounds_toArray, List.set_cons_zero, List.set_cons_succ]
            refine wpAnyH_take (i := 32) (oi := ⟨some 110, .binOp .leq 3 (.tmp 109) (.const (.int .i64 0)) 3, 4, "law.go:112", #[⟨31, .data⟩, ⟨28, .guard⟩], some (28, true)⟩) (v := ?_) rfl (by kernel_rfl) (by kernel_rfl) (by kernel_rfl) (fun _ _ _ h => h) (Or.inl ⟨by rfl, ?_⟩) (by assumption) ?_
            rotate_left
            · (intro w hSw; (try dsimp only at hSw); go_simp; try with_reducible rfl)
            try simp only [Act.put, List.setIfInBounds_toArray, List.set_cons_zero, List.set_cons_succ]
            refine wpAnyH_take (i := 33) (oi := ⟨some 111, .pick (.tmp 106) (.tmp 110) (.const (.bool false)), 4, "law.go:112", #[⟨28, .data⟩, ⟨32, .data⟩], none⟩) (v := ?_) rfl (by kernel_rfl) (by kernel_rfl) (by kernel_rfl) (fun _ _ _ h => h) (Or.inl ⟨by rfl, ?_⟩) (by assumption) ?_
            rotate_left
            · (intro w hSw; (try dsimp only at hSw); go_simp; try with_reducible rfl)
            try simp only [Act.put, List.setIfInBounds_toArray, List.set_cons_zero, List.set_cons_succ]
            refine wpAnyH_take (i := 34) (oi := ⟨some 112, .move (.tmp 111), 4, "law.go:112", #[⟨33, .data⟩, ⟨31, .chain⟩], none⟩) (v := ?_) rfl (by kernel_rfl) (by kernel_rfl) (by kernel_rfl) (fun _ _ _ h => h) (Or.inl ⟨by rfl, ?_⟩) (by assumption) ?_
            rotate_left
            · (intro w hSw; (try dsimp only at hSw); go_simp; try with_reducible rfl)
            try simp only [Act.put, List.setIfInBounds_toArray, List.set_cons_zero, List.set_cons_succ]
            refine wpAnyH_take (i := 35) (oi := ⟨some 113, .load 28 (.tmp 9), 28, "law.go:112", #[⟨34, .guard⟩], some (34, true)⟩) (v := ?_) rfl (by kernel_rfl) (by kernel_rfl) (by kernel_rfl) (fun _ _ _ h => h) (Or.inl ⟨by rfl, ?_⟩) (by assumption) ?_
            rotate_left
            · (intro w hSw; (try dsimp only at hSw); go_simp; try with_reducible rfl)
            try simp only [Act.put, List.setIfInBounds_toArray, List.set_cons_zero, List.set_cons_succ]
            refine wpAnyH_take (i := 36) (oi := ⟨some 114, .load 28 (.tmp 17), 28, "law.go:112", #[⟨34, .guard⟩], some (34, true)⟩) (v := ?_) rfl (by kernel_rfl) (by kernel_rfl) (by kernel_rfl) (fun _ _ _ h => h) (Or.inl ⟨by rfl, ?_⟩) (by assumption) ?_
            rotate_left
            · (intro w hSw; (try dsimp only at hSw); go_simp; try with_reducible rfl)
            try simp only [Act.put, List.setIfInBounds_toArray, List.set_cons_zero, List.set_cons_succ]
            refine wpAnyH_take (i := 37) (oi := ⟨some 115, .binOp .eql 28 (.tmp 113) (.tmp 114) 28, 4, "law.go:112", #[⟨35, .data⟩, ⟨36, .data⟩, ⟨34, .guard⟩], some (34, true)⟩) (v := ?_) rfl (by kernel_rfl) (by kernel_rfl) (by kernel_rfl) (fun _ _ _ h => h) (Or.inl ⟨by rfl, ?_⟩) (by assumption) ?_
            rotate_left
            · (intro w hSw; (try dsimp only at hSw); go_simp; try with_reducible rfl)
            try simp only [Act.put, List.setIfInBounds_toArray, List.set_cons_zero, List.set_cons_succ]
            refine wpAnyH_take (i := 38) (oi := ⟨some 116, .move (.tmp 15), 3, "law.go:112", #[⟨34, .guard⟩], some (34, true)⟩) (v := ?_) rfl (by kernel_rfl) (by kernel_rfl) (by kernel_rfl) (fun _ _ _ h => h) (Or.inl ⟨by rfl, ?_⟩) (by assumption) ?_
            rotate_left
            · (intro w hSw; (try dsimp only at hSw); go_simp; try with_reducible rfl)
            try simp only [Act.put, List.setIfInBounds_toArray, List.set_cons_zero, List.set_cons_succ]
            refine wpAnyH_take (i := 39) (oi := ⟨some 117, .binOp .eql 3 (.tmp 116) (.const (.int .i64 0)) 3, 4, "law.go:112", #[⟨38, .data⟩, ⟨34, .guard⟩], some (34, true)⟩) (v := ?_) rfl (by kernel_rfl) (by kernel_rfl) (by kernel_rfl) (fun _ _ _ h => h) (Or.inl ⟨by rfl, ?_⟩) (by assumption) ?_
            rotate_left
            · (intro w hSw; (try dsimp only at hSw); go_simp; try with_reducible rfl)
            try simp only [Act.put, List.setIfInBounds_toArray, List.set_cons_zero, List.set_cons_succ]
            refine wpAnyH_take (i := 40) (oi := ⟨some 118, .move (.tmp 117), 4, "law.go:112", #[⟨39, .data⟩, ⟨34, .chain⟩, ⟨34, .guard⟩], some (34, true)⟩) (v := ?_) rfl (by kernel_rfl) (by kernel_rfl) (by kernel_rfl) (fun _ _ _ h => h) (Or.inl ⟨by rfl, ?_⟩) (by assumption) ?_
            rotate_left
            · (intro w hSw; (try dsimp only at hSw); go_simp; try with_reducible rfl)
            try simp only [Act.put, List.setIfInBounds_toArray, List.set_cons_zero, List.set_cons_succ]
            refine wpAnyH_take (i := 41) (oi := ⟨some 119, .move (.tmp 4), 22, "law.go:112", #[⟨40, .guard⟩], some (40, true)⟩) (v := undef) rfl (by kernel_rfl) (by kernel_rfl) (by kernel_rfl) (fun _ _ _ h => h) (Or.inr ⟨by rfl, rfl⟩) (by assumption) ?_
            try simp only [Act.put, List.setIfInBounds_toArray, List.set_cons_zero, List.set_cons_succ]
            refine wpAnyH_ready (rs := [42]) (by kernel_rfl) (by simp) ?_
            refine AllReadyH.cons (o := ⟨some 120, .call ⟨.value (.func 15), #[.tmp 119], #[22]⟩, 4, "law.go:112", #[⟨41, .data⟩, ⟨40, .chain⟩, ⟨40, .guard⟩], some (40, true)⟩) rfl (fun K hK => ?_) AllReadyH.nil
            go_simp
            refine hK.out _ _ (by assumption) (fun hH3 => ?_)
            clear hK K hH2
            try simp only [Act.put, List.setIfInBounds_toArray, List.set_cons_zero, List.set_cons_succ]
            refine wpAnyH_take (i := 43) (oi := ⟨some 121, .move (.tmp 120), 4, "law.go:112", #[⟨42, .data⟩, ⟨42, .chain⟩, ⟨40, .guard⟩], some (40, true)⟩) (v := undef) rfl (by kernel_rfl) (by kernel_rfl) (by kernel_rfl) (fun _ _ _ h => h) (Or.inr ⟨by rfl, rfl⟩) (by assumption) ?_
            try simp only [Act.put, List.setIfInBounds_toArray, List.set_cons_zero, List.set_cons_succ]
            refine wpAnyH_take (i := 44) (oi := ⟨some 122, .move (.tmp 5), 22, "law.go:112", #[⟨43, .guard⟩], some (43, false)⟩) (v := undef) rfl (by kernel_rfl) (by kernel_rfl) (by kernel_rfl) (fun _ _ _ h => h) (Or.inr ⟨by rfl, rfl⟩) (by assumption) ?_
            try simp only [Act.put, List.setIfInBounds_toArray, List.set_cons_zero, List.set_cons_succ]
            refine wpAnyH_ready (rs := [45]) (by kernel_rfl) (by simp) ?_
            refine AllReadyH.cons (o := ⟨some 123, .call ⟨.value (.func 15), #[.tmp 122], #[22]⟩, 4, "law.go:112", #[⟨44, .data⟩, ⟨43, .chain⟩, ⟨43, .guard⟩], some (43, false)⟩) rfl (fun K hK => ?_) AllReadyH.nil
            go_simp
            refine hK.out _ _ (by assumption) (fun hH4 => ?_)
            clear hK K hH3
            try simp only [Act.put, List.setIfInBounds_toArray, List.set_cons_zero, List.set_cons_succ]
            refine wpAnyH_take (i := 46) (oi := ⟨some 124, .pick (.tmp 121) (.const (.bool true)) (.tmp 123), 4, "law.go:112", #[⟨43, .data⟩, ⟨45, .data⟩, ⟨40, .guard⟩], some (40, true)⟩) (v := undef) rfl (by kernel_rfl) (by kernel_rfl) (by kernel_rfl) (fun _ _ _ h => h) (Or.inr ⟨by rfl, rfl⟩) (by assumption) ?_
            try simp only [Act.put, List.setIfInBounds_toArray, List.set_cons_zero, List.set_cons_succ]
            refine wpAnyH_take (i := 47) (oi := ⟨some 125, .pick (.tmp 118) (.tmp 124) (.const (.bool false)), 4, "law.go:112", #[⟨40, .data⟩, ⟨46, .data⟩, ⟨34, .guard⟩], some (34, true)⟩) (v := ?_) rfl (by kernel_rfl) (by kernel_rfl) (by kernel_rfl) (fun _ _ _ h => h) (Or.inl ⟨by rfl, ?_⟩) (by assumption) ?_
            rotate_left
            · (intro w hSw; (try dsimp only at hSw); go_simp; try with_reducible rfl)
            try simp only [Act.put, List.setIfInBounds_toArray, List.set_cons_zero, List.set_cons_succ]
            refine wpAnyH_take (i := 48) (oi := ⟨some 126, .binOp .eql 4 (.tmp 115) (.tmp 125) 4, 4, "law.go:112", #[⟨37, .data⟩, ⟨47, .data⟩, ⟨34, .guard⟩], some (34, true)⟩) (v := ?_) rfl (by kernel_rfl) (by kernel_rfl) (by kernel_rfl) (fun _ _ _ h => h) (Or.inl ⟨by rfl, ?_⟩) (by assumption) ?_
            rotate_left
            · (intro w hSw; (try dsimp only at hSw); go_simp; try with_reducible rfl)
            try simp only [Act.put, List.setIfInBounds_toArray, List.set_cons_zero, List.set_cons_succ]
            refine wpAnyH_take (i := 49) (oi := ⟨some 127, .pick (.tmp 112) (.tmp 126) (.const (.bool false)), 4, "law.go:112", #[⟨34, .data⟩, ⟨48, .data⟩], none⟩) (v := ?_) rfl (by kernel_rfl) (by kernel_rfl) (by kernel_rfl) (fun _ _ _ h => h) (Or.inl ⟨by rfl, ?_⟩) (by assumption) ?_
            rotate_left
            · (intro w hSw; (try dsimp only at hSw); go_simp; try with_reducible rfl)
            try simp only [Act.put, List.setIfInBounds_toArray, List.set_cons_zero, List.set_cons_succ]
            refine wpAnyH_take (i := 50) (oi := ⟨some 128, .move (.tmp 127), 4, "law.go:112", #[⟨49, .data⟩, ⟨45, .chain⟩], none⟩) (v := ?_) rfl (by kernel_rfl) (by kernel_rfl) (by kernel_rfl) (fun _ _ _ h => h) (Or.inl ⟨by rfl, ?_⟩) (by assumption) ?_
            rotate_left
            · (intro w hSw; (try dsimp only at hSw); go_simp; try with_reducible rfl)
            try simp only [Act.put, List.setIfInBounds_toArray, List.set_cons_zero, List.set_cons_succ]
            refine wpAnyH_take (i := 51) (oi := ⟨some 129, .load 28 (.tmp 9), 28, "law.go:112", #[⟨50, .guard⟩], some (50, true)⟩) (v := ?_) rfl (by kernel_rfl) (by kernel_rfl) (by kernel_rfl) (fun _ _ _ h => h) (Or.inl ⟨by rfl, ?_⟩) (by assumption) ?_
            rotate_left
            · (intro w hSw; (try dsimp only at hSw); go_simp; try with_reducible rfl)
            try simp only [Act.put, List.setIfInBounds_toArray, List.set_cons_zero, List.set_cons_succ]
            refine wpAnyH_take (i := 52) (oi := ⟨some 130, .load 28 (.tmp 17), 28, "law.go:112", #[⟨50, .guard⟩], some (50, true)⟩) (v := ?_) rfl (by kernel_rfl) (by kernel_rfl) (by kernel_rfl) (fun _ _ _ h => h) (Or.inl ⟨by rfl, ?_⟩) (by assumption) ?_
            rotate_left
            · (intro w hSw; (try dsimp only at hSw); go_simp; try with_reducible rfl)
            try simp only [Act.put, List.setIfInBounds_toArray, List.set_cons_zero, List.set_cons_succ]
            refine wpAnyH_take (i := 54) (oi := ⟨some 132, .move (.tmp 15), 3, "law.go:112", #[⟨50, .guard⟩], some (50, true)⟩) (v := ?_) rfl (by kernel_rfl) (by kernel_rfl) (by kernel_rfl) (fun _ _ _ h => h) (Or.inl ⟨by rfl, ?_⟩) (by assumption) ?_
            rotate_left
            · (intro w hSw; (try dsimp only at hSw); go_simp; try with_reducible rfl)
            try simp only [Act.put, List.setIfInBounds_toArray, List.set_cons_zero, List.set_cons_succ]
            refine wpAnyH_take (i := 55) (oi := ⟨some 133, .binOp .gtr 3 (.tmp 132) (.const (.int .i64 0)) 3, 4, "law.go:112", #[⟨54, .data⟩, ⟨50, .guard⟩], some (50, true)⟩) (v := ?_) rfl (by kernel_rfl) (by kernel_rfl) (by kernel_rfl) (fun _ _ _ h => h) (Or.inl ⟨by rfl, ?_⟩) (by assumption) ?_
            rotate_left
            · (intro w hSw; (try dsimp only at hSw); go_simp; try with_reducible rfl)
            try simp only [Act.put, List.setIfInBounds_toArray, List.set_cons_zero, List.set_cons_succ]
            refine wpAnyH_ready (rs := [53]) (by kernel_rfl) (by simp) ?_
            refine AllReadyH.cons (o := ⟨some 131, .call ⟨.value (.func 16), #[.tmp 129, .tmp 130], #[28, 28]⟩, 4, "law.go:112", #[⟨51, .data⟩, ⟨52, .data⟩, ⟨50, .chain⟩, ⟨50, .guard⟩], some (50, true)⟩) rfl (fun K hK => ?_) AllReadyH.nil
            go_simp
            go_at_call 16; refine (LS.out _).mono ?_; rintro r s5 ⟨rfl, h5⟩
            try go_wp2_with fail
            refine hK.out _ _ ?_ (fun hH5 => ?_)
            · (try dsimp only); exact KS.out _ (by repeat (first | exact Bel.rf | (with_reducible refine Bel.drwN ?_ _) | (with_reducible refine Bel.drw ?_) | (with_reducible refine Bel.al ?_ _) | (refine Bel.tr ?_ (by assumption))))
            clear hK K hH4
            try simp only [Act.put, List.setIfInBounds_toArray, List.set_cons_zero, List.set_cons_succ]
            refine wpAnyH_take (i := 56) (oi := ⟨some 134, .move (.tmp 133), 4, "law.go:112", #[⟨55, .data⟩, ⟨53, .chain⟩, ⟨50, .guard⟩], some (50, true)⟩) (v := ?_) rfl (by kernel_rfl) (by kernel_rfl) (by kernel_rfl) (fun _ _ _ h => h) (Or.inl ⟨by rfl, ?_⟩) (by assumption) ?_
            rotate_left
            · (intro w hSw; (try dsimp only at hSw); go_simp; try with_reducible rfl)
            try simp only [Act.put, List.setIfInBounds_toArray, List.set_cons_zero, List.set_cons_succ]
            refine wpAnyH_take (i := 57) (oi := ⟨some 135, .move (.tmp 4), 22, "law.go:112", #[⟨56, .guard⟩], some (56, false)⟩) (v := undef) rfl (by kernel_rfl) (by kernel_rfl) (by kernel_rfl) (fun _ _ _ h => h) (Or.inr ⟨by rfl, rfl⟩) (by assumption) ?_
            try simp only [Act.put, List.setIfInBounds_toArray, List.set_cons_zero, List.set_cons_succ]
            refine wpAnyH_ready (rs := [58]) (by kernel_rfl) (by simp) ?_
            refine AllReadyH.cons (o := ⟨some 136, .call ⟨.value (.func 15), #[.tmp 135], #[22]⟩, 4, "law.go:112", #[⟨57, .data⟩, ⟨56, .chain⟩, ⟨56, .guard⟩], some (56, false)⟩) rfl (fun K hK => ?_) AllReadyH.nil
            go_simp
            refine hK.out _ _ (by assumption) (fun hH6 => ?_)
            clear hK K hH5
            try simp only [Act.put, List.setIfInBounds_toArray, List.set_cons_zero, List.set_cons_succ]
            refine wpAnyH_take (i := 59) (oi := ⟨some 137, .unOp .not 4 (.tmp 136), 4, "law.go:112", #[⟨58, .data⟩, ⟨56, .guard⟩], some (56, false)⟩) (v := undef) rfl (by kernel_rfl) (by kernel_rfl) (by kernel_rfl) (fun _ _ _ h => h) (Or.inr ⟨by rfl, rfl⟩) (by assumption) ?_
            try simp only [Act.put, List.setIfInBounds_toArray, List.set_cons_zero, List.set_cons_succ]
            refine wpAnyH_take (i := 60) (oi := ⟨some 138, .move (.tmp 137), 4, "law.go:112", #[⟨59, .data⟩, ⟨58, .chain⟩, ⟨56, .guard⟩], some (56, false)⟩) (v := undef) rfl (by kernel_rfl) (by kernel_rfl) (by kernel_rfl) (fun _ _ _ h => h) (Or.inr ⟨by rfl, rfl⟩) (by assumption) ?_
            try simp only [Act.put, List.setIfInBounds_toArray, List.set_cons_zero, List.set_cons_succ]
            refine wpAnyH_take (i := 61) (oi := ⟨some 139, .move (.tmp 5), 22, "law.go:112", #[⟨60, .guard⟩], some (60, true)⟩) (v := undef) rfl (by kernel_rfl) (by kernel_rfl) (by kernel_rfl) (fun _ _ _ h => h) (Or.inr ⟨by rfl, rfl⟩) (by assumption) ?_
            try simp only [Act.put, List.setIfInBounds_toArray, List.set_cons_zero, List.set_cons_succ]
            refine wpAnyH_ready (rs := [62]) (by kernel_rfl) (by simp) ?_
            refine AllReadyH.cons (o := ⟨some 140, .call ⟨.value (.func 15), #[.tmp 139], #[22]⟩, 4, "law.go:112", #[⟨61, .data⟩, ⟨60, .chain⟩, ⟨60, .guard⟩], some (60, true)⟩) rfl (fun K hK => ?_) AllReadyH.nil
            go_simp
            refine hK.out _ _ (by assumption) (fun hH7 => ?_)
            clear hK K hH6
            try simp only [Act.put, List.setIfInBounds_toArray, List.set_cons_zero, List.set_cons_succ]
            refine wpAnyH_take (i := 63) (oi := ⟨some 141, .unOp .not 4 (.tmp 140), 4, "law.go:112", #[⟨62, .data⟩, ⟨60, .guard⟩], some (60, true)⟩) (v := undef) rfl (by kernel_rfl) (by kernel_rfl) (by kernel_rfl) (fun _ _ _ h => h) (Or.inr ⟨by rfl, rfl⟩) (by assumption) ?_
            try simp only [Act.put, List.setIfInBounds_toArray, List.set_cons_zero, List.set_cons_succ]
            refine wpAnyH_take (i := 64) (oi := ⟨some 142, .pick (.tmp 138) (.tmp 141) (.const (.bool false)), 4, "law.go:112", #[⟨60, .data⟩, ⟨63, .data⟩, ⟨56, .guard⟩], some (56, false)⟩) (v := undef) rfl (by kernel_rfl) (by kernel_rfl) (by kernel_rfl) (fun _ _ _ h => h) (Or.inr ⟨by rfl, rfl⟩) (by assumption) ?_
            try simp only [Act.put, List.setIfInBounds_toArray, List.set_cons_zero, List.set_cons_succ]
            refine wpAnyH_take (i := 65) (oi := ⟨some 143, .pick (.tmp 134) (.const (.bool true)) (.tmp 142), 4, "law.go:112", #[⟨56, .data⟩, ⟨64, .data⟩, ⟨50, .guard⟩], some (50, true)⟩) (v := ?_) rfl (by kernel_rfl) (by kernel_rfl) (by kernel_rfl) (fun _ _ _ h => h) (Or.inl ⟨by rfl, ?_⟩) (by assumption) ?_
            rotate_left
            · (intro w hSw; (try dsimp only at hSw); go_simp; try with_reducible rfl)
            try simp only [Act.put, List.setIfInBounds_toArray, List.set_cons_zero, List.set_cons_succ]
            refine wpAnyH_take (i := 66) (oi := ⟨some 144, .binOp .eql 4 (.tmp 131) (.tmp 143) 4, 4, "law.go:112", #[⟨53, .data⟩, ⟨65, .data⟩, ⟨50, .guard⟩], some (50, true)⟩) (v := ?_) rfl (by kernel_rfl) (by kernel_rfl) (by kernel_rfl) (fun _ _ _ h => h) (Or.inl ⟨by rfl, ?_⟩) (by assumption) ?_
            rotate_left
            · (intro w hSw; (try dsimp only at hSw); go_simp; try with_reducible rfl)
            try simp only [Act.put, List.setIfInBounds_toArray, List.set_cons_zero, List.set_cons_succ]
            refine wpAnyH_take (i := 67) (oi := ⟨some 145, .pick (.tmp 128) (.tmp 144) (.const (.bool false)), 4, "law.go:112", #[⟨50, .data⟩, ⟨66, .data⟩], none⟩) (v := ?_) rfl (by kernel_rfl) (by kernel_rfl) (by kernel_rfl) (fun _ _ _ h => h) (Or.inl ⟨by rfl, ?_⟩) (by assumption) ?_
            rotate_left
            · (intro w hSw; (try dsimp only at hSw); go_simp; try with_reducible rfl)
            try simp only [Act.put, List.setIfInBounds_toArray, List.set_cons_zero, List.set_cons_succ]
            refine wpAnyH_take (i := 68) (oi := ⟨some 146, .move (.tmp 145), 4, "law.go:112", #[⟨67, .data⟩, ⟨62, .chain⟩], none⟩) (v := ?_) rfl (by kernel_rfl) (by kernel_rfl) (by kernel_rfl) (fun _ _ _ h => h) (Or.inl ⟨by rfl, ?_⟩) (by assumption) ?_
            rotate_left
            · (intro w hSw; (try dsimp only at hSw); go_simp; try with_reducible rfl)
            try simp only [Act.put, List.setIfInBounds_toArray, List.set_cons_zero, List.set_cons_succ]
            refine wpAnyH_ready (rs := [69]) (by kernel_rfl) (by simp) ?_
            refine AllReadyH.cons (o := ⟨some 147, .call ⟨.value (.func 17), #[], #[]⟩, 4, "law.go:112", #[⟨68, .chain⟩, ⟨68, .guard⟩], some (68, true)⟩) rfl (fun K hK => ?_) AllReadyH.nil
            go_simp
            go_at_call 17; refine (AW.out _).mono ?_; rintro r s8 ⟨rfl, h8⟩
            try go_wp2_with fail
            refine hK.out _ _ ?_ (fun hH8 => ?_)
            · (try dsimp only); exact KS.out _ (by repeat (first | exact Bel.rf | (with_reducible refine Bel.drwN ?_ _) | (with_reducible refine Bel.drw ?_) | (with_reducible refine Bel.al ?_ _) | (refine Bel.tr ?_ (by assumption))))
            clear hK K hH7
            try simp only [Act.put, List.setIfInBounds_toArray, List.set_cons_zero, List.set_cons_succ]
            refine wpAnyH_take (i := 70) (oi := ⟨some 148, .pick (.tmp 146) (.tmp 147) (.const (.bool false)), 4, "law.go:112", #[⟨68, .data⟩, ⟨69, .data⟩], none⟩) (v := ?_) rfl (by kernel_rfl) (by kernel_rfl) (by kernel_rfl) (fun _ _ _ h => h) (Or.inl ⟨by rfl, ?_⟩) (by assumption) ?_
            rotate_left
            · (intro w hSw; (try dsimp only at hSw); go_simp; try with_reducible rfl)
            try simp only [Act.put, List.setIfInBounds_toArray, List.set_cons_zero, List.set_cons_succ]
            refine wpAnyH_take (i := 71) (oi := ⟨some 2, .assign (.tmp 148), 4, "law.go:112", #[⟨70, .data⟩, ⟨69, .chain⟩, ⟨0, .phase⟩, ⟨1, .phase⟩, ⟨2, .phase⟩, ⟨3, .phase⟩, ⟨4, .phase⟩, ⟨5, .phase⟩, ⟨6, .phase⟩, ⟨7, .phase⟩, ⟨8, .phase⟩, ⟨9, .phase⟩, ⟨10, .phase⟩, ⟨11, .phase⟩, ⟨12, .phase⟩, ⟨13, .phase⟩, ⟨14, .phase⟩, ⟨15, .phase⟩, ⟨16, .phase⟩, ⟨17, .phase⟩, ⟨18, .phase⟩, ⟨19, .phase⟩, ⟨20, .phase⟩, ⟨21, .phase⟩, ⟨22, .phase⟩, ⟨23, .phase⟩, ⟨24, .phase⟩, ⟨25, .phase⟩, ⟨26, .phase⟩, ⟨27, .phase⟩, ⟨28, .phase⟩, ⟨29, .phase⟩, ⟨30, .phase⟩, ⟨31, .phase⟩, ⟨32, .phase⟩, ⟨33, .phase⟩, ⟨34, .phase⟩, ⟨35, .phase⟩, ⟨36, .phase⟩, ⟨37, .phase⟩, ⟨38, .phase⟩, ⟨39, .phase⟩, ⟨40, .phase⟩, ⟨41, .phase⟩, ⟨42, .phase⟩, ⟨43, .phase⟩, ⟨44, .phase⟩, ⟨45, .phase⟩, ⟨46, .phase⟩, ⟨47, .phase⟩, ⟨48, .phase⟩, ⟨49, .phase⟩, ⟨50, .phase⟩, ⟨51, .phase⟩, ⟨52, .phase⟩, ⟨53, .phase⟩, ⟨54, .phase⟩, ⟨55, .phase⟩, ⟨56, .phase⟩, ⟨57, .phase⟩, ⟨58, .phase⟩, ⟨59, .phase⟩, ⟨60, .phase⟩, ⟨61, .phase⟩, ⟨62, .phase⟩, ⟨63, .phase⟩, ⟨64, .phase⟩, ⟨65, .phase⟩, ⟨66, .phase⟩, ⟨67, .phase⟩, ⟨68, .phase⟩, ⟨69, .phase⟩, ⟨70, .phase⟩], none⟩) (v := ?_) rfl (by kernel_rfl) (by kernel_rfl) (by kernel_rfl) (fun _ _ _ h => h) (Or.inl ⟨by rfl, ?_⟩) (by assumption) ?_
            rotate_left
            · (intro w hSw; (try dsimp only at hSw); go_simp; try with_reducible rfl)
            try simp only [Act.put, List.setIfInBounds_toArray, List.set_cons_zero, List.set_cons_succ]
            refine wpAnyH_done (by kernel_rfl) ?_ _
            refine NoPanic.normal ?_
            all_goals
              go_wp2
              go_ret
              exact ⟨rfl, Bel.bl (Bel.tr (HB2.out.tr HBV.out) (by repeat (first | exact HD_p4.out | (with_reducible refine Bel.drwN ?_ _) | (with_reducible refine Bel.drw ?_) | refine Bel.tr ?_ (by assumption))))⟩

      · rw [hl] at LS
        rw [show decide (V ≠ 0) = true by simp [hv]] at S1
        rw [show decide (U ≠ 0) = true by simp [hu]] at S2
        have k1 : (c == 0) = false := by simp; omega
        have k2 : (0 < c) = False := eq_false (by omega)
        have k3 : decide (0 < c) = false := decide_eq_false (by omega)
        clear hl
        rcases hne with hne | ⟨rfl, hne⟩
        · have e3 : (X == 1) = false := by simpa using hne
          have KS : Hid (∀ W', Bel (p4.alloc (.cells #[.int .i64 1, .int .i64 1] 28)) W' → ((fun w' => w'.cell? ⟨p1.heap.size, 0, none⟩ = some (.int .i64 X) ∧ w'.cell? ⟨p1.heap.size, 1, none⟩ = some (.int .i64 Y) ∧ w'.cell? ⟨p2.heap.size, 0, none⟩ = some (.int .i64 X) ∧ w'.cell? ⟨p2.heap.size, 1, none⟩ = some (.int .i64 Y) ∧ w'.cell? ⟨p3.heap.size, 0, none⟩ = some (.int .i64 X) ∧ w'.cell? ⟨p3.heap.size, 1, none⟩ = some (.int .i64 Y) ∧ w'.cell? ⟨p4.heap.size, 0, none⟩ = some (.int .i64 1) ∧ w'.cell? ⟨p4.heap.size, 1, none⟩ = some (.int .i64 1))) W') := fun W' h => ⟨h.kp q0, h.kp q1, h.kp q2, h.kp q3, h.kp q4, h.kp q5, h.kp q6, h.kp q7⟩
          clear q0 q1 q2 q3 q4 q5 q6 q7
          go_wp2_with fail
          simp only [List.append_eq, List.cons_append, List.nil_append]
          as_aux_lemma =>
            refine wp_region_noPanic ?_
            refine wp_region_held_drew (S := (fun w' => w'.cell? ⟨p1.heap.size, 0, none⟩ = some (.int .i64 X) ∧ w'.cell? ⟨p1.heap.size, 1, none⟩ = some (.int .i64 Y) ∧ w'.cell? ⟨p2.heap.size, 0, none⟩ = some (.int .i64 X) ∧ w'.cell? ⟨p2.heap.size, 1, none⟩ = some (.int .i64 Y) ∧ w'.cell? ⟨p3.heap.size, 0, none⟩ = some (.int .i64 X) ∧ w'.cell? ⟨p3.heap.size, 1, none⟩ = some (.int .i64 Y) ∧ w'.cell? ⟨p4.heap.size, 0, none⟩ = some (.int .i64 1) ∧ w'.cell? ⟨p4.heap.size, 1, none⟩ = some (.int .i64 1))) (by kernel_rfl) ?_ (fun hH0 => ?_)
            · (try dsimp only); exact KS.out _ (by repeat (first | exact Bel.rf | (with_reducible refine Bel.drwN ?_ _) | (with_reducible refine Bel.drw ?_) | (with_reducible refine Bel.al ?_ _) | (refine Bel.tr ?_ (by assumption))))
            refine wpAnyH_take (i := 0) (oi := ⟨some 78, .move (.tmp 10), 29, "law.go:112", #[], none⟩) (v := ?_) rfl (by kernel_rfl) (by kernel_rfl) (by kernel_rfl) (fun _ _ _ h => h) (Or.inl ⟨by rfl, ?_⟩) (by assumption) ?_
            rotate_left
            · (intro w hSw; (try dsimp only at hSw); go_simp; try with_reducible rfl)
            try simp only [Act.put, List.setIfInBounds_toArray, List.set_cons_zero, List.set_cons_succ]
            refine wpAnyH_take (i := 1) (oi := ⟨some 79, .binOp .eql 29 (.tmp 78) (.const (.int .i64 0)) 29, 4, "law.go:112", #[⟨0, .data⟩], none⟩) (v := ?_) rfl (by kernel_rfl) (by kernel_rfl) (by kernel_rfl) (fun _ _ _ h => h) (Or.inl ⟨by rfl, ?_⟩) (by assumption) ?_
            rotate_left
            · (intro w hSw; (try dsimp only at hSw); go_simp; try with_reducible rfl)
            try simp only [Act.put, List.setIfInBounds_toArray, List.set_cons_zero, List.set_cons_succ]
            refine wpAnyH_take (i := 2) (oi := ⟨some 80, .move (.tmp 79), 4, "law.go:112", #[⟨1, .data⟩], none⟩) (v := ?_) rfl (by kernel_rfl) (by kernel_rfl) (by kernel_rfl) (fun _ _ _ h => h) (Or.inl ⟨by rfl, ?_⟩) (by assumption) ?_
            rotate_left
            · (intro w hSw; (try dsimp only at hSw); go_simp; try with_reducible rfl)
            try simp only [Act.put, List.setIfInBounds_toArray, List.set_cons_zero, List.set_cons_succ]
            refine wpAnyH_take (i := 3) (oi := ⟨some 81, .move (.tmp 12), 29, "law.go:112", #[⟨2, .guard⟩], some (2, true)⟩) (v := ?_) rfl (by kernel_rfl) (by kernel_rfl) (by kernel_rfl) (fun _ _ _ h => h) (Or.inl ⟨by rfl, ?_⟩) (by assumption) ?_
            rotate_left
            · (intro w hSw; (try dsimp only at hSw); go_simp; try with_reducible rfl)
            try simp only [Act.put, List.setIfInBounds_toArray, List.set_cons_zero, List.set_cons_succ]
            refine wpAnyH_take (i := 4) (oi := ⟨some 82, .binOp .eql 29 (.tmp 81) (.const (.int .i64 0)) 29, 4, "law.go:112", #[⟨3, .data⟩, ⟨2, .guard⟩], some (2, true)⟩) (v := ?_) rfl (by kernel_rfl) (by kernel_rfl) (by kernel_rfl) (fun _ _ _ h => h) (Or.inl ⟨by rfl, ?_⟩) (by assumption) ?_
            rotate_left
            · (intro w hSw; (try dsimp only at hSw); go_simp; try with_reducible rfl)
            try simp only [Act.put, List.setIfInBounds_toArray, List.set_cons_zero, List.set_cons_succ]
            refine wpAnyH_take (i := 5) (oi := ⟨some 83, .pick (.tmp 80) (.tmp 82) (.const (.bool false)), 4, "law.go:112", #[⟨2, .data⟩, ⟨4, .data⟩], none⟩) (v := ?_) rfl (by kernel_rfl) (by kernel_rfl) (by kernel_rfl) (fun _ _ _ h => h) (Or.inl ⟨by rfl, ?_⟩) (by assumption) ?_
            rotate_left
            · (intro w hSw; (try dsimp only at hSw); go_simp; try with_reducible rfl)
            try simp only [Act.put, List.setIfInBounds_toArray, List.set_cons_zero, List.set_cons_succ]
            refine wpAnyH_take (i := 6) (oi := ⟨some 84, .move (.tmp 83), 4, "law.go:112", #[⟨5, .data⟩, ⟨2, .chain⟩], none⟩) (v := ?_) rfl (by kernel_rfl) (by kernel_rfl) (by kernel_rfl) (fun _ _ _ h => h) (Or.inl ⟨by rfl, ?_⟩) (by assumption) ?_
            rotate_left
            · (intro w hSw; (try dsimp only at hSw); go_simp; try with_reducible rfl)
            try simp only [Act.put, List.setIfInBounds_toArray, List.set_cons_zero, List.set_cons_succ]
            refine wpAnyH_take (i := 7) (oi := ⟨some 85, .move (.tmp 14), 29, "law.go:112", #[⟨6, .guard⟩], some (6, true)⟩) (v := ?_) rfl (by kernel_rfl) (by kernel_rfl) (by kernel_rfl) (fun _ _ _ h => h) (Or.inl ⟨by rfl, ?_⟩) (by assumption) ?_
            rotate_left
            · (intro w hSw; (try dsimp only at hSw); go_simp; try with_reducible rfl)
            try simp only [Act.put, List.setIfInBounds_toArray, List.set_cons_zero, List.set_cons_succ]
            refine wpAnyH_take (i := 8) (oi := ⟨some 86, .binOp .eql 29 (.tmp 85) (.const (.int .i64 0)) 29, 4, "law.go:112", #[⟨7, .data⟩, ⟨6, .guard⟩], some (6, true)⟩) (v := ?_) rfl (by kernel_rfl) (by kernel_rfl) (by kernel_rfl) (fun _ _ _ h => h) (Or.inl ⟨by rfl, ?_⟩) (by assumption) ?_
            rotate_left
            · (intro w hSw; (try dsimp only at hSw); go_simp; try with_reducible rfl)
            try simp only [Act.put, List.setIfInBounds_toArray, List.set_cons_zero, List.set_cons_succ]
            refine wpAnyH_take (i := 9) (oi := ⟨some 87, .pick (.tmp 84) (.tmp 86) (.const (.bool false)), 4, "law.go:112", #[⟨6, .data⟩, ⟨8, .data⟩], none⟩) (v := ?_) rfl (by kernel_rfl) (by kernel_rfl) (by kernel_rfl) (fun _ _ _ h => h) (Or.inl ⟨by rfl, ?_⟩) (by assumption) ?_
            rotate_left
            · (intro w hSw; (try dsimp only at hSw); go_simp; try with_reducible rfl)
            try simp only [Act.put, List.setIfInBounds_toArray, List.set_cons_zero, List.set_cons_succ]
            refine wpAnyH_take (i := 10) (oi := ⟨some 88, .move (.tmp 87), 4, "law.go:112", #[⟨9, .data⟩, ⟨6, .chain⟩], none⟩) (v := ?_) rfl (by kernel_rfl) (by kernel_rfl) (by kernel_rfl) (fun _ _ _ h => h) (Or.inl ⟨by rfl, ?_⟩) (by assumption) ?_
            rotate_left
            · (intro w hSw; (try dsimp only at hSw); go_simp; try with_reducible rfl)
            try simp only [Act.put, List.setIfInBounds_toArray, List.set_cons_zero, List.set_cons_succ]
            refine wpAnyH_take (i := 11) (oi := ⟨some 89, .move (.tmp 16), 29, "law.go:112", #[⟨10, .guard⟩], some (10, true)⟩) (v := ?_) rfl (by kernel_rfl) (by kernel_rfl) (by kernel_rfl) (fun _ _ _ h => h) (Or.inl ⟨by rfl, ?_⟩) (by assumption) ?_
            rotate_left
            · (intro w hSw; (try dsimp only at hSw); go_simp; try with_reducible rfl)
            try simp only [Act.put, List.setIfInBounds_toArray, List.set_cons_zero, List.set_cons_succ]
            refine wpAnyH_take (i := 12) (oi := ⟨some 90, .binOp .eql 29 (.tmp 89) (.const (.int .i64 0)) 29, 4, "law.go:112", #[⟨11, .data⟩, ⟨10, .guard⟩], some (10, true)⟩) (v := ?_) rfl (by kernel_rfl) (by kernel_rfl) (by kernel_rfl) (fun _ _ _ h => h) (Or.inl ⟨by rfl, ?_⟩) (by assumption) ?_
            rotate_left
            · (intro w hSw; (try dsimp only at hSw); go_simp; try with_reducible rfl)
            try simp only [Act.put, List.setIfInBounds_toArray, List.set_cons_zero, List.set_cons_succ]
            refine wpAnyH_take (i := 13) (oi := ⟨some 91, .pick (.tmp 88) (.tmp 90) (.const (.bool false)), 4, "law.go:112", #[⟨10, .data⟩, ⟨12, .data⟩], none⟩) (v := ?_) rfl (by kernel_rfl) (by kernel_rfl) (by kernel_rfl) (fun _ _ _ h => h) (Or.inl ⟨by rfl, ?_⟩) (by assumption) ?_
            rotate_left
            · (intro w hSw; (try dsimp only at hSw); go_simp; try with_reducible rfl)
            try simp only [Act.put, List.setIfInBounds_toArray, List.set_cons_zero, List.set_cons_succ]
            refine wpAnyH_take (i := 14) (oi := ⟨some 92, .move (.tmp 91), 4, "law.go:112", #[⟨13, .data⟩, ⟨10, .chain⟩], none⟩) (v := ?_) rfl (by kernel_rfl) (by kernel_rfl) (by kernel_rfl) (fun _ _ _ h => h) (Or.inl ⟨by rfl, ?_⟩) (by assumption) ?_
            rotate_left
            · (intro w hSw; (try dsimp only at hSw); go_simp; try with_reducible rfl)
            try simp only [Act.put, List.setIfInBounds_toArray, List.set_cons_zero, List.set_cons_succ]
            refine wpAnyH_take (i := 15) (oi := ⟨some 93, .load 28 (.tmp 9), 28, "law.go:112", #[⟨14, .guard⟩], some (14, true)⟩) (v := ?_) rfl (by kernel_rfl) (by kernel_rfl) (by kernel_rfl) (fun _ _ _ h => h) (Or.inl ⟨by rfl, ?_⟩) (by assumption) ?_
            rotate_left
            · (intro w hSw; (try dsimp only at hSw); go_simp; try with_reducible rfl)
            try simp only [Act.put, List.setIfInBounds_toArray, List.set_cons_zero, List.set_cons_succ]
            refine wpAnyH_take (i := 16) (oi := ⟨some 94, .load 28 (.tmp 11), 28, "law.go:112", #[⟨14, .guard⟩], some (14, true)⟩) (v := ?_) rfl (by kernel_rfl) (by kernel_rfl) (by kernel_rfl) (fun _ _ _ h => h) (Or.inl ⟨by rfl, ?_⟩) (by assumption) ?_
            rotate_left
            · (intro w hSw; (try dsimp only at hSw); go_simp; try with_reducible rfl)
            try simp only [Act.put, List.setIfInBounds_toArray, List.set_cons_zero, List.set_cons_succ]
            refine wpAnyH_take (i := 17) (oi := ⟨some 95, .binOp .eql 28 (.tmp 93) (.tmp 94) 28, 4, "law.go:112", #[⟨15, .data⟩, ⟨16, .data⟩, ⟨14, .guard⟩], some (14, true)⟩) (v := ?_) rfl (by kernel_rfl) (by kernel_rfl) (by kernel_rfl) (fun _ _ _ h => h) (Or.inl ⟨by rfl, ?_⟩) (by assumption) ?_
            rotate_left
            · (intro w hSw; (try dsimp only at hSw); go_simp; try with_reducible rfl)
            try simp only [Act.put, List.setIfInBounds_toArray, List.set_cons_zero, List.set_cons_succ]
            refine wpAnyH_take (i := 18) (oi := ⟨some 96, .pick (.tmp 92) (.tmp 95) (.const (.bool false)), 4, "law.go:112", #[⟨14, .data⟩, ⟨17, .data⟩], none⟩) (v := ?_) rfl (by kernel_rfl) (by kernel_rfl) (by kernel_rfl) (fun _ _ _ h => h) (Or.inl ⟨by rfl, ?_⟩) (by assumption) ?_
            rotate_left
            · (intro w hSw; (try dsimp only at hSw); go_simp; try with_reducible rfl)
            try simp only [Act.put, List.setIfInBounds_toArray, List.set_cons_zero, List.set_cons_succ]
            refine wpAnyH_take (i := 19) (oi := ⟨some 97, .move (.tmp 96), 4, "law.go:112", #[⟨18, .data⟩, ⟨14, .chain⟩], none⟩) (v := ?_) rfl (by kernel_rfl) (by kernel_rfl) (by kernel_rfl) (fun _ _ _ h => h) (Or.inl ⟨by rfl, ?_⟩) (by assumption) ?_
            rotate_left
            · (intro w hSw; (try dsimp only at hSw); go_simp; try with_reducible rfl)
            try simp only [Act.put, List.setIfInBounds_toArray, List.set_cons_zero, List.set_cons_succ]
            refine wpAnyH_take (i := 20) (oi := ⟨some 98, .load 28 (.tmp 9), 28, "law.go:112", #[⟨19, .guard⟩], some (19, true)⟩) (v := ?_) rfl (by kernel_rfl) (by kernel_rfl) (by kernel_rfl) (fun _ _ _ h => h) (Or.inl ⟨by rfl, ?_⟩) (by assumption) ?_
            rotate_left
            · (intro w hSw; (try dsimp only at hSw); go_simp; try with_reducible rfl)
            try simp only [Act.put, List.setIfInBounds_toArray, List.set_cons_zero, List.set_cons_succ]
            refine wpAnyH_take (i := 21) (oi := ⟨some 99, .load 28 (.tmp 13), 28, "law.go:112", #[⟨19, .guard⟩], some (19, true)⟩) (v := ?_) rfl (by kernel_rfl) (by kernel_rfl) (by kernel_rfl) (fun _ _ _ h => h) (Or.inl ⟨by rfl, ?_⟩) (by assumption) ?_
            rotate_left
            · (intro w hSw; (try dsimp only at hSw); go_simp; try with_reducible rfl)
            try simp only [Act.put, List.setIfInBounds_toArray, List.set_cons_zero, List.set_cons_succ]
            refine wpAnyH_take (i := 22) (oi := ⟨some 100, .binOp .eql 28 (.tmp 98) (.tmp 99) 28, 4, "law.go:112", #[⟨20, .data⟩, ⟨21, .data⟩, ⟨19, .guard⟩], some (19, true)⟩) (v := ?_) rfl (by kernel_rfl) (by kernel_rfl) (by kernel_rfl) (fun _ _ _ h => h) (Or.inl ⟨by rfl, ?_⟩) (by assumption) ?_
            rotate_left
            · (intro w hSw; (try dsimp only at hSw); go_simp; try with_reducible rfl)
            try simp only [Act.put, List.setIfInBounds_toArray, List.set_cons_zero, List.set_cons_succ]
            refine wpAnyH_take (i := 23) (oi := ⟨some 101, .pick (.tmp 97) (.tmp 100) (.const (.bool false)), 4, "law.go:112", #[⟨19, .data⟩, ⟨22, .data⟩], none⟩) (v := ?_) rfl (by kernel_rfl) (by kernel_rfl) (by kernel_rfl) (fun _ _ _ h => h) (Or.inl ⟨by rfl, ?_⟩) (by assumption) ?_
            rotate_left
            · (intro w hSw; (try dsimp only at hSw); go_simp; try with_reducible rfl)
            try simp only [Act.put, List.setIfInBounds_toArray, List.set_cons_zero, List.set_cons_succ]
            refine wpAnyH_take (i := 24) (oi := ⟨some 102, .move (.tmp 101), 4, "law.go:112", #[⟨23, .data⟩, ⟨19, .chain⟩], none⟩) (v := ?_) rfl (by kernel_rfl) (by kernel_rfl) (by kernel_rfl) (fun _ _ _ h => h) (Or.inl ⟨by rfl, ?_⟩) (by assumption) ?_
            rotate_left
            · (intro w hSw; (try dsimp only at hSw); go_simp; try with_reducible rfl)
            try simp only [Act.put, List.setIfInBounds_toArray, List.set_cons_zero, List.set_cons_succ]
            refine wpAnyH_take (i := 25) (oi := ⟨some 103, .load 28 (.tmp 9), 28, "law.go:112", #[⟨24, .guard⟩], some (24, true)⟩) (v := ?_) rfl (by kernel_rfl) (by kernel_rfl) (by kernel_rfl) (fun _ _ _ h => h) (Or.inl ⟨by rfl, ?_⟩) (by assumption) ?_
            rotate_left
            · (intro w hSw; (try dsimp only at hSw); go_simp; try with_reducible rfl)
            try simp only [Act.put, List.setIfInBounds_toArray, List.set_cons_zero, List.set_cons_succ]
            refine wpAnyH_ready (rs := [26]) (by kernel_rfl) (by simp) ?_
            refine AllReadyH.cons (o := ⟨some 104, .call ⟨.value (.func 13), #[.tmp 103], #[28]⟩, 4, "law.go:112", #[⟨25, .data⟩, ⟨24, .chain⟩, ⟨24, .guard⟩], some (24, true)⟩) rfl (fun K hK => ?_) AllReadyH.nil
            go_simp
            go_at_call 13; refine (VA.out _).mono ?_; rintro r s1 ⟨rfl, h1⟩
            try go_wp2_with fail
            refine hK.out _ _ ?_ (fun hH1 => ?_)
            · (try dsimp only); exact KS.out _ (by repeat (first | exact Bel.rf | (with_reducible refine Bel.drwN ?_ _) | (with_reducible refine Bel.drw ?_) | (with_reducible refine Bel.al ?_ _) | (refine Bel.tr ?_ (by assumption))))
            clear hK K hH0
            try simp only [Act.put, List.setIfInBounds_toArray, List.set_cons_zero, List.set_cons_succ]
            refine wpAnyH_take (i := 27) (oi := ⟨some 105, .pick (.tmp 102) (.tmp 104) (.const (.bool false)), 4, "law.go:112", #[⟨24, .data⟩, ⟨26, .data⟩], none⟩) (v := ?_) rfl (by kernel_rfl) (by kernel_rfl) (by kernel_rfl) (fun _ _ _ h => h) (Or.inl ⟨by rfl, ?_⟩) (by assumption) ?_
            rotate_left
            · (intro w hSw; (try dsimp only at hSw); go_simp; try with_reducible rfl)
            try simp only [Act.put, List.setIfInBounds_toArray, List.set_cons_zero, List.set_cons_succ]
            refine wpAnyH_take (i := 28) (oi := ⟨some 106, .move (.tmp 105), 4, "law.go:112", #[⟨27, .data⟩, ⟨26, .chain⟩], none⟩) (v := ?_) rfl (by kernel_rfl) (by kernel_rfl) (by kernel_rfl) (fun _ _ _ h => h) (Or.inl ⟨by rfl, ?_⟩) (by assumption) ?_
            rotate_left
            · (intro w hSw; (try dsimp only at hSw); go_simp; try with_reducible rfl)
            try simp only [Act.put, List.setIfInBounds_toArray, List.set_cons_zero, List.set_cons_succ]
            refine wpAnyH_take (i := 29) (oi := ⟨some 107, .load 28 (.tmp 9), 28, "law.go:112", #[⟨28, .guard⟩], some (28, true)⟩) (v := ?_) rfl (by kernel_rfl) (by kernel_rfl) (by kernel_rfl) (fun _ _ _ h => h) (Or.inl ⟨by rfl, ?_⟩) (by assumption) ?_
            rotate_left
            · (intro w hSw; (try dsimp only at hSw); go_simp; try with_reducible rfl)
            try simp only [Act.put, List.setIfInBounds_toArray, List.set_cons_zero, List.set_cons_succ]
            refine wpAnyH_take (i := 30) (oi := ⟨some 108, .build 28 #[(0, .const (.int .i64 2)), (1, .const (.int .i64 1))], 28, "law.go:112", #[⟨28, .guard⟩], some (28, true)⟩) (v := ?_) rfl (by kernel_rfl) (by kernel_rfl) (by kernel_rfl) (fun _ _ _ h => h) (Or.inl ⟨by rfl, ?_⟩) (by assumption) ?_
            rotate_left
            · (intro w hSw; (try dsimp only at hSw); go_simp; try with_reducible rfl)
            try simp only [Act.put, List.setIfInBounds_toArray, List.set_cons_zero, List.set_cons_succ]
            refine wpAnyH_ready (rs := [31]) (by kernel_rfl) (by simp) ?_
            refine AllReadyH.cons (o := ⟨some 109, .call ⟨.value (.func 14), #[.tmp 107, .tmp 108], #[28, 28]⟩, 3, "law.go:112", #[⟨29, .data⟩, ⟨30, .data⟩, ⟨28, .chain⟩, ⟨28, .guard⟩], some (28, true)⟩) rfl (fun K hK => ?_) AllReadyH.nil
            go_simp
            go_at_call 14; refine (CM.out _).mono ?_; rintro r s2 ⟨rfl, h2⟩
            try go_wp2_with fail
            refine hK.out _ _ ?_ (fun hH2 => ?_)
            · (try dsimp only); exact KS.out _ (by repeat (first | exact Bel.rf | (with_reducible refine Bel.drwN ?_ _) | (with_reducible refine Bel.drw ?_) | (with_reducible refine Bel.al ?_ _) | (refine Bel.tr ?_ (by assumption))))
            clear hK K hH1
            try simp only [Act.put, List.setIfInBounds_toArray, List.set_cons_zero, List.set_cons_succ]
            refine wpAnyH_take (i := 32) (oi := ⟨some 110, .binOp .leq 3 (.tmp 109) (.const (.int .i64 0)) 3, 4, "law.go:112", #[⟨31, .data⟩, ⟨28, .guard⟩], some (28, true)⟩) (v := ?_) rfl (by kernel_rfl) (by kernel_rfl) (by kernel_rfl) (fun _ _ _ h => h) (Or.inl ⟨by rfl, ?_⟩) (by assumption) ?_
            rotate_left
            · (intro w hSw; (try dsimp only at hSw); go_simp; try with_reducible rfl)
            try simp only [Act.put, List.setIfInBounds_toArray, List.set_cons_zero, List.set_cons_succ]
            refine wpAnyH_take (i := 33) (oi := ⟨some 111, .pick (.tmp 106) (.tmp 110) (.const (.bool false)), 4, "law.go:112", #[⟨28, .data⟩, ⟨32, .data⟩], none⟩) (v := ?_) rfl (by kernel_rfl) (by kernel_rfl) (by kernel_rfl) (fun _ _ _ h => h) (Or.inl ⟨by rfl, ?_⟩) (by assumption) ?_
            rotate_left
            · (intro w hSw; (try dsimp only at hSw); go_simp; try with_reducible rfl)
            try simp only [Act.put, List.setIfInBounds_toArray, List.set_cons_zero, List.set_cons_succ]
            refine wpAnyH_take (i := 34) (oi := ⟨some 112, .move (.tmp 111), 4, "law.go:112", #[⟨33, .data⟩, ⟨31, .chain⟩], none⟩) (v := ?_) rfl (by kernel_rfl) (by kernel_rfl) (by kernel_rfl) (fun _ _ _ h => h) (Or.inl ⟨by rfl, ?_⟩) (by assumption) ?_
            rotate_left
            · (intro w hSw; (try dsimp only at hSw); go_simp; try with_reducible rfl)
            try simp only [Act.put, List.setIfInBounds_toArray, List.set_cons_zero, List.set_cons_succ]
            refine wpAnyH_take (i := 35) (oi := ⟨some 113, .load 28 (.tmp 9), 28, "law.go:112", #[⟨34, .guard⟩], some (34, true)⟩) (v := ?_) rfl (by kernel_rfl) (by kernel_rfl) (by kernel_rfl) (fun _ _ _ h => h) (Or.inl ⟨by rfl, ?_⟩) (by assumption) ?_
            rotate_left
            · (intro w hSw; (try dsimp only at hSw); go_simp; try with_reducible rfl)
            try simp only [Act.put, List.setIfInBounds_toArray, List.set_cons_zero, List.set_cons_succ]
            refine wpAnyH_take (i := 36) (oi := ⟨some 114, .load 28 (.tmp 17), 28, "law.go:112", #[⟨34, .guard⟩], some (34, true)⟩) (v := ?_) rfl (by kernel_rfl) (by kernel_rfl) (by kernel_rfl) (fun _ _ _ h => h) (Or.inl ⟨by rfl, ?_⟩) (by assumption) ?_
            rotate_left
            · (intro w hSw; (try dsimp only at hSw); go_simp; try with_reducible rfl)
            try simp only [Act.put, List.setIfInBounds_toArray, List.set_cons_zero, List.set_cons_succ]
            refine wpAnyH_take (i := 37) (oi := ⟨some 115, .binOp .eql 28 (.tmp 113) (.tmp 114) 28, 4, "law.go:112", #[⟨35, .data⟩, ⟨36, .data⟩, ⟨34, .guard⟩], some (34, true)⟩) (v := ?_) rfl (by kernel_rfl) (by kernel_rfl) (by kernel_rfl) (fun _ _ _ h => h) (Or.inl ⟨by rfl, ?_⟩) (by assumption) ?_
            rotate_left
            · (intro w hSw; (try dsimp only at hSw); go_simp; try with_reducible rfl)
            try simp only [Act.put, List.setIfInBounds_toArray, List.set_cons_zero, List.set_cons_succ]
            refine wpAnyH_take (i := 38) (oi := ⟨some 116, .move (.tmp 15), 3, "law.go:112", #[⟨34, .guard⟩], some (34, true)⟩) (v := ?_) rfl (by kernel_rfl) (by kernel_rfl) (by kernel_rfl) (fun _ _ _ h => h) (Or.inl ⟨by rfl, ?_⟩) (by assumption) ?_
            rotate_left
            · (intro w hSw; (try dsimp only at hSw); go_simp; try with_reducible rfl)
            try simp only [Act.put, List.setIfInBounds_toArray, List.set_cons_zero, List.set_cons_succ]
            refine wpAnyH_take (i := 39) (oi := ⟨some 117, .binOp .eql 3 (.tmp 116) (.const (.int .i64 0)) 3, 4, "law.go:112", #[⟨38, .data⟩, ⟨34, .guard⟩], some (34, true)⟩) (v := ?_) rfl (by kernel_rfl) (by kernel_rfl) (by kernel_rfl) (fun _ _ _ h => h) (Or.inl ⟨by rfl, ?_⟩) (by assumption) ?_
            rotate_left
            · (intro w hSw; (try dsimp only at hSw); go_simp; try with_reducible rfl)
            try simp only [Act.put, List.setIfInBounds_toArray, List.set_cons_zero, List.set_cons_succ]
            refine wpAnyH_take (i := 40) (oi := ⟨some 118, .move (.tmp 117), 4, "law.go:112", #[⟨39, .data⟩, ⟨34, .chain⟩, ⟨34, .guard⟩], some (34, true)⟩) (v := ?_) rfl (by kernel_rfl) (by kernel_rfl) (by kernel_rfl) (fun _ _ _ h => h) (Or.inl ⟨by rfl, ?_⟩) (by assumption) ?_
            rotate_left
            · (intro w hSw; (try dsimp only at hSw); go_simp; try with_reducible rfl)
            try simp only [Act.put, List.setIfInBounds_toArray, List.set_cons_zero, List.set_cons_succ]
            refine wpAnyH_take (i := 41) (oi := ⟨some 119, .move (.tmp 4), 22, "law.go:112", #[⟨40, .guard⟩], some (40, true)⟩) (v := undef) rfl (by kernel_rfl) (by kernel_rfl) (by kernel_rfl) (fun _ _ _ h => h) (Or.inr ⟨by rfl, rfl⟩) (by assumption) ?_
            try simp only [Act.put, List.setIfInBounds_toArray, List.set_cons_zero, List.set_cons_succ]
            refine wpAnyH_ready (rs := [42]) (by kernel_rfl) (by simp) ?_
            refine AllReadyH.cons (o := ⟨some 120, .call ⟨.value (.func 15), #[.tmp 119], #[22]⟩, 4, "law.go:112", #[⟨41, .data⟩, ⟨40, .chain⟩, ⟨40, .guard⟩], some (40, true)⟩) rfl (fun K hK => ?_) AllReadyH.nil
            go_simp
            refine hK.out _ _ (by assumption) (fun hH3 => ?_)
            clear hK K hH2
            try simp only [Act.put, List.setIfInBounds_toArray, List.set_cons_zero, List.set_cons_succ]
            refine wpAnyH_take (i := 43) (oi := ⟨some 121, .move (.tmp 120), 4, "law.go:112", #[⟨42, .data⟩, ⟨42, .chain⟩, ⟨40, .guard⟩], some (40, true)⟩) (v := undef) rfl (by kernel_rfl) (by kernel_rfl) (by kernel_rfl) (fun _ _ _ h => h) (Or.inr ⟨by rfl, rfl⟩) (by assumption) ?_
            try simp only [Act.put, List.setIfInBounds_toArray, List.set_cons_zero, List.set_cons_succ]
            refine wpAnyH_take (i := 44) (oi := ⟨some 122, .move (.tmp 5), 22, "law.go:112", #[⟨43, .guard⟩], some (43, false)⟩) (v := undef) rfl (by kernel_rfl) (by kernel_rfl) (by kernel_rfl) (fun _ _ _ h => h) (Or.inr ⟨by rfl, rfl⟩) (by assumption) ?_
            try simp only [Act.put, List.setIfInBounds_toArray, List.set_cons_zero, List.set_cons_succ]
            refine wpAnyH_ready (rs := [45]) (by kernel_rfl) (by simp) ?_
            refine AllReadyH.cons (o := ⟨some 123, .call ⟨.value (.func 15), #[.tmp 122], #[22]⟩, 4, "law.go:112", #[⟨44, .data⟩, ⟨43, .chain⟩, ⟨43, .guard⟩], some (43, false)⟩) rfl (fun K hK => ?_) AllReadyH.nil
            go_simp
            refine hK.out _ _ (by assumption) (fun hH4 => ?_)
            clear hK K hH3
            try simp only [Act.put, List.setIfInBounds_toArray, List.set_cons_zero, List.set_cons_succ]
            refine wpAnyH_take (i := 46) (oi := ⟨some 124, .pick (.tmp 121) (.const (.bool true)) (.tmp 123), 4, "law.go:112", #[⟨43, .data⟩, ⟨45, .data⟩, ⟨40, .guard⟩], some (40, true)⟩) (v := undef) rfl (by kernel_rfl) (by kernel_rfl) (by kernel_rfl) (fun _ _ _ h => h) (Or.inr ⟨by rfl, rfl⟩) (by assumption) ?_
            try simp only [Act.put, List.setIfInBounds_toArray, List.set_cons_zero, List.set_cons_succ]
            refine wpAnyH_take (i := 47) (oi := ⟨some 125, .pick (.tmp 118) (.tmp 124) (.const (.bool false)), 4, "law.go:112", #[⟨40, .data⟩, ⟨46, .data⟩, ⟨34, .guard⟩], some (34, true)⟩) (v := ?_) rfl (by kernel_rfl) (by kernel_rfl) (by kernel_rfl) (fun _ _ _ h => h) (Or.inl ⟨by rfl, ?_⟩) (by assumption) ?_
            rotate_left
            · (intro w hSw; (try dsimp only at hSw); go_simp; try with_reducible rfl)
            try simp only [Act.put, List.setIfInBounds_toArray, List.set_cons_zero, List.set_cons_succ]
            refine wpAnyH_take (i := 48) (oi := ⟨some 126, .binOp .eql 4 (.tmp 115) (.tmp 125) 4, 4, "law.go:112", #[⟨37, .data⟩, ⟨47, .data⟩, ⟨34, .guard⟩], some (34, true)⟩) (v := ?_) rfl (by kernel_rfl) (by kernel_rfl) (by kernel_rfl) (fun _ _ _ h => h) (Or.inl ⟨by rfl, ?_⟩) (by assumption) ?_
            rotate_left
            · (intro w hSw; (try dsimp only at hSw); go_simp; try with_reducible rfl)
            try simp only [Act.put, List.setIfInBounds_toArray, List.set_cons_zero, List.set_cons_succ]
            refine wpAnyH_take (i := 49) (oi := ⟨some 127, .pick (.tmp 112) (.tmp 126) (.const (.bool false)), 4, "law.go:112", #[⟨34, .data⟩, ⟨48, .data⟩], none⟩) (v := ?_) rfl (by kernel_rfl) (by kernel_rfl) (by kernel_rfl) (fun _ _ _ h => h) (Or.inl ⟨by rfl, ?_⟩) (by assumption) ?_
            rotate_left
            · (intro w hSw; (try dsimp only at hSw); go_simp; try with_reducible rfl)
            try simp only [Act.put, List.setIfInBounds_toArray, List.set_cons_zero, List.set_cons_succ]
            refine wpAnyH_take (i := 50) (oi := ⟨some 128, .move (.tmp 127), 4, "law.go:112", #[⟨49, .data⟩, ⟨45, .chain⟩], none⟩) (v := ?_) rfl (by kernel_rfl) (by kernel_rfl) (by kernel_rfl) (fun _ _ _ h => h) (Or.inl ⟨by rfl, ?_⟩) (by assumption) ?_
            rotate_left
            · (intro w hSw; (try dsimp only at hSw); go_simp; try with_reducible rfl)
            try simp only [Act.put, List.setIfInBounds_toArray, List.set_cons_zero, List.set_cons_succ]
            refine wpAnyH_take (i := 51) (oi := ⟨some 129, .load 28 (.tmp 9), 28, "law.go:112", #[⟨50, .guard⟩], some (50, true)⟩) (v := ?_) rfl (by kernel_rfl) (by kernel_rfl) (by kernel_rfl) (fun _ _ _ h => h) (Or.inl ⟨by rfl, ?_⟩) (by assumption) ?_
            rotate_left
            · (intro w hSw; (try dsimp only at hSw); go_simp; try with_reducible rfl)
            try simp only [Act.put, List.setIfInBounds_toArray, List.set_cons_zero, List.set_cons_succ]
            refine wpAnyH_take (i := 52) (oi := ⟨some 130, .load 28 (.tmp 17), 28, "law.go:112", #[⟨50, .guard⟩], some (50, true)⟩) (v := ?_) rfl (by kernel_rfl) (by kernel_rfl) (by kernel_rfl) (fun _ _ _ h => h) (Or.inl ⟨by rfl, ?_⟩) (by assumption) ?_
            rotate_left
            · (intro w hSw; (try dsimp only at hSw); go_simp; try with_reducible rfl)
            try simp only [Act.put, List.setIfInBounds_toArray, List.set_cons_zero, List.set_cons_succ]
            refine wpAnyH_take (i := 54) (oi := ⟨some 132, .move (.tmp 15), 3, "law.go:112", #[⟨50, .guard⟩], some (50, true)⟩) (v := ?_) rfl (by kernel_rfl) (by kernel_rfl) (by kernel_rfl) (fun _ _ _ h => h) (Or.inl ⟨by rfl, ?_⟩) (by assumption) ?_
            rotate_left
            · (intro w hSw; (try dsimp only at hSw); go_simp; try with_reducible rfl)
            try simp only [Act.put, List.setIfInBounds_toArray, List.set_cons_zero, List.set_cons_succ]
            refine wpAnyH_take (i := 55) (oi := ⟨some 133, .binOp .gtr 3 (.tmp 132) (.const (.int .i64 0)) 3, 4, "law.go:112", #[⟨54, .data⟩, ⟨50, .guard⟩], some (50, true)⟩) (v := ?_) rfl (by kernel_rfl) (by kernel_rfl) (by kernel_rfl) (fun _ _ _ h => h) (Or.inl ⟨by rfl, ?_⟩) (by assumption) ?_
            rotate_left
            · (intro w hSw; (try dsimp only at hSw); go_simp; try with_reducible rfl)
            try simp only [Act.put, List.setIfInBounds_toArray, List.set_cons_zero, List.set_cons_succ]
            refine wpAnyH_ready (rs := [53]) (by kernel_rfl) (by simp) ?_
            refine AllReadyH.cons (o := ⟨some 131, .call ⟨.value (.func 16), #[.tmp 129, .tmp 130], #[28, 28]⟩, 4, "law.go:112", #[⟨51, .data⟩, ⟨52, .data⟩, ⟨50, .chain⟩, ⟨50, .guard⟩], some (50, true)⟩) rfl (fun K hK => ?_) AllReadyH.nil
            go_simp
            go_at_call 16; refine (LS.out _).mono ?_; rintro r s5 ⟨rfl, h5⟩
            try go_wp2_with fail
            refine hK.out _ _ ?_ (fun hH5 => ?_)
            · (try dsimp only); exact KS.out _ (by repeat (first | exact Bel.rf | (with_reducible refine Bel.drwN ?_ _) | (with_reducible refine Bel.drw ?_) | (with_reducible refine Bel.al ?_ _) | (refine Bel.tr ?_ (by assumption))))
            clear hK K hH4
            try simp only [Act.put, List.setIfInBounds_toArray, List.set_cons_zero, List.set_cons_succ]
            refine wpAnyH_take (i := 56) (oi := ⟨some 134, .move (.tmp 133), 4, "law.go:112", #[⟨55, .data⟩, ⟨53, .chain⟩, ⟨50, .guard⟩], some (50, true)⟩) (v := ?_) rfl (by kernel_rfl) (by kernel_rfl) (by kernel_rfl) (fun _ _ _ h => h) (Or.inl ⟨by rfl, ?_⟩) (by assumption) ?_
            rotate_left
            · (intro w hSw; (try dsimp only at hSw); go_simp; try with_reducible rfl)
            try simp only [Act.put, List.setIfInBounds_toArray, List.set_cons_zero, List.set_cons_succ]
            refine wpAnyH_take (i := 57) (oi := ⟨some 135, .move (.tmp 4), 22, "law.go:112", #[⟨56, .guard⟩], some (56, false)⟩) (v := ?_) rfl (by kernel_rfl) (by kernel_rfl) (by kernel_rfl) (fun _ _ _ h => h) (Or.inl ⟨by rfl, ?_⟩) (by assumption) ?_
            rotate_left
            · (intro w hSw; (try dsimp only at hSw); go_simp; try with_reducible rfl)
            try simp only [Act.put, List.setIfInBounds_toArray, List.set_cons_zero, List.set_cons_succ]
            refine wpAnyH_ready (rs := [58]) (by kernel_rfl) (by simp) ?_
            refine AllReadyH.cons (o := ⟨some 136, .call ⟨.value (.func 15), #[.tmp 135], #[22]⟩, 4, "law.go:112", #[⟨57, .data⟩, ⟨56, .chain⟩, ⟨56, .guard⟩], some (56, false)⟩) rfl (fun K hK => ?_) AllReadyH.nil
            go_simp
            go_at_call 15; (with_reducible refine (S1.out _ (by repeat (first | exact HD_p4.out | (with_reducible refine Bel.drwN ?_ _) | (with_reducible refine Bel.drw ?_) | refine Bel.tr ?_ (by assumption)))).mono ?_); rintro r s6 ⟨rfl, h6⟩
            try go_wp2_with fail
            refine hK.out _ _ ?_ (fun hH6 => ?_)
            · (try dsimp only); exact KS.out _ (by repeat (first | exact Bel.rf | (with_reducible refine Bel.drwN ?_ _) | (with_reducible refine Bel.drw ?_) | (with_reducible refine Bel.al ?_ _) | (refine Bel.tr ?_ (by assumption))))
            clear hK K hH5
            try simp only [Act.put, List.setIfInBounds_toArray, List.set_cons_zero, List.set_cons_succ]
            refine wpAnyH_take (i := 59) (oi := ⟨some 137, .unOp .not 4 (.tmp 136), 4, "law.go:112", #[⟨58, .data⟩, ⟨56, .guard⟩], some (56, false)⟩) (v := ?_) rfl (by kernel_rfl) (by kernel_rfl) (by kernel_rfl) (fun _ _ _ h => h) (Or.inl ⟨by rfl, ?_⟩) (by assumption) ?_
            rotate_left
            · (intro w hSw; (try dsimp only at hSw); go_simp; try with_reducible rfl)
            try simp only [Act.put, List.setIfInBounds_toArray, List.set_cons_zero, List.set_cons_succ]
            refine wpAnyH_take (i := 60) (oi := ⟨some 138, .move (.tmp 137), 4, "law.go:112", #[⟨59, .data⟩, ⟨58, .chain⟩, ⟨56, .guard⟩], some (56, false)⟩) (v := ?_) rfl (by kernel_rfl) (by kernel_rfl) (by kernel_rfl) (fun _ _ _ h => h) (Or.inl ⟨by rfl, ?_⟩) (by assumption) ?_
            rotate_left
            · (intro w hSw; (try dsimp only at hSw); go_simp; try with_reducible rfl)
            try simp only [Act.put, List.setIfInBounds_toArray, List.set_cons_zero, List.set_cons_succ]
            refine wpAnyH_take (i := 61) (oi := ⟨some 139, .move (.tmp 5), 22, "law.go:112", #[⟨60, .guard⟩], some (60, true)⟩) (v := undef) rfl (by kernel_rfl) (by kernel_rfl) (by kernel_rfl) (fun _ _ _ h => h) (Or.inr ⟨by rfl, rfl⟩) (by assumption) ?_
            try simp only [Act.put, List.setIfInBounds_toArray, List.set_cons_zero, List.set_cons_succ]
            refine wpAnyH_ready (rs := [62]) (by kernel_rfl) (by simp) ?_
            refine AllReadyH.cons (o := ⟨some 140, .call ⟨.value (.func 15), #[.tmp 139], #[22]⟩, 4, "law.go:112", #[⟨61, .data⟩, ⟨60, .chain⟩, ⟨60, .guard⟩], some (60, true)⟩) rfl (fun K hK => ?_) AllReadyH.nil
            go_simp
            refine hK.out _ _ (by assumption) (fun hH7 => ?_)
            clear hK K hH6
            try simp only [Act.put, List.setIfInBounds_toArray, List.set_cons_zero, List.set_cons_succ]
            refine wpAnyH_take (i := 63) (oi := ⟨some 141, .unOp .not 4 (.tmp 140), 4, "law.go:112", #[⟨62, .data⟩, ⟨60, .guard⟩], some (60, true)⟩) (v := undef) rfl (by kernel_rfl) (by kernel_rfl) (by kernel_rfl) (fun _ _ _ h => h) (Or.inr ⟨by rfl, rfl⟩) (by assumption) ?_
            try simp only [Act.put, List.setIfInBounds_toArray, List.set_cons_zero, List.set_cons_succ]
            refine wpAnyH_take (i := 64) (oi := ⟨some 142, .pick (.tmp 138) (.tmp 141) (.const (.bool false)), 4, "law.go:112", #[⟨60, .data⟩, ⟨63, .data⟩, ⟨56, .guard⟩], some (56, false)⟩) (v := ?_) rfl (by kernel_rfl) (by kernel_rfl) (by kernel_rfl) (fun _ _ _ h => h) (Or.inl ⟨by rfl, ?_⟩) (by assumption) ?_
            rotate_left
            · (intro w hSw; (try dsimp only at hSw); go_simp; try with_reducible rfl)
            try simp only [Act.put, List.setIfInBounds_toArray, List.set_cons_zero, List.set_cons_succ]
            refine wpAnyH_take (i := 65) (oi := ⟨some 143, .pick (.tmp 134) (.const (.bool true)) (.tmp 142), 4, "law.go:112", #[⟨56, .data⟩, ⟨64, .data⟩, ⟨50, .guard⟩], some (50, true)⟩) (v := ?_) rfl (by kernel_rfl) (by kernel_rfl) (by kernel_rfl) (fun _ _ _ h => h) (Or.inl ⟨by rfl, ?_⟩) (by assumption) ?_
            rotate_left
            · (intro w hSw; (try dsimp only at hSw); go_simp; try with_reducible rfl)
            try simp only [Act.put, List.setIfInBounds_toArray, List.set_cons_zero, List.set_cons_succ]
            refine wpAnyH_take (i := 66) (oi := ⟨some 144, .binOp .eql 4 (.tmp 131) (.tmp 143) 4, 4, "law.go:112", #[⟨53, .data⟩, ⟨65, .data⟩, ⟨50, .guard⟩], some (50, true)⟩) (v := ?_) rfl (by kernel_rfl) (by kernel_rfl) (by kernel_rfl) (fun _ _ _ h => h) (Or.inl ⟨by rfl, ?_⟩) (by assumption) ?_
            rotate_left
            · (intro w hSw; (try dsimp only at hSw); go_simp; try with_reducible rfl)
            try simp only [Act.put, List.setIfInBounds_toArray, List.set_cons_zero, List.set_cons_succ]
            refine wpAnyH_take (i := 67) (oi := ⟨some 145, .pick (.tmp 128) (.tmp 144) (.const (.bool false)), 4, "law.go:112", #[⟨50, .data⟩, ⟨66, .data⟩], none⟩) (v := ?_) rfl (by kernel_rfl) (by kernel_rfl) (by kernel_rfl) (fun _ _ _ h => h) (Or.inl ⟨by rfl, ?_⟩) (by assumption) ?_
            rotate_left
            · (intro w hSw; (try dsimp only at hSw); go_simp; try with_reducible rfl)
            try simp only [Act.put, List.setIfInBounds_toArray, List.set_cons_zero, List.set_cons_succ]
            refine wpAnyH_take (i := 68) (oi := ⟨some 146, .move (.tmp 145), 4, "law.go:112", #[⟨67, .data⟩, ⟨62, .chain⟩], none⟩) (v := ?_) rfl (by kernel_rfl) (by kernel_rfl) (by kernel_rfl) (fun _ _ _ h => h) (Or.inl ⟨by rfl, ?_⟩) (by assumption) ?_
            rotate_left
            · (intro w hSw; (try dsimp only at hSw); go_simp; try with_reducible rfl)
            try simp only [Act.put, List.setIfInBounds_toArray, List.set_cons_zero, List.set_cons_succ]
            refine wpAnyH_ready (rs := [69]) (by kernel_rfl) (by simp) ?_
            refine AllReadyH.cons (o := ⟨some 147, .call ⟨.value (.func 17), #[], #[]⟩, 4, "law.go:112", #[⟨68, .chain⟩, ⟨68, .guard⟩], some (68, true)⟩) rfl (fun K hK => ?_) AllReadyH.nil
            go_simp
            go_at_call 17; refine (AW.out _).mono ?_; rintro r s8 ⟨rfl, h8⟩
            try go_wp2_with fail
            refine hK.out _ _ ?_ (fun hH8 => ?_)
            · (try dsimp only); exact KS.out _ (by repeat (first | exact Bel.rf | (with_reducible refine Bel.drwN ?_ _) | (with_reducible refine Bel.drw ?_) | (with_reducible refine Bel.al ?_ _) | (refine Bel.tr ?_ (by assumption))))
            clear hK K hH7
            try simp only [Act.put, List.setIfInBounds_toArray, List.set_cons_zero, List.set_cons_succ]
            refine wpAnyH_take (i := 70) (oi := ⟨some 148, .pick (.tmp 146) (.tmp 147) (.const (.bool false)), 4, "law.go:112", #[⟨68, .data⟩, ⟨69, .data⟩], none⟩) (v := ?_) rfl (by kernel_rfl) (by kernel_rfl) (by kernel_rfl) (fun _ _ _ h => h) (Or.inl ⟨by rfl, ?_⟩) (by assumption) ?_
            rotate_left
            · (intro w hSw; (try dsimp only at hSw); go_simp; try with_reducible rfl)
            try simp only [Act.put, List.setIfInBounds_toArray, List.set_cons_zero, List.set_cons_succ]
            refine wpAnyH_take (i := 71) (oi := ⟨some 2, .assign (.tmp 148), 4, "law.go:112", #[⟨70, .data⟩, ⟨69, .chain⟩, ⟨0, .phase⟩, ⟨1, .phase⟩, ⟨2, .phase⟩, ⟨3, .phase⟩, ⟨4, .phase⟩, ⟨5, .phase⟩, ⟨6, .phase⟩, ⟨7, .phase⟩, ⟨8, .phase⟩, ⟨9, .phase⟩, ⟨10, .phase⟩, ⟨11, .phase⟩, ⟨12, .phase⟩, ⟨13, .phase⟩, ⟨14, .phase⟩, ⟨15, .phase⟩, ⟨16, .phase⟩, ⟨17, .phase⟩, ⟨18, .phase⟩, ⟨19, .phase⟩, ⟨20, .phase⟩, ⟨21, .phase⟩, ⟨22, .phase⟩, ⟨23, .phase⟩, ⟨24, .phase⟩, ⟨25, .phase⟩, ⟨26, .phase⟩, ⟨27, .phase⟩, ⟨28, .phase⟩, ⟨29, .phase⟩, ⟨30, .phase⟩, ⟨31, .phase⟩, ⟨32, .phase⟩, ⟨33, .phase⟩, ⟨34, .phase⟩, ⟨35, .phase⟩, ⟨36, .phase⟩, ⟨37, .phase⟩, ⟨38, .phase⟩, ⟨39, .phase⟩, ⟨40, .phase⟩, ⟨41, .phase⟩, ⟨42, .phase⟩, ⟨43, .phase⟩, ⟨44, .phase⟩, ⟨45, .phase⟩, ⟨46, .phase⟩, ⟨47, .phase⟩, ⟨48, .phase⟩, ⟨49, .phase⟩, ⟨50, .phase⟩, ⟨51, .phase⟩, ⟨52, .phase⟩, ⟨53, .phase⟩, ⟨54, .phase⟩, ⟨55, .phase⟩, ⟨56, .phase⟩, ⟨57, .phase⟩, ⟨58, .phase⟩, ⟨59, .phase⟩, ⟨60, .phase⟩, ⟨61, .phase⟩, ⟨62, .phase⟩, ⟨63, .phase⟩, ⟨64, .phase⟩, ⟨65, .phase⟩, ⟨66, .phase⟩, ⟨67, .phase⟩, ⟨68, .phase⟩, ⟨69, .phase⟩, ⟨70, .phase⟩], none⟩) (v := ?_) rfl (by kernel_rfl) (by kernel_rfl) (by kernel_rfl) (fun _ _ _ h => h) (Or.inl ⟨by rfl, ?_⟩) (by assumption) ?_
            rotate_left
            · (intro w hSw; (try dsimp only at hSw); go_simp; try with_reducible rfl)
            try simp only [Act.put, List.setIfInBounds_toArray, List.set_cons_zero, List.set_cons_succ]
            refine wpAnyH_done (by kernel_rfl) ?_ _
            refine NoPanic.normal ?_
            all_goals
              go_wp2
              go_ret
              exact ⟨rfl, Bel.bl (Bel.tr (HB2.out.tr HBV.out) (by repeat (first | exact HD_p4.out | (with_reducible refine Bel.drwN ?_ _) | (with_reducible refine Bel.drw ?_) | refine Bel.tr ?_ (by assumption))))⟩
        · have e3 : (Y == 1) = false := by simpa using hne
          have KS : Hid (∀ W', Bel (p4.alloc (.cells #[.int .i64 1, .int .i64 1] 28)) W' → ((fun w' => w'.cell? ⟨p1.heap.size, 0, none⟩ = some (.int .i64 1) ∧ w'.cell? ⟨p1.heap.size, 1, none⟩ = some (.int .i64 Y) ∧ w'.cell? ⟨p2.heap.size, 0, none⟩ = some (.int .i64 1) ∧ w'.cell? ⟨p2.heap.size, 1, none⟩ = some (.int .i64 Y) ∧ w'.cell? ⟨p3.heap.size, 0, none⟩ = some (.int .i64 1) ∧ w'.cell? ⟨p3.heap.size, 1, none⟩ = some (.int .i64 Y) ∧ w'.cell? ⟨p4.heap.size, 0, none⟩ = some (.int .i64 1) ∧ w'.cell? ⟨p4.heap.size, 1, none⟩ = some (.int .i64 1))) W') := fun W' h => ⟨h.kp q0, h.kp q1, h.kp q2, h.kp q3, h.kp q4, h.kp q5, h.kp q6, h.kp q7⟩
          clear q0 q1 q2 q3 q4 q5 q6 q7
          go_wp2_with fail
          simp only [List.append_eq, List.cons_append, List.nil_append]
          as_aux_lemma =>
            refine wp_region_noPanic ?_
            refine wp_region_held_drew (S := (fun w' => w'.cell? ⟨p1.heap.size, 0, none⟩ = some (.int .i64 1) ∧ w'.cell? ⟨p1.heap.size, 1, none⟩ = some (.int .i64 Y) ∧ w'.cell? ⟨p2.heap.size, 0, none⟩ = some (.int .i64 1) ∧ w'.cell? ⟨p2.heap.size, 1, none⟩ = some (.int .i64 Y) ∧ w'.cell? ⟨p3.heap.size, 0, none⟩ = some (.int .i64 1) ∧ w'.cell? ⟨p3.heap.size, 1, none⟩ = some (.int .i64 Y) ∧ w'.cell? ⟨p4.heap.size, 0, none⟩ = some (.int .i64 1) ∧ w'.cell? ⟨p4.heap.size, 1, none⟩ = some (.int .i64 1))) (by kernel_rfl) ?_ (fun hH0 => ?_)
            · (try dsimp only); exact KS.out _ (by repeat (first | exact Bel.rf | (with_reducible refine Bel.drwN ?_ _) | (with_reducible refine Bel.drw ?_) | (with_reducible refine Bel.al ?_ _) | (refine Bel.tr ?_ (by assumption))))
            refine wpAnyH_take (i := 0) (oi := ⟨some 78, .move (.tmp 10), 29, "law.go:112", #[], none⟩) (v := ?_) rfl (by kernel_rfl) (by kernel_rfl) (by kernel_rfl) (fun _ _ _ h => h) (Or.inl ⟨by rfl, ?_⟩) (by assumption) ?_
            rotate_left
            · (intro w hSw; (try dsimp only at hSw); go_simp; try with_reducible rfl)
            try simp only [Act.put, List.setIfInBounds_toArray, List.set_cons_zero, List.set_cons_succ]
            refine wpAnyH_take (i := 1) (oi := ⟨some 79, .binOp .eql 29 (.tmp 78) (.const (.int .i64 0)) 29, 4, "law.go:112", #[⟨0, .data⟩], none⟩) (v := ?_) rfl (by kernel_rfl) (by kernel_rfl) (by kernel_rfl) (fun _ _ _ h => h) (Or.inl ⟨by rfl, ?_⟩) (by assumption) ?_
            rotate_left
            · (intro w hSw; (try dsimp only at hSw); go_simp; try with_reducible rfl)
            try simp only [Act.put, List.setIfInBounds_toArray, List.set_cons_zero, List.set_cons_succ]
            refine wpAnyH_take (i := 2) (oi := ⟨some 80, .move (.tmp 79), 4, "law.go:112", #[⟨1, .data⟩], none⟩) (v := ?_) rfl (by kernel_rfl) (by kernel_rfl) (by kernel_rfl) (fun _ _ _ h => h) (Or.inl ⟨by rfl, ?_⟩) (by assumption) ?_
            rotate_left
            · (intro w hSw; (try dsimp only at hSw); go_simp; try with_reducible rfl)
            try simp only [Act.put, List.setIfInBounds_toArray, List.set_cons_zero, List.set_cons_succ]
            refine wpAnyH_take (i := 3) (oi := ⟨some 81, .move (.tmp 12), 29, "law.go:112", #[⟨2, .guard⟩], some (2, true)⟩) (v := ?_) rfl (by kernel_rfl) (by kernel_rfl) (by kernel_rfl) (fun _ _ _ h => h) (Or.inl ⟨by rfl, ?_⟩) (by assumption) ?_
            rotate_left
            · (intro w hSw; (try dsimp only at hSw); go_simp; try with_reducible rfl)
            try simp only [Act.put, List.setIfInBounds_toArray, List.set_cons_zero, List.set_cons_succ]
            refine wpAnyH_take (i := 4) (oi := ⟨some 82, .binOp .eql 29 (.tmp 81) (.const (.int .i64 0)) 29, 4, "law.go:112", #[⟨3, .data⟩, ⟨2, .guard⟩], some (2, true)⟩) (v := ?_) rfl (by kernel_rfl) (by kernel_rfl) (by kernel_rfl) (fun _ _ _ h => h) (Or.inl ⟨by rfl, ?_⟩) (by assumption) ?_
            rotate_left
            · (intro w hSw; (try dsimp only at hSw); go_simp; try with_reducible rfl)
            try simp only [Act.put, List.setIfInBounds_toArray, List.set_cons_zero, List.set_cons_succ]
            refine wpAnyH_take (i := 5) (oi := ⟨some 83, .pick (.tmp 80) (.tmp 82) (.const (.bool false)), 4, "law.go:112", #[⟨2, .data⟩, ⟨4, .data⟩], none⟩) (v := ?_) rfl (by kernel_rfl) (by kernel_rfl) (by kernel_rfl) (fun _ _ _ h => h) (Or.inl ⟨by rfl, ?_⟩) (by assumption) ?_
            rotate_left
            · (intro w hSw; (try dsimp only at hSw); go_simp; try with_reducible rfl)
            try simp only [Act.put, List.setIfInBounds_toArray, List.set_cons_zero, List.set_cons_succ]
            refine wpAnyH_take (i := 6) (oi := ⟨some 84, .move (.tmp 83), 4, "law.go:112", #[⟨5, .data⟩, ⟨2, .chain⟩], none⟩) (v := ?_) rfl (by kernel_rfl) (by kernel_rfl) (by kernel_rfl) (fun _ _ _ h => h) (Or.inl ⟨by rfl, ?_⟩) (by assumption) ?_
            rotate_left
            · (intro w hSw; (try dsimp only at hSw); go_simp; try with_reducible rfl)
            try simp only [Act.put, List.setIfInBounds_toArray, List.set_cons_zero, List.set_cons_succ]
            refine wpAnyH_take (i := 7) (oi := ⟨some 85, .move (.tmp 14), 29, "law.go:112", #[⟨6, .guard⟩], some (6, true)⟩) (v := ?_) rfl (by kernel_rfl) (by kernel_rfl) (by kernel_rfl) (fun _ _ _ h => h) (Or.inl ⟨by rfl, ?_⟩) (by assumption) ?_
            rotate_left
            · (intro w hSw; (try dsimp only at hSw); go_simp; try with_reducible rfl)
            try simp only [Act.put, List.setIfInBounds_toArray, List.set_cons_zero, List.set_cons_succ]
            refine wpAnyH_take (i := 8) (oi := ⟨some 86, .binOp .eql 29 (.tmp 85) (.const (.int .i64 0)) 29, 4, "law.go:112", #[⟨7, .data⟩, ⟨6, .guard⟩], some (6, true)⟩) (v := ?_) rfl (by kernel_rfl) (by kernel_rfl) (by kernel_rfl) (fun _ _ _ h => h) (Or.inl ⟨by rfl, ?_⟩) (by assumption) ?_
            rotate_left
            · (intro w hSw; (try dsimp only at hSw); go_simp; try with_reducible rfl)
            try simp only [Act.put, List.setIfInBounds_toArray, List.set_cons_zero, List.set_cons_succ]
            refine wpAnyH_take (i := 9) (oi := ⟨some 87, .pick (.tmp 84) (.tmp 86) (.const (.bool false)), 4, "law.go:112", #[⟨6, .data⟩, ⟨8, .data⟩], none⟩) (v := ?_) rfl (by kernel_rfl) (by kernel_rfl) (by kernel_rfl) (fun _ _ _ h => h) (Or.inl ⟨by rfl, ?_⟩) (by assumption) ?_
            rotate_left
            · (intro w hSw; (try dsimp only at hSw); go_simp; try with_reducible rfl)
            try simp only [Act.put, List.setIfInBounds_toArray, List.set_cons_zero, List.set_cons_succ]
            refine wpAnyH_take (i := 10) (oi := ⟨some 88, .move (.tmp 87), 4, "law.go:112", #[⟨9, .data⟩, ⟨6, .chain⟩], none⟩) (v := ?_) rfl (by kernel_rfl) (by kernel_rfl) (by kernel_rfl) (fun _ _ _ h => h) (Or.inl ⟨by rfl, ?_⟩) (by assumption) ?_
            rotate_left
            · (intro w hSw; (try dsimp only at hSw); go_simp; try with_reducible rfl)
            try simp only [Act.put, List.setIfInBounds_toArray, List.set_cons_zero, List.set_cons_succ]
            refine wpAnyH_take (i := 11) (oi := ⟨some 89, .move (.tmp 16), 29, "law.go:112", #[⟨10, .guard⟩], some (10, true)⟩) (v := ?_) rfl (by kernel_rfl) (by kernel_rfl) (by kernel_rfl) (fun _ _ _ h => h) (Or.inl ⟨by rfl, ?_⟩) (by assumption) ?_
            rotate_left
            · (intro w hSw; (try dsimp only at hSw); go_simp; try with_reducible rfl)
            try simp only [Act.put, List.setIfInBounds_toArray, List.set_cons_zero, List.set_cons_succ]
            refine wpAnyH_take (i := 12) (oi := ⟨some 90, .binOp .eql 29 (.tmp 89) (.const (.int .i64 0)) 29, 4, "law.go:112", #[⟨11, .data⟩, ⟨10, .guard⟩], some (10, true)⟩) (v := ?_) rfl (by kernel_rfl) (by kernel_rfl) (by kernel_rfl) (fun _ _ _ h => h) (Or.inl ⟨by rfl, ?_⟩) (by assumption) ?_
            rotate_left
            · (intro w hSw; (try dsimp only at hSw); go_simp; try with_reducible rfl)
            try simp only [Act.put, List.setIfInBounds_toArray, List.set_cons_zero, List.set_cons_succ]
            refine wpAnyH_take (i := 13) (oi := ⟨some 91, .pick (.tmp 88) (.tmp 90) (.const (.bool false)), 4, "law.go:112", #[⟨10, .data⟩, ⟨12, .data⟩], none⟩) (v := ?_) rfl (by kernel_rfl) (by kernel_rfl) (by kernel_rfl) (fun _ _ _ h => h) (Or.inl ⟨by rfl, ?_⟩) (by assumption) ?_
            rotate_left
            · (intro w hSw; (try dsimp only at hSw); go_simp; try with_reducible rfl)
            try simp only [Act.put, List.setIfInBounds_toArray, List.set_cons_zero, List.set_cons_succ]
            refine wpAnyH_take (i := 14) (oi := ⟨some 92, .move (.tmp 91), 4, "law.go:112", #[⟨13, .data⟩, ⟨10, .chain⟩], none⟩) (v := ?_) rfl (by kernel_rfl) (by kernel_rfl) (by kernel_rfl) (fun _ _ _ h => h) (Or.inl ⟨by rfl, ?_⟩) (by assumption) ?_
            rotate_left
            · (intro w hSw; (try dsimp only at hSw); go_simp; try with_reducible rfl)
            try simp only [Act.put, List.setIfInBounds_toArray, List.set_cons_zero, List.set_cons_succ]
            refine wpAnyH_take (i := 15) (oi := ⟨some 93, .load 28 (.tmp 9), 28, "law.go:112", #[⟨14, .guard⟩], some (14, true)⟩) (v := ?_) rfl (by kernel_rfl) (by kernel_rfl) (by kernel_rfl) (fun _ _ _ h => h) (Or.inl ⟨by rfl, ?_⟩) (by assumption) ?_
            rotate_left
            · (intro w hSw; (try dsimp only at hSw); go_simp; try with_reducible rfl)
            try simp only [Act.put, List.setIfInBounds_toArray, List.set_cons_zero, List.set_cons_succ]
            refine wpAnyH_take (i := 16) (oi := ⟨some 94, .load 28 (.tmp 11), 28, "law.go:112", #[⟨14, .guard⟩], some (14, true)⟩) (v := ?_) rfl (by kernel_rfl) (by kernel_rfl) (by kernel_rfl) (fun _ _ _ h => h) (Or.inl ⟨by rfl, ?_⟩) (by assumption) ?_
            rotate_left
            · (intro w hSw; (try dsimp only at hSw); go_simp; try with_reducible rfl)
            try simp only [Act.put, List.setIfInBounds_toArray, List.set_cons_zero, List.set_cons_succ]
            refine wpAnyH_take (i := 17) (oi := ⟨some 95, .binOp .eql 28 (.tmp 93) (.tmp 94) 28, 4, "law.go:112", #[⟨15, .data⟩, ⟨16, .data⟩, ⟨14, .guard⟩], some (14, true)⟩) (v := ?_) rfl (by kernel_rfl) (by kernel_rfl) (by kernel_rfl) (fun _ _ _ h => h) (Or.inl ⟨by rfl, ?_⟩) (by assumption) ?_
            rotate_left
            · (intro w hSw; (try dsimp only at hSw); go_simp; try with_reducible rfl)
            try simp only [Act.put, List.setIfInBounds_toArray, List.set_cons_zero, List.set_cons_succ]
            refine wpAnyH_take (i := 18) (oi := ⟨some 96, .pick (.tmp 92) (.tmp 95) (.const (.bool false)), 4, "law.go:112", #[⟨14, .data⟩, ⟨17, .data⟩], none⟩) (v := ?_) rfl (by kernel_rfl) (by kernel_rfl) (by kernel_rfl) (fun _ _ _ h => h) (Or.inl ⟨by rfl, ?_⟩) (by assumption) ?_
            rotate_left
            · (intro w hSw; (try dsimp only at hSw); go_simp; try with_reducible rfl)
            try simp only [Act.put, List.setIfInBounds_toArray, List.set_cons_zero, List.set_cons_succ]
            refine wpAnyH_take (i := 19) (oi := ⟨some 97, .move (.tmp 96), 4, "law.go:112", #[⟨18, .data⟩, ⟨14, .chain⟩], none⟩) (v := ?_) rfl (by kernel_rfl) (by kernel_rfl) (by kernel_rfl) (fun _ _ _ h => h) (Or.inl ⟨by rfl, ?_⟩) (by assumption) ?_
            rotate_left
            · (intro w hSw; (try dsimp only at hSw); go_simp; try with_reducible rfl)
            try simp only [Act.put, List.setIfInBounds_toArray, List.set_cons_zero, List.set_cons_succ]
            refine wpAnyH_take (i := 20) (oi := ⟨some 98, .load 28 (.tmp 9), 28, "law.go:112", #[⟨19, .guard⟩], some (19, true)⟩) (v := ?_) rfl (by kernel_rfl) (by kernel_rfl) (by kernel_rfl) (fun _ _ _ h => h) (Or.inl ⟨by rfl, ?_⟩) (by assumption) ?_
            rotate_left
            · (intro w hSw; (try dsimp only at hSw); go_simp; try with_reducible rfl)
            try simp only [Act.put, List.setIfInBounds_toArray, List.set_cons_zero, List.set_cons_succ]
            refine wpAnyH_take (i := 21) (oi := ⟨some 99, .load 28 (.tmp 13), 28, "law.go:112", #[⟨19, .guard⟩], some (19, true)⟩) (v := ?_) rfl (by kernel_rfl) (by kernel_rfl) (by kernel_rfl) (fun _ _ _ h => h) (Or.inl ⟨by rfl, ?_⟩) (by assumption) ?_
            rotate_left
            · (intro w hSw; (try dsimp only at hSw); go_simp; try with_reducible rfl)
            try simp only [Act.put, List.setIfInBounds_toArray, List.set_cons_zero, List.set_cons_succ]
            refine wpAnyH_take (i := 22) (oi := ⟨some 100, .binOp .eql 28 (.tmp 98) (.tmp 99) 28, 4, "law.go:112", #[⟨20, .data⟩, ⟨21, .data⟩, ⟨19, .guard⟩], some (19, true)⟩) (v := ?_) rfl (by kernel_rfl) (by kernel_rfl) (by kernel_rfl) (fun _ _ _ h => h) (Or.inl ⟨by rfl, ?_⟩) (by assumption) ?_
            rotate_left
            · (intro w hSw; (try dsimp only at hSw); go_simp; try with_reducible rfl)
            try simp only [Act.put, List.setIfInBounds_toArray, List.set_cons_zero, List.set_cons_succ]
            refine wpAnyH_take (i := 23) (oi := ⟨some 101, .pick (.tmp 97) (.tmp 100) (.const (.bool false)), 4, "law.go:112", #[⟨19, .data⟩, ⟨22, .data⟩], none⟩) (v := ?_) rfl (by kernel_rfl) (by kernel_rfl) (by kernel_rfl) (fun _ _ _ h => h) (Or.inl ⟨by rfl, ?_⟩) (by assumption) ?_
            rotate_left
            · (intro w hSw; (try dsimp only at hSw); go_simp; try with_reducible rfl)
            try simp only [Act.put, List.setIfInBounds_toArray, List.set_cons_zero, List.set_cons_succ]
            refine wpAnyH_take (i := 24) (oi := ⟨some 102, .move (.tmp 101), 4, "law.go:112", #[⟨23, .data⟩, ⟨19, .chain⟩], none⟩) (v := ?_) rfl (by kernel_rfl) (by kernel_rfl) (by kernel_rfl) (fun _ _ _ h => h) (Or.inl ⟨by rfl, ?_⟩) (by assumption) ?_
            rotate_left
            · (intro w hSw; (try dsimp only at hSw); go_simp; try with_reducible rfl)
            try simp only [Act.put, List.setIfInBounds_toArray, List.set_cons_zero, List.set_cons_succ]
            refine wpAnyH_take (i := 25) (oi := ⟨some 103, .load 28 (.tmp 9), 28, "law.go:112", #[⟨24, .guard⟩], some (24, true)⟩) (v := ?_) rfl (by kernel_rfl) (by kernel_rfl) (by kernel_rfl) (fun _ _ _ h => h) (Or.inl ⟨by rfl, ?_⟩) (by assumption) ?_
            rotate_left
            · (intro w hSw; (try dsimp only at hSw); go_simp; try with_reducible rfl)
            try simp only [Act.put, List.setIfInBounds_toArray, List.set_cons_zero, List.set_cons_succ]
            refine wpAnyH_ready (rs := [26]) (by kernel_rfl) (by simp) ?_
            refine AllReadyH.cons (o := ⟨some 104, .call ⟨.value (.func 13), #[.tmp 103], #[28]⟩, 4, "law.go:112", #[⟨25, .data⟩, ⟨24, .chain⟩, ⟨24, .guard⟩], some (24, true)⟩) rfl (fun K hK => ?_) AllReadyH.nil
            go_simp
            go_at_call 13; refine (VA.out _).mono ?_; rintro r s1 ⟨rfl, h1⟩
            try go_wp2_with fail
            refine hK.out _ _ ?_ (fun hH1 => ?_)
            · (try dsimp only); exact KS.out _ (by repeat (first | exact Bel.rf | (with_reducible refine Bel.drwN ?_ _) | (with_reducible refine Bel.drw ?_) | (with_reducible refine Bel.al ?_ _) | (refine Bel.tr ?_ (by assumption))))
            clear hK K hH0
            try simp only [Act.put, List.setIfInBounds_toArray, List.set_cons_zero, List.set_cons_succ]
            refine wpAnyH_take (i := 27) (oi := ⟨some 105, .pick (.tmp 102) (.tmp 104) (.const (.bool false)), 4, "law.go:112", #[⟨24, .data⟩, ⟨26, .data⟩], none⟩) (v := ?_) rfl (by kernel_rfl) (by kernel_rfl) (by kernel_rfl) (fun _ _ _ h => h) (Or.inl ⟨by rfl, ?_⟩) (by assumption) ?_
            rotate_left
            · (intro w hSw; (try dsimp only at hSw); go_simp; try with_reducible rfl)
            try simp only [Act.put, List.setIfInBounds_toArray, List.set_cons_zero, List.set_cons_succ]
            refine wpAnyH_take (i := 28) (oi := ⟨some 106, .move (.tmp 105), 4, "law.go:112", #[⟨27, .data⟩, ⟨26, .chain⟩], none⟩) (v := ?_) rfl (by kernel_rfl) (by kernel_rfl) (by kernel_rfl) (fun _ _ _ h => h) (Or.inl ⟨by rfl, ?_⟩) (by assumption) ?_
            rotate_left
            · (intro w hSw; (try dsimp only at hSw); go_simp; try with_reducible rfl)
            try simp only [Act.put, List.setIfInBounds_toArray, List.set_cons_zero, List.set_cons_succ]
            refine wpAnyH_take (i := 29) (oi := ⟨some 107, .load 28 (.tmp 9), 28, "law.go:112", #[⟨28, .guard⟩], some (28, true)⟩) (v := ?_) rfl (by kernel_rfl) (by kernel_rfl) (by kernel_rfl) (fun _ _ _ h => h) (Or.inl ⟨by rfl, ?_⟩) (by assumption) ?_
            rotate_left
            · (intro w hSw; (try dsimp only at hSw); go_simp; try with_reducible rfl)
            try simp only [Act.put, List.setIfInBounds_toArray, List.set_cons_zero, List.set_cons_succ]
            refine wpAnyH_take (i := 30) (oi := ⟨some 108, .build 28 #[(0, .const (.int .i64 2)), (1, .const (.int .i64 1))], 28, "law.go:112", #[⟨28, .guard⟩], some (28, true)⟩) (v := ?_) rfl (by kernel_rfl) (by kernel_rfl) (by kernel_rfl) (fun _ _ _ h => h) (Or.inl ⟨by rfl, ?_⟩) (by assumption) ?_
            rotate_left
            · (intro w hSw; (try dsimp only at hSw); go_simp; try with_reducible rfl)
            try simp only [Act.put, List.setIfInBounds_toArray, List.set_cons_zero, List.set_cons_succ]
            refine wpAnyH_ready (rs := [31]) (by kernel_rfl) (by simp) ?_
            refine AllReadyH.cons (o := ⟨some 109, .call ⟨.value (.func 14), #[.tmp 107, .tmp 108], #[28, 28]⟩, 3, "law.go:112", #[⟨29, .data⟩, ⟨30, .data⟩, ⟨28, .chain⟩, ⟨28, .guard⟩], some (28, true)⟩) rfl (fun K hK => ?_) AllReadyH.nil
            go_simp
            go_at_call 14; refine (CM.out _).mono ?_; rintro r s2 ⟨rfl, h2⟩
            try go_wp2_with fail
            refine hK.out _ _ ?_ (fun hH2 => ?_)
            · (try dsimp only); exact KS.out _ (by repeat (first | exact Bel.rf | (with_reducible refine Bel.drwN ?_ _) | (with_reducible refine Bel.drw ?_) | (with_reducible refine Bel.al ?_ _) | (refine Bel.tr ?_ (by assumption))))
            clear hK K hH1
            try simp only [Act.put, List.setIfInBounds_toArray, List.set_cons_zero, List.set_cons_succ]
            refine wpAnyH_take (i := 32) (oi := ⟨some 110, .binOp .leq 3 (.tmp 109) (.const (.int .i64 0)) 3, 4, "law.go:112", #[⟨31, .data⟩, ⟨28, .guard⟩], some (28, true)⟩) (v := ?_) rfl (by kernel_rfl) (by kernel_rfl) (by kernel_rfl) (fun _ _ _ h => h) (Or.inl ⟨by rfl, ?_⟩) (by assumption) ?_
            rotate_left
            · (intro w hSw; (try dsimp only at hSw); go_simp; try with_reducible rfl)
            try simp only [Act.put, List.setIfInBounds_toArray, List.set_cons_zero, List.set_cons_succ]
            refine wpAnyH_take (i := 33) (oi := ⟨some 111, .pick (.tmp 106) (.tmp 110) (.const (.bool false)), 4, "law.go:112", #[⟨28, .data⟩, ⟨32, .data⟩], none⟩) (v := ?_) rfl (by kernel_rfl) (by kernel_rfl) (by kernel_rfl) (fun _ _ _ h => h) (Or.inl ⟨by rfl, ?_⟩) (by assumption) ?_
            rotate_left
            · (intro w hSw; (try dsimp only at hSw); go_simp; try with_reducible rfl)
            try simp only [Act.put, List.setIfInBounds_toArray, List.set_cons_zero, List.set_cons_succ]
            refine wpAnyH_take (i := 34) (oi := ⟨some 112, .move (.tmp 111), 4, "law.go:112", #[⟨33, .data⟩, ⟨31, .chain⟩], none⟩) (v := ?_) rfl (by kernel_rfl) (by kernel_rfl) (by kernel_rfl) (fun _ _ _ h => h) (Or.inl ⟨by rfl, ?_⟩) (by assumption) ?_
            rotate_left
            · (intro w hSw; (try dsimp only at hSw); go_simp; try with_reducible rfl)
            try simp only [Act.put, List.setIfInBounds_toArray, List.set_cons_zero, List.set_cons_succ]
            refine wpAnyH_take (i := 35) (oi := ⟨some 113, .load 28 (.tmp 9), 28, "law.go:112", #[⟨34, .guard⟩], some (34, true)⟩) (v := ?_) rfl (by kernel_rfl) (by kernel_rfl) (by kernel_rfl) (fun _ _ _ h => h) (Or.inl ⟨by rfl, ?_⟩) (by assumption) ?_
            rotate_left
            · (intro w hSw; (try dsimp only at hSw); go_simp; try with_reducible rfl)
            try simp only [Act.put, List.setIfInBounds_toArray, List.set_cons_zero, List.set_cons_succ]
            refine wpAnyH_take (i := 36) (oi := ⟨some 114, .load 28 (.tmp 17), 28, "law.go:112", #[⟨34, .guard⟩], some (34, true)⟩) (v := ?_) rfl (by kernel_rfl) (by kernel_rfl) (by kernel_rfl) (fun _ _ _ h => h) (Or.inl ⟨by rfl, ?_⟩) (by assumption) ?_
            rotate_left
            · (intro w hSw; (try dsimp only at hSw); go_simp; try with_reducible rfl)
            try simp only [Act.put, List.setIfInBounds_toArray, List.set_cons_zero, List.set_cons_succ]
            refine wpAnyH_take (i := 37) (oi := ⟨some 115, .binOp .eql 28 (.tmp 113) (.tmp 114) 28, 4, "law.go:112", #[⟨35, .data⟩, ⟨36, .data⟩, ⟨34, .guard⟩], some (34, true)⟩) (v := ?_) rfl (by kernel_rfl) (by kernel_rfl) (by kernel_rfl) (fun _ _ _ h => h) (Or.inl ⟨by rfl, ?_⟩) (by assumption) ?_
            rotate_left
            · (intro w hSw; (try dsimp only at hSw); go_simp; try with_reducible rfl)
            try simp only [Act.put, List.setIfInBounds_toArray, List.set_cons_zero, List.set_cons_succ]
            refine wpAnyH_take (i := 38) (oi := ⟨some 116, .move (.tmp 15), 3, "law.go:112", #[⟨34, .guard⟩], some (34, true)⟩) (v := ?_) rfl (by kernel_rfl) (by kernel_rfl) (by kernel_rfl) (fun _ _ _ h => h) (Or.inl ⟨by rfl, ?_⟩) (by assumption) ?_
            rotate_left
            · (intro w hSw; (try dsimp only at hSw); go_simp; try with_reducible rfl)
            try simp only [Act.put, List.setIfInBounds_toArray, List.set_cons_zero, List.set_cons_succ]
            refine wpAnyH_take (i := 39) (oi := ⟨some 117, .binOp .eql 3 (.tmp 116) (.const (.int .i64 0)) 3, 4, "law.go:112", #[⟨38, .data⟩, ⟨34, .guard⟩], some (34, true)⟩) (v := ?_) rfl (by kernel_rfl) (by kernel_rfl) (by kernel_rfl) (fun _ _ _ h => h) (Or.inl ⟨by rfl, ?_⟩) (by assumption) ?_
            rotate_left
            · (intro w hSw; (try dsimp only at hSw); go_simp; try with_reducible rfl)
            try simp only [Act.put, List.setIfInBounds_toArray, List.set_cons_zero, List.set_cons_succ]
            refine wpAnyH_take (i := 40) (oi := ⟨some 118, .move (.tmp 117), 4, "law.go:112", #[⟨39, .data⟩, ⟨34, .chain⟩, ⟨34, .guard⟩], some (34, true)⟩) (v := ?_) rfl (by kernel_rfl) (by kernel_rfl) (by kernel_rfl) (fun _ _ _ h => h) (Or.inl ⟨by rfl, ?_⟩) (by assumption) ?_
            rotate_left
            · (intro w hSw; (try dsimp only at hSw); go_simp; try with_reducible rfl)
            try simp only [Act.put, List.setIfInBounds_toArray, List.set_cons_zero, List.set_cons_succ]
            refine wpAnyH_take (i := 41) (oi := ⟨some 119, .move (.tmp 4), 22, "law.go:112", #[⟨40, .guard⟩], some (40, true)⟩) (v := undef) rfl (by kernel_rfl) (by kernel_rfl) (by kernel_rfl) (fun _ _ _ h => h) (Or.inr ⟨by rfl, rfl⟩) (by assumption) ?_
            try simp only [Act.put, List.setIfInBounds_toArray, List.set_cons_zero, List.set_cons_succ]
            refine wpAnyH_ready (rs := [42]) (by kernel_rfl) (by simp) ?_
            refine AllReadyH.cons (o := ⟨some 120, .call ⟨.value (.func 15), #[.tmp 119], #[22]⟩, 4, "law.go:112", #[⟨41, .data⟩, ⟨40, .chain⟩, ⟨40, .guard⟩], some (40, true)⟩) rfl (fun K hK => ?_) AllReadyH.nil
            go_simp
            refine hK.out _ _ (by assumption) (fun hH3 => ?_)
            clear hK K hH2
            try simp only [Act.put, List.setIfInBounds_toArray, List.set_cons_zero, List.set_cons_succ]
            refine wpAnyH_take (i := 43) (oi := ⟨some 121, .move (.tmp 120), 4, "law.go:112", #[⟨42, .data⟩, ⟨42, .chain⟩, ⟨40, .guard⟩], some (40, true)⟩) (v := undef) rfl (by kernel_rfl) (by kernel_rfl) (by kernel_rfl) (fun _ _ _ h => h) (Or.inr ⟨by rfl, rfl⟩) (by assumption) ?_
            try simp only [Act.put, List.setIfInBounds_toArray, List.set_cons_zero, List.set_cons_succ]
            refine wpAnyH_take (i := 44) (oi := ⟨some 122, .move (.tmp 5), 22, "law.go:112", #[⟨43, .guard⟩], some (43, false)⟩) (v := undef) rfl (by kernel_rfl) (by kernel_rfl) (by kernel_rfl) (fun _ _ _ h => h) (Or.inr ⟨by rfl, rfl⟩) (by assumption) ?_
            try simp only [Act.put, List.setIfInBounds_toArray, List.set_cons_zero, List.set_cons_succ]
            refine wpAnyH_ready (rs := [45]) (by kernel_rfl) (by simp) ?_
            refine AllReadyH.cons (o := ⟨some 123, .call ⟨.value (.func 15), #[.tmp 122], #[22]⟩, 4, "law.go:112", #[⟨44, .data⟩, ⟨43, .chain⟩, ⟨43, .guard⟩], some (43, false)⟩) rfl (fun K hK => ?_) AllReadyH.nil
            go_simp
            refine hK.out _ _ (by assumption) (fun hH4 => ?_)
            clear hK K hH3
            try simp only [Act.put, List.setIfInBounds_toArray, List.set_cons_zero, List.set_cons_succ]
            refine wpAnyH_take (i := 46) (oi := ⟨some 124, .pick (.tmp 121) (.const (.bool true)) (.tmp 123), 4, "law.go:112", #[⟨43, .data⟩, ⟨45, .data⟩, ⟨40, .guard⟩], some (40, true)⟩) (v := undef) rfl (by kernel_rfl) (by kernel_rfl) (by kernel_rfl) (fun _ _ _ h => h) (Or.inr ⟨by rfl, rfl⟩) (by assumption) ?_
            try simp only [Act.put, List.setIfInBounds_toArray, List.set_cons_zero, List.set_cons_succ]
            refine wpAnyH_take (i := 47) (oi := ⟨some 125, .pick (.tmp 118) (.tmp 124) (.const (.bool false)), 4, "law.go:112", #[⟨40, .data⟩, ⟨46, .data⟩, ⟨34, .guard⟩], some (34, true)⟩) (v := ?_) rfl (by kernel_rfl) (by kernel_rfl) (by kernel_rfl) (fun _ _ _ h => h) (Or.inl ⟨by rfl, ?_⟩) (by assumption) ?_
            rotate_left
            · (intro w hSw; (try dsimp only at hSw); go_simp; try with_reducible rfl)
            try simp only [Act.put, List.setIfInBounds_toArray, List.set_cons_zero, List.set_cons_succ]
            refine wpAnyH_take (i := 48) (oi := ⟨some 126, .binOp .eql 4 (.tmp 115) (.tmp 125) 4, 4, "law.go:112", #[⟨37, .data⟩, ⟨47, .data⟩, ⟨34, .guard⟩], some (34, true)⟩) (v := ?_) rfl (by kernel_rfl) (by kernel_rfl) (by kernel_rfl) (fun _ _ _ h => h) (Or.inl ⟨by rfl, ?_⟩) (by assumption) ?_
            rotate_left
            · (intro w hSw; (try dsimp only at hSw); go_simp; try with_reducible rfl)
            try simp only [Act.put, List.setIfInBounds_toArray, List.set_cons_zero, List.set_cons_succ]
            refine wpAnyH_take (i := 49) (oi := ⟨some 127, .pick (.tmp 112) (.tmp 126) (.const (.bool false)), 4, "law.go:112", #[⟨34, .data⟩, ⟨48, .data⟩], none⟩) (v := ?_) rfl (by kernel_rfl) (by kernel_rfl) (by kernel_rfl) (fun _ _ _ h => h) (Or.inl ⟨by rfl, ?_⟩) (by assumption) ?_
            rotate_left
            · (intro w hSw; (try dsimp only at hSw); go_simp; try with_reducible rfl)
            try simp only [Act.put, List.setIfInBounds_toArray, List.set_cons_zero, List.set_cons_succ]
            refine wpAnyH_take (i := 50) (oi := ⟨some 128, .move (.tmp 127), 4, "law.go:112", #[⟨49, .data⟩, ⟨45, .chain⟩], none⟩) (v := ?_) rfl (by kernel_rfl) (by kernel_rfl) (by kernel_rfl) (fun _ _ _ h => h) (Or.inl ⟨by rfl, ?_⟩) (by assumption) ?_
            rotate_left
            · (intro w hSw; (try dsimp only at hSw); go_simp; try with_reducible rfl)
            try simp only [Act.put, List.setIfInBounds_toArray, List.set_cons_zero, List.set_cons_succ]
            refine wpAnyH_take (i := 51) (oi := ⟨some 129, .load 28 (.tmp 9), 28, "law.go:112", #[⟨50, .guard⟩], some (50, true)⟩) (v := ?_) rfl (by kernel_rfl) (by kernel_rfl) (by kernel_rfl) (fun _ _ _ h => h) (Or.inl ⟨by rfl, ?_⟩) (by assumption) ?_
            rotate_left
            · (intro w hSw; (try dsimp only at hSw); go_simp; try with_reducible rfl)
            try simp only [Act.put, List.setIfInBounds_toArray, List.set_cons_zero, List.set_cons_succ]
            refine wpAnyH_take (i := 52) (oi := ⟨some 130, .load 28 (.tmp 17), 28, "law.go:112", #[⟨50, .guard⟩], some (50, true)⟩) (v := ?_) rfl (by kernel_rfl) (by kernel_rfl) (by kernel_rfl) (fun _ _ _ h => h) (Or.inl ⟨by rfl, ?_⟩) (by assumption) ?_
            rotate_left
            · (intro w hSw; (try dsimp only at hSw); go_simp; try with_reducible rfl)
            try simp only [Act.put, List.setIfInBounds_toArray, List.set_cons_zero, List.set_cons_succ]
            refine wpAnyH_take (i := 54) (oi := ⟨some 132, .move (.tmp 15), 3, "law.go:112", #[⟨50, .guard⟩], some (50, true)⟩) (v := ?_) rfl (by kernel_rfl) (by kernel_rfl) (by kernel_rfl) (fun _ _ _ h => h) (Or.inl ⟨by rfl, ?_⟩) (by assumption) ?_
            rotate_left
            · (intro w hSw; (try dsimp only at hSw); go_simp; try with_reducible rfl)
            try simp only [Act.put, List.setIfInBounds_toArray, List.set_cons_zero, List.set_cons_succ]
            refine wpAnyH_take (i := 55) (oi := ⟨some 133, .binOp .gtr 3 (.tmp 132) (.const (.int .i64 0)) 3, 4, "law.go:112", #[⟨54, .data⟩, ⟨50, .guard⟩], some (50, true)⟩) (v := ?_) rfl (by kernel_rfl) (by kernel_rfl) (by kernel_rfl) (fun _ _ _ h => h) (Or.inl ⟨by rfl, ?_⟩) (by assumption) ?_
            rotate_left
            · (intro w hSw; (try dsimp only at hSw); go_simp; try with_reducible rfl)
            try simp only [Act.put, List.setIfInBounds_toArray, List.set_cons_zero, List.set_cons_succ]
            refine wpAnyH_ready (rs := [53]) (by kernel_rfl) (by simp) ?_
            refine AllReadyH.cons (o := ⟨some 131, .call ⟨.value (.func 16), #[.tmp 129, .tmp 130], #[28, 28]⟩, 4, "law.go:112", #[⟨51, .data⟩, ⟨52, .data⟩, ⟨50, .chain⟩, ⟨50, .guard⟩], some (50, true)⟩) rfl (fun K hK => ?_) AllReadyH.nil
            go_simp
            go_at_call 16; refine (LS.out _).mono ?_; rintro r s5 ⟨rfl, h5⟩
            try go_wp2_with fail
            refine hK.out _ _ ?_ (fun hH5 => ?_)
            · (try dsimp only); exact KS.out _ (by repeat (first | exact Bel.rf | (with_reducible refine Bel.drwN ?_ _) | (with_reducible refine Bel.drw ?_) | (with_reducible refine Bel.al ?_ _) | (refine Bel.tr ?_ (by assumption))))
            clear hK K hH4
            try simp only [Act.put, List.setIfInBounds_toArray, List.set_cons_zero, List.set_cons_succ]
            refine wpAnyH_take (i := 56) (oi := ⟨some 134, .move (.tmp 133), 4, "law.go:112", #[⟨55, .data⟩, ⟨53, .chain⟩, ⟨50, .guard⟩], some (50, true)⟩) (v := ?_) rfl (by kernel_rfl) (by kernel_rfl) (by kernel_rfl) (fun _ _ _ h => h) (Or.inl ⟨by rfl, ?_⟩) (by assumption) ?_
            rotate_left
            · (intro w hSw; (try dsimp only at hSw); go_simp; try with_reducible rfl)
            try simp only [Act.put, List.setIfInBounds_toArray, List.set_cons_zero, List.set_cons_succ]
            refine wpAnyH_take (i := 57) (oi := ⟨some 135, .move (.tmp 4), 22, "law.go:112", #[⟨56, .guard⟩], some (56, false)⟩) (v := ?_) rfl (by kernel_rfl) (by kernel_rfl) (by kernel_rfl) (fun _ _ _ h => h) (Or.inl ⟨by rfl, ?_⟩) (by assumption) ?_
            rotate_left
            · (intro w hSw; (try dsimp only at hSw); go_simp; try with_reducible rfl)
            try simp only [Act.put, List.setIfInBounds_toArray, List.set_cons_zero, List.set_cons_succ]
            refine wpAnyH_ready (rs := [58]) (by kernel_rfl) (by simp) ?_
            refine AllReadyH.cons (o := ⟨some 136, .call ⟨.value (.func 15), #[.tmp 135], #[22]⟩, 4, "law.go:112", #[⟨57, .data⟩, ⟨56, .chain⟩, ⟨56, .guard⟩], some (56, false)⟩) rfl (fun K hK => ?_) AllReadyH.nil
            go_simp
            go_at_call 15; (with_reducible refine (S1.out _ (by repeat (first | exact HD_p4.out | (with_reducible refine Bel.drwN ?_ _) | (with_reducible refine Bel.drw ?_) | refine Bel.tr ?_ (by assumption)))).mono ?_); rintro r s6 ⟨rfl, h6⟩
            try go_wp2_with fail
            refine hK.out _ _ ?_ (fun hH6 => ?_)
            · (try dsimp only); exact KS.out _ (by repeat (first | exact Bel.rf | (with_reducible refine Bel.drwN ?_ _) | (with_reducible refine Bel.drw ?_) | (with_reducible refine Bel.al ?_ _) | (refine Bel.tr ?_ (by assumption))))
            clear hK K hH5
            try simp only [Act.put, List.setIfInBounds_toArray, List.set_cons_zero, List.set_cons_succ]
            refine wpAnyH_take (i := 59) (oi := ⟨some 137, .unOp .not 4 (.tmp 136), 4, "law.go:112", #[⟨58, .data⟩, ⟨56, .guard⟩], some (56, false)⟩) (v := ?_) rfl (by kernel_rfl) (by kernel_rfl) (by kernel_rfl) (fun _ _ _ h => h) (Or.inl ⟨by rfl, ?_⟩) (by assumption) ?_
            rotate_left
            · (intro w hSw; (try dsimp only at hSw); go_simp; try with_reducible rfl)
            try simp only [Act.put, List.setIfInBounds_toArray, List.set_cons_zero, List.set_cons_succ]
            refine wpAnyH_take (i := 60) (oi := ⟨some 138, .move (.tmp 137), 4, "law.go:112", #[⟨59, .data⟩, ⟨58, .chain⟩, ⟨56, .guard⟩], some (56, false)⟩) (v := ?_) rfl (by kernel_rfl) (by kernel_rfl) (by kernel_rfl) (fun _ _ _ h => h) (Or.inl ⟨by rfl, ?_⟩) (by assumption) ?_
            rotate_left
            · (intro w hSw; (try dsimp only at hSw); go_simp; try with_reducible rfl)
            try simp only [Act.put, List.setIfInBounds_toArray, List.set_cons_zero, List.set_cons_succ]
            refine wpAnyH_take (i := 61) (oi := ⟨some 139, .move (.tmp 5), 22, "law.go:112", #[⟨60, .guard⟩], some (60, true)⟩) (v := undef) rfl (by kernel_rfl) (by kernel_rfl) (by kernel_rfl) (fun _ _ _ h => h) (Or.inr ⟨by rfl, rfl⟩) (by assumption) ?_
            try simp only [Act.put, List.setIfInBounds_toArray, List.set_cons_zero, List.set_cons_succ]
            refine wpAnyH_ready (rs := [62]) (by kernel_rfl) (by simp) ?_
            refine AllReadyH.cons (o := ⟨some 140, .call ⟨.value (.func 15), #[.tmp 139], #[22]⟩, 4, "law.go:112", #[⟨61, .data⟩, ⟨60, .chain⟩, ⟨60, .guard⟩], some (60, true)⟩) rfl (fun K hK => ?_) AllReadyH.nil
            go_simp
            refine hK.out _ _ (by assumption) (fun hH7 => ?_)
            clear hK K hH6
            try simp only [Act.put, List.setIfInBounds_toArray, List.set_cons_zero, List.set_cons_succ]
            refine wpAnyH_take (i := 63) (oi := ⟨some 141, .unOp .not 4 (.tmp 140), 4, "law.go:112", #[⟨62, .data⟩, ⟨60, .guard⟩], some (60, true)⟩) (v := undef) rfl (by kernel_rfl) (by kernel_rfl) (by kernel_rfl) (fun _ _ _ h => h) (Or.inr ⟨by rfl, rfl⟩) (by assumption) ?_
            try simp only [Act.put, List.setIfInBounds_toArray, List.set_cons_zero, List.set_cons_succ]
            refine wpAnyH_take (i := 64) (oi := ⟨some 142, .pick (.tmp 138) (.tmp 141) (.const (.bool false)), 4, "law.go:112", #[⟨60, .data⟩, ⟨63, .data⟩, ⟨56, .guard⟩], some (56, false)⟩) (v := ?_) rfl (by kernel_rfl) (by kernel_rfl) (by kernel_rfl) (fun _ _ _ h => h) (Or.inl ⟨by rfl, ?_⟩) (by assumption) ?_
            rotate_left
            · (intro w hSw; (try dsimp only at hSw); go_simp; try with_reducible rfl)
            try simp only [Act.put, List.setIfInBounds_toArray, List.set_cons_zero, List.set_cons_succ]
            refine wpAnyH_take (i := 65) (oi := ⟨some 143, .pick (.tmp 134) (.const (.bool true)) (.tmp 142), 4, "law.go:112", #[⟨56, .data⟩, ⟨64, .data⟩, ⟨50, .guard⟩], some (50, true)⟩) (v := ?_) rfl (by kernel_rfl) (by kernel_rfl) (by kernel_rfl) (fun _ _ _ h => h) (Or.inl ⟨by rfl, ?_⟩) (by assumption) ?_
            rotate_left
            · (intro w hSw; (try dsimp only at hSw); go_simp; try with_reducible rfl)
            try simp only [Act.put, List.setIfInBounds_toArray, List.set_cons_zero, List.set_cons_succ]
            refine wpAnyH_take (i := 66) (oi := ⟨some 144, .binOp .eql 4 (.tmp 131) (.tmp 143) 4, 4, "law.go:112", #[⟨53, .data⟩, ⟨65, .data⟩, ⟨50, .guard⟩], some (50, true)⟩) (v := ?_) rfl (by kernel_rfl) (by kernel_rfl) (by kernel_rfl) (fun _ _ _ h => h) (Or.inl ⟨by rfl, ?_⟩) (by assumption) ?_
            rotate_left
            · (intro w hSw; (try dsimp only at hSw); go_simp; try with_reducible rfl)
            try simp only [Act.put, List.setIfInBounds_toArray, List.set_cons_zero, List.set_cons_succ]
            refine wpAnyH_take (i := 67) (oi := ⟨some 145, .pick (.tmp 128) (.tmp 144) (.const (.bool false)), 4, "law.go:112", #[⟨50, .data⟩, ⟨66, .data⟩], none⟩) (v := ?_) rfl (by kernel_rfl) (by kernel_rfl) (by kernel_rfl) (fun _ _ _ h => h) (Or.inl ⟨by rfl, ?_⟩) (by assumption) ?_
            rotate_left
            · (intro w hSw; (try dsimp only at hSw); go_simp; try with_reducible rfl)
            try simp only [Act.put, List.setIfInBounds_toArray, List.set_cons_zero, List.set_cons_succ]
            refine wpAnyH_take (i := 68) (oi := ⟨some 146, .move (.tmp 145), 4, "law.go:112", #[⟨67, .data⟩, ⟨62, .chain⟩], none⟩) (v := ?_) rfl (by kernel_rfl) (by kernel_rfl) (by kernel_rfl) (fun _ _ _ h => h) (Or.inl ⟨by rfl, ?_⟩) (by assumption) ?_
            rotate_left
            · (intro w hSw; (try dsimp only at hSw); go_simp; try with_reducible rfl)
            try simp only [Act.put, List.setIfInBounds_toArray, List.set_cons_zero, List.set_cons_succ]
            refine wpAnyH_ready (rs := [69]) (by kernel_rfl) (by simp) ?_
            refine AllReadyH.cons (o := ⟨some 147, .call ⟨.value (.func 17), #[], #[]⟩, 4, "law.go:112", #[⟨68, .chain⟩, ⟨68, .guard⟩], some (68, true)⟩) rfl (fun K hK => ?_) AllReadyH.nil
            go_simp
            go_at_call 17; refine (AW.out _).mono ?_; rintro r s8 ⟨rfl, h8⟩
            try go_wp2_with fail
            refine hK.out _ _ ?_ (fun hH8 => ?_)
            · (try dsimp only); exact KS.out _ (by repeat (first | exact Bel.rf | (with_reducible refine Bel.drwN ?_ _) | (with_reducible refine Bel.drw ?_) | (with_reducible refine Bel.al ?_ _) | (refine Bel.tr ?_ (by assumption))))
            clear hK K hH7
            try simp only [Act.put, List.setIfInBounds_toArray, List.set_cons_zero, List.set_cons_succ]
            refine wpAnyH_take (i := 70) (oi := ⟨some 148, .pick (.tmp 146) (.tmp 147) (.const (.bool false)), 4, "law.go:112", #[⟨68, .data⟩, ⟨69, .data⟩], none⟩) (v := ?_) rfl (by kernel_rfl) (by kernel_rfl) (by kernel_rfl) (fun _ _ _ h => h) (Or.inl ⟨by rfl, ?_⟩) (by assumption) ?_
            rotate_left
            · (intro w hSw; (try dsimp only at hSw); go_simp; try with_reducible rfl)
            try simp only [Act.put, List.setIfInBounds_toArray, List.set_cons_zero, List.set_cons_succ]
            refine wpAnyH_take (i := 71) (oi := ⟨some 2, .assign (.tmp 148), 4, "law.go:112", #[⟨70, .data⟩, ⟨69, .chain⟩, ⟨0, .phase⟩, ⟨1, .phase⟩, ⟨2, .phase⟩, ⟨3, .phase⟩, ⟨4, .phase⟩, ⟨5, .phase⟩, ⟨6, .phase⟩, ⟨7, .phase⟩, ⟨8, .phase⟩, ⟨9, .phase⟩, ⟨10, .phase⟩, ⟨11, .phase⟩, ⟨12, .phase⟩, ⟨13, .phase⟩, ⟨14, .phase⟩, ⟨15, .phase⟩, ⟨16, .phase⟩, ⟨17, .phase⟩, ⟨18, .phase⟩, ⟨19, .phase⟩, ⟨20, .phase⟩, ⟨21, .phase⟩, ⟨22, .phase⟩, ⟨23, .phase⟩, ⟨24, .phase⟩, ⟨25, .phase⟩, ⟨26, .phase⟩, ⟨27, .phase⟩, ⟨28, .phase⟩, ⟨29, .phase⟩, ⟨30, .phase⟩, ⟨31, .phase⟩, ⟨32, .phase⟩, ⟨33, .phase⟩, ⟨34, .phase⟩, ⟨35, .phase⟩, ⟨36, .phase⟩, ⟨37, .phase⟩, ⟨38, .phase⟩, ⟨39, .phase⟩, ⟨40, .phase⟩, ⟨41, .phase⟩, ⟨42, .phase⟩, ⟨43, .phase⟩, ⟨44, .phase⟩, ⟨45, .phase⟩, ⟨46, .phase⟩, ⟨47, .phase⟩, ⟨48, .phase⟩, ⟨49, .phase⟩, ⟨50, .phase⟩, ⟨51, .phase⟩, ⟨52, .phase⟩, ⟨53, .phase⟩, ⟨54, .phase⟩, ⟨55, .phase⟩, ⟨56, .phase⟩, ⟨57, .phase⟩, ⟨58, .phase⟩, ⟨59, .phase⟩, ⟨60, .phase⟩, ⟨61, .phase⟩, ⟨62, .phase⟩, ⟨63, .phase⟩, ⟨64, .phase⟩, ⟨65, .phase⟩, ⟨66, .phase⟩, ⟨67, .phase⟩, ⟨68, .phase⟩, ⟨69, .phase⟩, ⟨70, .phase⟩], none⟩) (v := ?_) rfl (by kernel_rfl) (by kernel_rfl) (by kernel_rfl) (fun _ _ _ h => h) (Or.inl ⟨by rfl, ?_⟩) (by assumption) ?_
            rotate_left
            · (intro w hSw; (try dsimp only at hSw); go_simp; try with_reducible rfl)
            try simp only [Act.put, List.setIfInBounds_toArray, List.set_cons_zero, List.set_cons_succ]
            refine wpAnyH_done (by kernel_rfl) ?_ _
            refine NoPanic.normal ?_
            all_goals
              go_wp2
              go_ret
              exact ⟨rfl, Bel.bl (Bel.tr (HB2.out.tr HBV.out) (by repeat (first | exact HD_p4.out | (with_reducible refine Bel.drwN ?_ _) | (with_reducible refine Bel.drw ?_) | refine Bel.tr ?_ (by assumption))))⟩

set_option maxRecDepth 100000 in
theorem lifted (os : Os) (started : os.Started) (H : Type) (enc : TypeId × Value → H) :
    ReturnsInHanded {} Try.checked os 3 .any (Rows.normalRangeSpec.pre6 enc Try.prog Try.f3 Rows.normalRangeRow.domain false) (Rows.normalRangeSpec.post enc Try.prog Try.f3 false true false false) := by
  refine returnsInHanded_of_change (C := Try.checked) own started (by kernel_rfl) Try.func3
    (ChangeSpec.witness6 (enc := enc) (C := Try.checked) false ⟨#[], #[.slice none 0 0], []⟩ 8 (by kernel_rfl) (by kernel_rfl) (by kernel_rfl) (by kernel_rfl)) ?_
  intro W base args ds gs before hval0 hW hcnd _
  have hval : ∀ (j : Nat) t v, Try.f3.params[j]? = some t → args[j]? = some v → Value.okWide Try.prog W .any base t v := hval0
  have hW' := hW
  obtain ⟨p, q, hA0, hV, rfl, hfz, hnd⟩ := hW
  have hA : DataW.TrodAll enc Try.prog W 0 (fun _ => true) true Try.f3.params.toList args.toList ds p := hA0
  rw [Try.params3] at hA hval
  obtain ⟨v0, vs0, d0, ds0, p0, q0, hargs, rfl, rfl, h0, r0⟩ := trodAll_cons hA
  obtain ⟨rfl, rfl, rfl⟩ := trodAll_nil r0
  obtain rfl : args = #[v0] := by cases args; simp_all
  obtain ⟨rfl, rfl⟩ := trodVars_none hV
  obtain ⟨a0, len0, cap0, rfl⟩ := okWide_slice Try.underlying22 (hval 0 22 v0 rfl rfl)
  have k0 := h0
  have lt0 : ∀ x ∈ p0, x.block < W.heap.size := by obtain ⟨m, hm⟩ := k0; exact DataW.trod_lt m _ _ _ hm
  obtain ⟨z0, w0⟩ : ∃ zs, IsRow .i64 W a0 len0 cap0 zs := by
    obtain ⟨fuel, hf⟩ := h0
    rcases open_ints Try.underlying22 Try.underlying3 (by kernel_rfl) hf with ⟨hcs, _⟩ | ⟨x, l, c, zs, hcs, _, hl, hm, hz, _, hcell, hwz⟩
    · simp [Value.cells] at hcs
      obtain ⟨rfl, rfl, rfl⟩ := hcs
      exact ⟨[], .inl ⟨rfl, rfl, rfl, rfl⟩⟩
    · simp [Value.cells] at hcs
      obtain ⟨rfl, rfl, rfl⟩ := hcs
      exact ⟨zs, .inr ⟨_, rfl, hl, hm, by simpa using hz, hcell, hwz⟩⟩
  clear hA0 hval0
  refine (walk a0 len0 cap0 z0 W w0).mono fun e W' ⟨he, bel⟩ => ?_
  subst he
  exact ⟨_, rfl, _, _, _, [], _, [], hW', trodAll_mk1 (shut_bool Try.underlying4 _), (trodAll_cons_mk (Below.trod laidOut (by kernel_rfl) (of_decide_eq_true (by kernel_rfl)) k0 bel lt0) trodAll_mk0), rfl, bel.frame _, fun h => by cases h⟩

theorem over : Rows.normalRangeRow.holds Try.pinned (OpenSpec.ofChange Rows.normalRangeSpec) :=
  OpenClaim.holds_of_wide 3 Try.f3 rfl rfl rfl rfl rfl rfl rfl ⟨rfl, rfl, rfl, rfl, rfl⟩ rfl rfl rfl rfl rfl (by kernel_rfl) Try.func3 (by kernel_rfl)
    (of_decide_eq_true (by kernel_rfl)) (by unfold Func.isWrapper; first | (rw [if_pos (by decide +kernel)]; kernel_rfl) | (rw [if_neg (by decide +kernel)]; exact ⟨rfl, rfl⟩))
    (fun os started H enc _ => lifted os started H enc)

theorem proved : Rows.NormalRangeSaid := over
end Go.Proofs.Ythmdponfigepjaa.normalRange
