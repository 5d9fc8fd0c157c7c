/- The contracts of warp.follows and warp.Cost over a path. -/
import Derived.Test.YtkjffielnmdpcaaWarp10
import Derived.Test.YtkjffielnmdpcaaWarpM3
namespace Go.Proofs.Ytkjffielnmdpcaa.Wa
open Go.ChangeShapes Go.WideShapes Go.RowKit Wo Sr Wi Ed
set_option linter.unusedVariables false
set_option maxHeartbeats 2000000 in
theorem follows_ok (a b c d : Int) (a0 : 0 ≤ a) (b0 : 0 ≤ b) (c1 : c ≤ 100) (d1 : d ≤ 100) (h : (c - a = 1 ∧ d - b = 1) ∨ (c - a = 1 ∧ d - b = 0) ∨ (c - a = 0 ∧ d - b = 1)) (w : World) :
    Calls Try.prog 42 #[.agg #[.int .i64 a, .int .i64 b], .agg #[.int .i64 c, .int .i64 d]] w fun e w' => e = .returned (.bool true) ∧ Bel w w' := by
  have k1 : ((w.alloc (.cells #[.int .i64 a, .int .i64 b] 64)).alloc (.cells #[.int .i64 c, .int .i64 d] 64)).cell? ⟨w.heap.size, 0, none⟩ = some (.int .i64 a) := ((Bk.nw w _ _).al _).cell 0
  have k2 : ((w.alloc (.cells #[.int .i64 a, .int .i64 b] 64)).alloc (.cells #[.int .i64 c, .int .i64 d] 64)).cell? ⟨w.heap.size, 1, none⟩ = some (.int .i64 b) := ((Bk.nw w _ _).al _).cell 1
  have k3 : ((w.alloc (.cells #[.int .i64 a, .int .i64 b] 64)).alloc (.cells #[.int .i64 c, .int .i64 d] 64)).cell? ⟨w.heap.size + 1, 0, none⟩ = some (.int .i64 c) := (Bk.nq (w.alloc _) _ _ (by simp)).cell 0
  have k4 : ((w.alloc (.cells #[.int .i64 a, .int .i64 b] 64)).alloc (.cells #[.int .i64 c, .int .i64 d] 64)).cell? ⟨w.heap.size + 1, 1, none⟩ = some (.int .i64 d) := (Bk.nq (w.alloc _) _ _ (by simp)).cell 1
  have w1 : IntKind.i64.wrap 1 = 1 := by decide
  have w0 : IntKind.i64.wrap 0 = 0 := by decide
  rcases h with ⟨h1, h2⟩ | ⟨h1, h2⟩ | ⟨h1, h2⟩
  all_goals
    go_enter Try.func42, Try.ntmps42
    go_wp2
    go_quiet (fail)
    go_wp2
    go_ret
    exact ⟨rfl, ((Bel.rf.al _).al _).drwN _⟩
set_option maxHeartbeats 4000000 in
set_option maxRecDepth 100000 in
theorem cost_ok (A A' : Option Addr) (c c' n m h cb kk : Nat) (L M : List Int) (b K : Int) (l : List Pr) (n1 : 2 ≤ n) (n2 : n ≤ 32) (m1 : 2 ≤ m) (m2 : m ≤ 32) (b0 : 0 ≤ b) (b32 : b ≤ 32) (b1 : (n : Int) - (m : Int) ≤ b) (b2 : (m : Int) - (n : Int) ≤ b) (hs : Sam L) (ht : Sam M) (hl : Pq L M b 0 0 l (n - 1) (m - 1) K) (w : World) (h1 : Zi w A n L) (h2 : Zi w A' m M) (h3 : Zp w (some ⟨h, 0, none⟩) kk l) :
    Calls Try.prog 18 #[.slice A n c, .slice A' m c', .int .i64 b, .slice (some ⟨h, 0, none⟩) kk cb] w fun e w' => e = .returned (.tuple #[.int .i64 K, .int .i64 0]) ∧ Bel w w' := by
  have HW := Lib.hid (warped_ok A A' c c' n m L M b n1 n2 m1 m2 b0 b32 b1 b2 hs ht w h1 h2)
  obtain ⟨q1, q2, q3, q4, q5, q6, q7⟩ := pq_info hl
  have hk := h3.1
  rw [hk] at q1 q2 q4
  rw [hk] at q6 q7
  have H1 := Lib.hid h1
  have H2 := Lib.hid h2
  have H3 := Lib.hid h3
  have HX := Lib.hid hs
  have HY := Lib.hid ht
  have HB6 := Lib.hid q6
  have HF7 := Lib.hid q7
  have HK5 := Lib.hid (And.intro q5 hk)
  have HBD : Hid (∀ t, 0 ≤ cs L M (l.take t) ∧ cs L M (l.take t) ≤ 4000000 * (((l.take t).length : Nat) : Int)) := fun t => cs_bd hs ht _
  have k64 : kk ≤ 64 := by omega
  obtain ⟨x0, x0'⟩ := h3.at 0 (by omega)
  obtain ⟨x1, x1'⟩ := h3.at (kk - 1) (by omega)
  rw [q3] at x0 x0'
  rw [q4] at x1 x1'
  obtain ⟨nl, hnl⟩ : ∃ k, n - 1 = k := ⟨_, rfl⟩
  obtain ⟨ml, hml⟩ : ∃ k, m - 1 = k := ⟨_, rfl⟩
  obtain ⟨kl, hkl⟩ : ∃ k, kk - 1 = k := ⟨_, rfl⟩
  rw [hnl, hkl] at x1
  rw [hml, hkl] at x1'
  have x0 : w.cell? ⟨h, 0, none⟩ = some (.int .i64 0) := x0
  have x0' : w.cell? ⟨h, 1, none⟩ = some (.int .i64 0) := x0'
  have hnli : (n : Int) - 1 = (nl : Int) := by omega
  have hmli : (m : Int) - 1 = (ml : Int) := by omega
  have hkli : (kk : Int) - 1 = (kl : Int) := by omega
  have HNL := Lib.hid (And.intro hnl (And.intro hml hkl))
  have g0 : (0 : Int) < (kk : Int) := by omega
  have g1 : (kl : Int) < (kk : Int) := by omega
  have g2 : ((kk : Int) == 0) = false := by simp; omega
  have g3 : (kk : Int) ≠ 0 := by omega
  have e1 := ne_self (nl : Int)
  have e2 := ne_self (ml : Int)
  have zk : -9223372036854775808 ≤ (kl : Int) ∧ (kl : Int) ≤ 9223372036854775807 := by omega
  have wkl : IntKind.i64.wrap (kl : Int) = (kl : Int) := IntWalk.i64_in _ zk
  have nl31 : nl ≤ 31 := by omega
  have ml31 : ml ≤ 31 := by omega
  clear h1 h2 h3 hs ht hl q1 q2 q3 q4 q5 q6 q7 hk hnl hml hkl zk
  go_enter Try.func18, Try.ntmps18
  go_wp2_with fail
  go_at_call 35
  refine HW.out.mono ?_
  rintro e w1 ⟨rfl, hb1⟩
  have HB1 := Lib.hid hb1
  have v0 : ∀ o, (w1.alloc o).cell? ⟨h, 0, none⟩ = some (.int .i64 0) := kp_al (hb1.kp x0)
  have v0' : ∀ o, (w1.alloc o).cell? ⟨h, 1, none⟩ = some (.int .i64 0) := kp_al (hb1.kp x0')
  have v1 : ∀ o, (w1.alloc o).cell? ⟨h, kl * 2, none⟩ = some (.int .i64 (nl : Int)) := kp_al (hb1.kp x1)
  have v1' : ∀ o, (w1.alloc o).cell? ⟨h, kl * 2 + 1, none⟩ = some (.int .i64 (ml : Int)) := kp_al (hb1.kp x1')
  have HE : Hid (Bk (w1.alloc (.cells #[.int .i64 (nl : Int), .int .i64 (ml : Int)] 64)) w1.heap.size 64 #[.int .i64 (nl : Int), .int .i64 (ml : Int)]) := Bk.nw _ _ _
  have v2 : (w1.alloc (.cells #[.int .i64 (nl : Int), .int .i64 (ml : Int)] 64)).cell? ⟨w1.heap.size, 0, none⟩ = some (.int .i64 (nl : Int)) := HE.out.cell 0
  have v2' : (w1.alloc (.cells #[.int .i64 (nl : Int), .int .i64 (ml : Int)] 64)).cell? ⟨w1.heap.size, 1, none⟩ = some (.int .i64 (ml : Int)) := HE.out.cell 1
  clear hb1 x0 x0' x1 x1'
  go_wp2_with fail
  go_quiet (fail)
  obtain ⟨w2, hw2⟩ : ∃ W, W = (w1.alloc (.cells #[.int .i64 (nl : Int), .int .i64 (ml : Int)] 64)).drewN nq := ⟨_, rfl⟩
  have HB2 : Hid (Bel w w2) := by rw [hw2]; exact (HB1.out.al _).drwN _
  obtain ⟨ge, hge⟩ : ∃ g, w1.heap.size = g := ⟨_, rfl⟩
  rw [← hw2]
  rw [hge] at HE
  have HE2 : Hid (Bk w2 ge 64 #[.int .i64 (nl : Int), .int .i64 (ml : Int)]) := by rw [hw2]; exact HE.out.drwN _
  try simp only [hge]
  clear hw2 v0 v0' v1 v1' v2 v2' hge HE e1 e2 g2 g3 g1 hkli wkl
  go_wp2
  go_loopw [12, 51] (fun s12 s51 wr => ∃ (t : Nat) (V : World) (q : Int), V = wr ∧ t ≤ kk ∧ s51 = .int .i64 (t : Int) ∧ s12 = .int .i64 q ∧ q = cs L M (l.take t) ∧ 0 ≤ q ∧ q ≤ 4000000 * (t : Int) ∧ Bel w wr ∧ Bk wr ge 64 #[.int .i64 (nl : Int), .int .i64 (ml : Int)]) (fun _ s51 _ => kk - (intOf s51).toNat)
  case atStart => exact ⟨0, _, 0, rfl, by omega, rfl, rfl, by simp [cs], by omega, by omega, HB2.out, HE2.out⟩
  case round =>
    clear HB2 HE2 HB1
    obtain ⟨t, wr, q, hwr, ht, rfl, rfl, hq, q0, q1, hb, he⟩ := hrel
    subst hwr
    have HB := Lib.hid hb
    have HE := Lib.hid he
    have HQ := Lib.hid hq
    rcases Nat.lt_or_ge t kk with hlt | hge
    · obtain ⟨ct, ct'⟩ := (H3.out.bel hb).at t hlt
      obtain ⟨hB, hi, hj⟩ := HB6.out t hlt
      have hcs := cs_take (X := L) (Y := M) (l := l) (t := t) (by rw [HK5.out.2]; exact hlt)
      rw [← hq] at hcs
      have HF := Lib.hid (fun (t' : Nat) (h : t = t' + 1) => HF7.out t' (by omega))
      have PV := Lib.hid (fun (t' : Nat) (h : t = t' + 1) => (H3.out.bel hb).at t' (by omega))
      obtain ⟨p, hp⟩ : ∃ p, l.getD t (0, 0) = p := ⟨_, rfl⟩
      have HFP : Hid (∀ (t' : Nat), t = t' + 1 → Fol (l.getD t' (0, 0)).1 (l.getD t' (0, 0)).2 p.1 p.2) := fun t' h => by
        have := HF.out t' h
        rwa [← h, hp] at this
      rw [hp] at ct ct' hB hi hj hcs
      obtain ⟨i, j⟩ := p
      simp only at ct ct' hB hi hj hcs
      have hin : i ≤ nl := by rw [← HNL.out.1]; exact hi
      have hjm : j ≤ ml := by rw [← HNL.out.2.1]; exact hj
      obtain ⟨ad, rfl, _, hac⟩ := (H1.out.bel hb).2 (by omega)
      obtain ⟨ad', rfl, _, hac'⟩ := (H2.out.bel hb).2 (by omega)
      have cx := hac i (by omega)
      have cy := hac' j (by omega)
      have px := HX.out.at i
      have py := HY.out.at j
      have ec : cst L M i j = (L.getD i 0 - M.getD j 0) * (L.getD i 0 - M.getD j 0) := rfl
      rw [ec] at hcs
      obtain ⟨x, hx⟩ : ∃ x, L.getD i 0 = x := ⟨_, rfl⟩
      obtain ⟨y, hy⟩ : ∃ x, M.getD j 0 = x := ⟨_, rfl⟩
      rw [hx] at cx px hcs
      rw [hy] at cy py hcs
      obtain ⟨d1, hd1⟩ : ∃ d, x - y = d := ⟨_, rfl⟩
      rw [hd1] at hcs
      have hsq := sq_bd (B := 2000) (x := d1) (by omega) (by omega)
      have HSQ : Hid (∀ W, _) := fun W => square_ok d1 (by omega) (by omega) W
      obtain ⟨r, hr⟩ : ∃ r, d1 * d1 = r := ⟨_, rfl⟩
      rw [hr] at hcs hsq HSQ
      have HN : Hid (q + r = cs L M (l.take (t + 1))) := hcs.symm
      have HBN : Hid (0 ≤ q + r ∧ q + r ≤ 4000000 * ((t + 1 : Nat) : Int)) := by show _ ∧ _; omega
      obtain ⟨d0, hd0⟩ : ∃ d, (i : Int) - (j : Int) = d := ⟨_, rfl⟩
      have HAB : Hid (∀ W, _) := fun W => abs_ok d0 (by omega) (by omega) W
      have hab : ab d0 ≤ b := by have := hB.1; have := hB.2; unfold ab; split <;> omega
      obtain ⟨r0, hr0⟩ : ∃ r, ab d0 = r := ⟨_, rfl⟩
      rw [hr0] at HAB hab
      have ti : (t : Int) < (kk : Int) := by omega
      have f1 : ¬ (nl : Int) < (i : Int) := by omega
      have f1d : decide ((nl : Int) < (i : Int)) = false := decide_eq_false f1
      have f2 : ¬ (ml : Int) < (j : Int) := by omega
      have f2d : decide ((ml : Int) < (j : Int)) = false := decide_eq_false f2
      have f1n : ¬ nl < i := by omega
      have f1nd : decide (nl < i) = false := decide_eq_false f1n
      have f2n : ¬ ml < j := by omega
      have f2nd : decide (ml < j) = false := decide_eq_false f2n
      have f3 : ¬ b < r0 := by omega
      have f3d : decide (b < r0) = false := decide_eq_false f3
      have ii : (i : Int) < (n : Int) := by omega
      have jj : (j : Int) < (m : Int) := by omega
      have wd0 : IntKind.i64.wrap d0 = d0 := IntWalk.i64_in _ (by omega)
      have wd1 : IntKind.i64.wrap d1 = d1 := IntWalk.i64_in _ (by omega)
      have wqr : IntKind.i64.wrap (q + r) = q + r := IntWalk.i64_in _ (by omega)
      have BN : Hid (Bk (wr.alloc (.cells #[.int .i64 (i : Int), .int .i64 (j : Int)] 64)) wr.heap.size 64 #[.int .i64 (i : Int), .int .i64 (j : Int)]) := Bk.nw _ _ _
      have p0 := BN.out.cell 0
      have p1 := BN.out.cell 1
      have en0 := kp_al (he.cell 0) (.cells #[.int .i64 (i : Int), .int .i64 (j : Int)] 64)
      have en1 := kp_al (he.cell 1) (.cells #[.int .i64 (i : Int), .int .i64 (j : Int)] 64)
      have cxa := kp_al cx (.cells #[.int .i64 (i : Int), .int .i64 (j : Int)] 64)
      have cya := kp_al cy (.cells #[.int .i64 (i : Int), .int .i64 (j : Int)] 64)
      simp only [List.getElem?_toArray, List.getElem?_cons_zero, List.getElem?_cons_succ] at p0 p1 en0 en1
      have HIJ := Lib.hid (And.intro hin (And.intro hjm (And.intro hr hr0)))
      have HXY := Lib.hid (And.intro hx hy)
      clear hb he hq hcs hac hac' hx hy hr hr0 hB hi hj hin hjm cx cy hp px py hsq
      rcases Nat.eq_zero_or_pos t with h0 | h0
      · subst h0
        have g00 : (0 : Int) < (kk : Int) := by omega
        simp only [Nat.zero_mul, Nat.zero_add] at ct ct'
        go_wp2_with fail
        go_quiet ((go_at_call 43; exact quiet_same (HAB.out _)))
        obtain ⟨V, hV⟩ : ∃ W, W = (wr.alloc (.cells #[.int .i64 (i : Int), .int .i64 (j : Int)] 64)).drewN nq := ⟨_, rfl⟩
        have F1 : V.cell? ⟨wr.heap.size, 0, none⟩ = some (.int .i64 (i : Int)) := by rw [hV]; exact p0
        have F2 : V.cell? ⟨wr.heap.size, 1, none⟩ = some (.int .i64 (j : Int)) := by rw [hV]; exact p1
        have F3 : V.cell? (ad.add i) = some (.int .i64 x) := by rw [hV]; exact cxa
        have F4 : V.cell? (ad'.add j) = some (.int .i64 y) := by rw [hV]; exact cya
        have HBW : Hid (Bel w V) := by rw [hV]; exact (HB.out.al _).drwN _
        have HEW : Hid (Bk V ge 64 #[.int .i64 (nl : Int), .int .i64 (ml : Int)]) := by rw [hV]; exact (HE.out.al _).drwN _
        rw [← hV]
        clear hV p0 p1 en0 en1 cxa cya ct ct'
        go_wp2_with fail
        go_region_held3 (fun w' => w'.cell? ⟨wr.heap.size, 0, none⟩ = some (.int .i64 (i : Int)) ∧ w'.cell? ⟨wr.heap.size, 1, none⟩ = some (.int .i64 (j : Int)) ∧ w'.cell? (ad.add i) = some (.int .i64 x) ∧ w'.cell? (ad'.add j) = some (.int .i64 y))
          ((refine ⟨?_, ?_, ?_, ?_⟩) <;> (repeat (first | exact F1 | exact F2 | exact F3 | exact F4 | (with_reducible refine kp_drwN ?_ _) | (with_reducible refine kp_drw ?_))))
          (first | (go_at_call 44; refine (HSQ.out _).mono ?_; rintro e' w7 ⟨rfl, rfl⟩))
        all_goals
          go_wp2
          go_roundw
          case rel => exact ⟨0 + 1, _, _, rfl, by omega, by go_num, rfl, HN.out, HBN.out.1, HBN.out.2, by repeat (first | exact HBW.out | (with_reducible refine Bel.drwN ?_ _) | (with_reducible refine Bel.drw ?_)), by first | exact HEW.out | exact HEW.out.drw | exact HEW.out.drw.drw | exact HEW.out.drwN _⟩
          case measure => simp [intOf]; omega
      · obtain ⟨t', ht'⟩ : ∃ t', t = t' + 1 := ⟨t - 1, by omega⟩
        have hti : (t : Int) - 1 = (t' : Int) := by omega
        have h0i : (0 : Int) < (t : Int) := by omega
        obtain ⟨pv, pv'⟩ := PV.out t' ht'
        have hfo := HFP.out t' ht'
        obtain ⟨o, ho⟩ : ∃ p, l.getD t' (0, 0) = p := ⟨_, rfl⟩
        rw [ho] at pv pv' hfo
        obtain ⟨o1, o2⟩ := o
        simp only at pv pv' hfo
        have HFO : Hid (∀ W, _) := fun W => follows_ok (o1 : Int) (o2 : Int) (i : Int) (j : Int) (by omega) (by omega) (by have := HIJ.out.1; omega) (by have := HIJ.out.2.1; omega) (by unfold Fol at hfo; omega) W
        have pva := kp_al pv (.cells #[.int .i64 (i : Int), .int .i64 (j : Int)] 64)
        have pva' := kp_al pv' (.cells #[.int .i64 (i : Int), .int .i64 (j : Int)] 64)
        have t'k : (t' : Int) < (kk : Int) := by omega
        have wt' : IntKind.i64.wrap (t' : Int) = (t' : Int) := IntWalk.i64_in _ (by omega)
        have HPT := Lib.hid (And.intro ht' ho)
        clear pv pv' hfo ht' ho
        go_wp2_with fail
        go_region_held3 (fun w' => w'.cell? ⟨wr.heap.size, 0, none⟩ = some (.int .i64 (i : Int)) ∧ w'.cell? ⟨wr.heap.size, 1, none⟩ = some (.int .i64 (j : Int)) ∧ w'.cell? ⟨ge, 0, none⟩ = some (.int .i64 (nl : Int)) ∧ w'.cell? ⟨ge, 1, none⟩ = some (.int .i64 (ml : Int)) ∧ w'.cell? ⟨h, t' * 2, none⟩ = some (.int .i64 (o1 : Int)) ∧ w'.cell? ⟨h, t' * 2 + 1, none⟩ = some (.int .i64 (o2 : Int)))
          ((refine ⟨?_, ?_, ?_, ?_, ?_, ?_⟩) <;> (repeat (first | exact p0 | exact p1 | exact en0 | exact en1 | exact pva | exact pva' | (with_reducible refine kp_drwN ?_ _) | (with_reducible refine kp_drw ?_) | (refine Bel.kp (by assumption) ?_))))
          (first | (go_at_call 43; refine (HAB.out _).mono ?_; rintro e' w7 ⟨rfl, rfl⟩) | (go_at_call 42; refine (HFO.out _).mono ?_; rintro e' w8 ⟨rfl, hb8⟩))
        all_goals
          have HB8 : Hid (Bel (wr.alloc (.cells #[.int .i64 (i : Int), .int .i64 (j : Int)] 64)) w8) := Bel.tr (by repeat (first | exact Bel.rf | (with_reducible refine Bel.drwN ?_ _) | (with_reducible refine Bel.drw ?_))) hb8
          clear hb8
          have F1 := HB8.out.kp p0
          have F2 := HB8.out.kp p1
          have F3 := HB8.out.kp cxa
          have F4 := HB8.out.kp cya
          have HBW : Hid (Bel w w8) := (HB.out.al _).tr HB8.out
          have HEW : Hid (Bk w8 ge 64 #[.int .i64 (nl : Int), .int .i64 (ml : Int)]) := (HE.out.al _).bel HB8.out
          clear p0 p1 en0 en1 cxa cya pva pva'
          go_wp2_with fail
          go_region_held3 (fun w' => w'.cell? ⟨wr.heap.size, 0, none⟩ = some (.int .i64 (i : Int)) ∧ w'.cell? ⟨wr.heap.size, 1, none⟩ = some (.int .i64 (j : Int)) ∧ w'.cell? (ad.add i) = some (.int .i64 x) ∧ w'.cell? (ad'.add j) = some (.int .i64 y))
            ((refine ⟨?_, ?_, ?_, ?_⟩) <;> (repeat (first | exact F1 | exact F2 | exact F3 | exact F4 | (with_reducible refine kp_drwN ?_ _) | (with_reducible refine kp_drw ?_))))
            (first | (go_at_call 44; refine (HSQ.out _).mono ?_; rintro e' w7 ⟨rfl, rfl⟩))
          all_goals
            go_wp2
            go_roundw
            case rel => exact ⟨t + 1, _, _, rfl, by omega, by go_num, rfl, HN.out, HBN.out.1, HBN.out.2, by repeat (first | exact HBW.out | (with_reducible refine Bel.drwN ?_ _) | (with_reducible refine Bel.drw ?_)), by first | exact HEW.out | exact HEW.out.drw | exact HEW.out.drw.drw | exact HEW.out.drwN _⟩
            case measure => simp [intOf]; omega
    · obtain rfl : kk = t := by omega
      rw [List.take_of_length_le (by rw [HK5.out.2]; exact Nat.le_refl _)] at hq
      have HF : Hid (q = K) := hq.trans HK5.out.1.symm
      clear hb he hq
      go_wp2
      go_ret2
      exact ⟨by rw [HF.out]; rfl, HB.out⟩
end Go.Proofs.Ytkjffielnmdpcaa.Wa
