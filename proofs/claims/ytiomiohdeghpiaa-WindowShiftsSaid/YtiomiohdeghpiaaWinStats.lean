/- The contracts of window.Stats and Variance over samples, of keep's Ints, and of the law's awake. -/
import Derived.Test.YtiomiohdeghpiaaWinSums
namespace Go.Proofs.Ytiomiohdeghpiaa.Wi
open Go.ChangeShapes Go.WideShapes Go.RowKit Wo Sr
set_option linter.unusedVariables false
set_option maxHeartbeats 8000000 in
set_option maxRecDepth 100000 in
theorem stats_in (g1 c1 g2 c2 n i k : Nat) (L : List Int) (hn : n ≤ 2000) (hl : L.length = n) (hik : i + k ≤ n) (hs : Sam L) (w : World) (h1 : Zi w (some ⟨g1, 0, none⟩) (n + 1) (begs ix L)) (h2 : Zi w (some ⟨g2, 0, none⟩) (n + 1) (begs sq L)) :
    Calls Try.prog 37 #[.agg #[.slice (some ⟨g1, 0, none⟩) (n + 1) c1, .slice (some ⟨g2, 0, none⟩) (n + 1) c2], .int .i64 (i : Int), .int .i64 (k : Int)] w fun e w' => e = .returned (.agg #[.int .i64 (k : Int), .int .i64 (su ix ((L.drop i).take k)), .int .i64 (su sq ((L.drop i).take k))]) ∧ Bel w w' := by
  have d1 := h1.at (i + k) (by omega)
  have d2 := h1.at i (by omega)
  have d3 := h2.at (i + k) (by omega)
  have d4 := h2.at i (by omega)
  rw [begs_at _ _ _ (by omega)] at d1 d2 d3 d4
  have p1 := su_part ix L i k
  have p2 := su_part sq L i k
  have b1 := su_in (hs.take (i + k))
  have b2 := su_in (hs.take i)
  have b3 := sq_su_in (hs.take (i + k))
  have b4 := sq_su_in (hs.take i)
  have t1 : ((L.take (i + k)).length : Int) ≤ 2000 ∧ ((L.take i).length : Int) ≤ 2000 := by have := List.length_take_le (i + k) L; have := List.length_take_le i L; omega
  generalize su ix (L.take (i + k)) = x1 at *
  generalize su ix (L.take i) = x2 at *
  generalize su sq (L.take (i + k)) = x3 at *
  generalize su sq (L.take i) = x4 at *
  generalize su ix ((L.drop i).take k) = y1 at *
  generalize su sq ((L.drop i).take k) = y2 at *
  have HY := Lib.hid (And.intro p1 p2)
  have r : -2000000 ≤ x1 ∧ x1 ≤ 2000000 ∧ -2000000 ≤ x2 ∧ x2 ≤ 2000000 ∧ 0 ≤ x3 ∧ x3 ≤ 2000000000 ∧ 0 ≤ x4 ∧ x4 ≤ 2000000000 := by omega
  obtain ⟨r1, r2, r3, r4, r5, r6, r7, r8⟩ := r
  have ki : (k : Int) ≤ 2000 := by omega
  have ii : (i : Int) ≤ 2000 := by omega
  have e1 : ∀ o o', ((w.alloc o).alloc o').cell? ⟨g1, i + k, none⟩ = some (.int .i64 x1) := fun o o' => kp_al (kp_al d1 o) o'
  have e2 : ∀ o o', ((w.alloc o).alloc o').cell? ⟨g1, i, none⟩ = some (.int .i64 x2) := fun o o' => kp_al (kp_al d2 o) o'
  have e3 : ∀ o o', ((w.alloc o).alloc o').cell? ⟨g2, i + k, none⟩ = some (.int .i64 x3) := fun o o' => kp_al (kp_al d3 o) o'
  have e4 : ∀ o o', ((w.alloc o).alloc o').cell? ⟨g2, i, none⟩ = some (.int .i64 x4) := fun o o' => kp_al (kp_al d4 o) o'
  have q1 : i + k < n + 1 := by omega
  have q2 : i < n + 1 := by omega
  have q3 : (i : Int) + (k : Int) < ((n : Int) + 1) := by omega
  have q4 : (i : Int) < ((n : Int) + 1) := by omega
  have HS := Lib.hid hs
  clear h1 h2 d1 d2 d3 d4 p1 p2 b1 b2 b3 b4 t1 hs
  go_enter Try.func37, Try.ntmps37
  go_wp2
  go_region
  all_goals (try go_wp2)
  all_goals
    refine bodyPost_ret (v := .agg #[.int .i64 (k : Int), .int .i64 (x1 - x2), .int .i64 (x3 - x4)]) (by simp [results, Try.results37, go_sem]) rfl ⟨?_, ?_⟩
    · rw [HY.out.1, HY.out.2]
    · repeat (first | assumption | exact Bel.rf | (with_reducible refine Bel.drwN ?_ _) | (with_reducible refine Bel.drw ?_) | (with_reducible refine Bel.al ?_ _) | ((with_reducible refine Bel.st2 ?_ ?_ _); (show _ ≤ _); (simp only []; omega)))
set_option maxHeartbeats 8000000 in
set_option maxRecDepth 100000 in
theorem stats_ok (g1 c1 g2 c2 n i k : Nat) (L : List Int) (hn : n ≤ 2000) (hl : L.length = n) (hik : i + k ≤ n) (hk : 1 ≤ k) (hs : Sam L) (w : World) (h1 : Zi w (some ⟨g1, 0, none⟩) (n + 1) (begs ix L)) (h2 : Zi w (some ⟨g2, 0, none⟩) (n + 1) (begs sq L)) :
    Calls Try.prog 22 #[.agg #[.slice (some ⟨g1, 0, none⟩) (n + 1) c1, .slice (some ⟨g2, 0, none⟩) (n + 1) c2], .int .i64 (i : Int), .int .i64 (k : Int)] w fun e w' => e = .returned (.tuple #[.agg #[.int .i64 (k : Int), .int .i64 (su ix ((L.drop i).take k)), .int .i64 (su sq ((L.drop i).take k))], .int .i64 0]) ∧ Bel w w' := by
  have HV : Hid (∀ W, Bel w W → Calls Try.prog 39 #[.agg #[.slice (some ⟨g1, 0, none⟩) (n + 1) c1, .slice (some ⟨g2, 0, none⟩) (n + 1) c2]] W fun e w' => e = .returned (.bool true) ∧ Bel W w') := fun W hW => valid_ok g1 c1 g2 c2 n L hn hl hs W (h1.bel hW) (h2.bel hW)
  have HT : Hid (∀ W, Bel w W → Calls Try.prog 37 #[.agg #[.slice (some ⟨g1, 0, none⟩) (n + 1) c1, .slice (some ⟨g2, 0, none⟩) (n + 1) c2], .int .i64 (i : Int), .int .i64 (k : Int)] W fun e w' => e = .returned (.agg #[.int .i64 (k : Int), .int .i64 (su ix ((L.drop i).take k)), .int .i64 (su sq ((L.drop i).take k))]) ∧ Bel W w') := fun W hW => stats_in g1 c1 g2 c2 n i k L hn hl hik hs W (h1.bel hW) (h2.bel hW)
  generalize su ix ((L.drop i).take k) = y1 at *
  generalize su sq ((L.drop i).take k) = y2 at *
  have ki : (k : Int) ≤ 2000 := by omega
  have ii : (i : Int) ≤ 2000 := by omega
  have ni : (n : Int) ≤ 2000 := by omega
  have k1 : 1 ≤ (k : Int) := by omega
  have q1 : (k : Int) < (n : Int) + 1 := by omega
  have q2 : (i : Int) < (n : Int) + 1 - (k : Int) := by omega
  clear h1 h2 hs
  go_enter Try.func22, Try.ntmps22
  go_wp2_with fail
  go_at_call 39
  refine (HV.out _ ((Bel.rf.al _).al _)).mono ?_
  rintro e w1 ⟨rfl, hb1⟩
  have HB1 : Hid (Bel w w1) := ((Bel.rf.al _).al _).tr hb1
  have HK1 : Bk w1 w.heap.size 24 #[.slice (some ⟨g1, 0, none⟩) (n + 1) c1, .slice (some ⟨g2, 0, none⟩) (n + 1) c2] := ((Bk.nw _ _ _).al _).bel hb1
  have HR1 : Bk w1 (w.heap.size + 1) 26 #[.int .i64 0, .int .i64 0, .int .i64 0] := (Bk.nq _ _ _ (by simp)).bel hb1
  have l0 : w1.cell? ⟨w.heap.size, 0, none⟩ = some (.slice (some ⟨g1, 0, none⟩) (n + 1) c1) := HK1.cell 0
  have l1 : w1.cell? ⟨w.heap.size, 1, none⟩ = some (.slice (some ⟨g2, 0, none⟩) (n + 1) c2) := HK1.cell 1
  have HRR := Lib.hid HR1
  clear hb1 HK1 HR1
  go_wp2_with fail
  go_at_call 37
  refine (HT.out _ HB1.out).mono ?_
  rintro e w2 ⟨rfl, hb2⟩
  have HB2 := Lib.hid (HB1.out.tr hb2)
  have R2 := HRR.out.bel hb2
  have j0 : w2.cell? ⟨w.heap.size + 1, 0, none⟩ = some (.int .i64 0) := R2.cell 0
  have j1 : w2.cell? ⟨w.heap.size + 1, 1, none⟩ = some (.int .i64 0) := R2.cell 1
  have j2 : w2.cell? ⟨w.heap.size + 1, 2, none⟩ = some (.int .i64 0) := R2.cell 2
  have f0 := R2.fr 0
  have f1 := R2.fr 1
  have f2 := R2.fr 2
  clear hb2 l0 l1 R2
  go_wp2
  refine bodyPost_ret (v := .tuple #[.agg #[.int .i64 (k : Int), .int .i64 y1, .int .i64 y2], .int .i64 0]) (by simp [results, Try.results22, go_sem, j0, j1, j2]) rfl ⟨rfl, ?_⟩
  exact ((HB2.out.st (by show _ ≤ _; simp only []; omega) _).st (by show _ ≤ _; simp only []; omega) _).st (by show _ ≤ _; simp only []; omega) _
set_option maxHeartbeats 4000000 in
theorem vari_ok (c : Nat) (S Q : Int) (h0 : 1 ≤ c) (h1 : c ≤ 2000) (s0 : -(1000 * (c : Int)) ≤ S) (s1 : S ≤ 1000 * (c : Int)) (q0 : 0 ≤ Q) (q1 : Q ≤ 1000000 * (c : Int)) (V : Int) (hV : (c : Int) * Q - S * S = V) (v0 : 0 ≤ V) (w : World) :
    Calls Try.prog 24 #[.agg #[.int .i64 (c : Int), .int .i64 S, .int .i64 Q]] w fun e w' => e = .returned (.int .i64 V) ∧ Bel w w' := by
  have ci : (c : Int) ≤ 2000 := by omega
  have ci1 : 1 ≤ (c : Int) := by omega
  have a1 : 0 ≤ (c : Int) * Q ∧ (c : Int) * Q ≤ 2000 * 2000000000 := ⟨Int.mul_nonneg (by omega) q0, Int.mul_le_mul ci (by omega) q0 (by omega)⟩
  have a2 : 0 ≤ S * S := sq_nn S
  have a3 : S * S ≤ 2000 * 2000000000 := by omega
  obtain ⟨a1, a4⟩ := a1
  have w1 : wrap64 ((c : Int) * Q) = (c : Int) * Q := IntWalk.wrap64_in _ (by omega)
  have w2 : wrap64 (S * S) = S * S := IntWalk.wrap64_in _ (by omega)
  have w3 : IntKind.i64.wrap ((c : Int) * Q) = (c : Int) * Q := IntWalk.i64_in _ (by omega)
  have w4 : IntKind.i64.wrap (S * S) = S * S := IntWalk.i64_in _ (by omega)
  have HV := Lib.hid (And.intro hV v0)
  clear hV v0
  have u1 : ¬ (c : Int) < 1 := by omega
  have u2 : ¬ 2000 < (c : Int) := by omega
  have u3 : ¬ S < -(1000 * (c : Int)) := by omega
  have u4 : ¬ 1000 * (c : Int) < S := by omega
  have u5 : ¬ Q < 0 := by omega
  have u6 : ¬ 1000 * (1000 * (c : Int)) < Q := by omega
  go_enter Try.func24, Try.ntmps24
  go_wp2
  go_ret
  exact ⟨ret_int (by have := HV.out; omega), Bel.rf.al _⟩
theorem row_form {w : World} {base n : Nat} {v : Value} {L : List Int} (h : w.ownsRow base 3 1 v n (zs L)) (hn : 0 < n) : ∃ g c, v = .slice (some ⟨g, 0, none⟩) n c ∧ n ≤ c ∧ base ≤ g := by
  rcases h.2 with ⟨_, h0⟩ | ⟨g, cap, cur, hv, hb, hg, h1, _⟩
  · omega
  · exact ⟨g, cap, hv, h1, hb⟩
theorem ne_self (x : Int) : (x != x) = false := by simp
set_option maxHeartbeats 4000000 in
theorem ints_same (A A' : Option Addr) (c c' n : Nat) (L : List Int) (hn : n ≤ 1000000) (w : World) (h1 : Zi w A n L) (h2 : Zi w A' n L) :
    Calls Try.prog 28 #[.slice A n c, .slice A' n c'] w fun e w' => e = .returned (.bool true) ∧ Bel w w' := by
  have H1 := Lib.hid h1
  have H2 := Lib.hid h2
  have ni : (n : Int) ≤ 1000000 := by omega
  clear h1 h2
  go_enter Try.func28, Try.ntmps28
  go_wp2
  go_loopw [13] (fun s13 wr => ∃ (k : Nat) (V : World), V = wr ∧ k ≤ n ∧ s13 = .int .i64 (k : Int) ∧ Bel w wr) (fun s13 _ => n - (intOf s13).toNat)
  case atStart => exact ⟨0, _, rfl, by omega, rfl, Bel.rf⟩
  case round =>
    obtain ⟨k, wr, hwr, hk, rfl, hb⟩ := hrel
    subst hwr
    have HB := Lib.hid hb
    rcases Nat.lt_or_ge k n with hlt | hge
    · obtain ⟨ad, rfl, hab, hac⟩ := (H1.out.bel hb).2 (by omega)
      obtain ⟨ad', rfl, hab', hac'⟩ := (H2.out.bel hb).2 (by omega)
      have c1 := hac k hlt
      have c2 := hac' k hlt
      obtain ⟨x, hx⟩ : ∃ x, L.getD k 0 = x := ⟨_, rfl⟩
      rw [hx] at c1 c2
      have ki : (k : Int) < (n : Int) := by omega
      have kn := ne_self x
      clear hb hac hac' hab hab' hx
      go_wp2
      go_quiet (fail)
      go_wp2
      go_roundw
      case rel => exact ⟨k + 1, _, rfl, by omega, by go_num, HB.out.drwN _⟩
      case measure => simp [intOf]; omega
    · obtain rfl : k = n := by omega
      clear hb
      go_wp2
      go_ret
      exact ⟨rfl, HB.out⟩
theorem sam_ex : Sam [3, -1, 2] := by simp [Sam]
set_option maxHeartbeats 4000000 in
set_option maxRecDepth 100000 in
theorem awake_any (w : World) : Calls Try.prog 9 #[] w fun e w' => e = .returned (.bool true) ∧ Bel w w' := by
  go_enter Try.func9, Try.ntmps9
  go_wp2_with fail
  go_at_call 14
  refine (of_ok (some ⟨w.heap.size, 0, none⟩) 3 3 [3, -1, 2] (by decide) sam_ex _ (zi_bk (h := w.heap.size) (t := 3) (Bk.nw _ _ _) 3 rfl)).mono ?_
  rintro e w1 ⟨g1, c1, g2, c2, rfl, hz1, hz2, hb1⟩
  have HB1 := Lib.hid ((Bel.rf.al _).tr hb1)
  have HZ1 := Lib.hid hz1
  have HZ2 := Lib.hid hz2
  clear hb1 hz1 hz2
  go_wp2_with fail
  go_at_call 22
  refine (stats_ok g1 c1 g2 c2 3 1 2 [3, -1, 2] (by decide) rfl (by decide) (by decide) sam_ex _ (HZ1.out.bel (Bel.rf.al _)) (HZ2.out.bel (Bel.rf.al _))).mono ?_
  rintro e w2 ⟨rfl, hb2⟩
  have K2 : Bk w2 w1.heap.size 24 #[.slice (some ⟨g1, 0, none⟩) (3 + 1) c1, .slice (some ⟨g2, 0, none⟩) (3 + 1) c2] := (Bk.nw _ _ _).bel hb2
  have l0 : w2.cell? ⟨w1.heap.size, 0, none⟩ = some (.slice (some ⟨g1, 0, none⟩) 4 c1) := K2.cell 0
  have l1 : w2.cell? ⟨w1.heap.size, 1, none⟩ = some (.slice (some ⟨g2, 0, none⟩) 4 c2) := K2.cell 1
  have l2 : ∀ o, (w2.alloc o).cell? ⟨w1.heap.size, 0, none⟩ = some (.slice (some ⟨g1, 0, none⟩) 4 c1) := fun o => kp_al l0 o
  have HB2 : Hid (Bel w1 w2) := (Bel.rf.al _).tr hb2
  have y1 : su ix (([3, -1, 2] : List Int).drop 1 |>.take 2) = 1 := by decide
  have y2 : su sq (([3, -1, 2] : List Int).drop 1 |>.take 2) = 5 := by decide
  rw [y1, y2]
  clear hb2 y1 y2
  go_wp2_with fail
  go_at_call 28
  refine (ints_same (some ⟨g1, 0, none⟩) (some ⟨w2.heap.size + 1, 0, none⟩) c1 4 4 [0, 3, 2, 4] (by decide) _ ((HZ1.out.bel HB2.out).bel ((Bel.rf.al _).al _)) (zi_bk (h := w2.heap.size + 1) (t := 3) (Bk.nq _ _ _ (by simp)) 4 rfl)).mono ?_
  rintro e w3 ⟨rfl, hb3⟩
  have HB3 : Hid (Bel w2 w3) := ((Bel.rf.al _).al _).tr hb3
  have K3 : Bk w3 w2.heap.size 26 #[.int .i64 2, .int .i64 1, .int .i64 5] := ((Bk.nw _ _ _).al _).bel hb3
  have m0 : w3.cell? ⟨w2.heap.size, 0, none⟩ = some (.int .i64 2) := K3.cell 0
  have m1 : w3.cell? ⟨w2.heap.size, 1, none⟩ = some (.int .i64 1) := K3.cell 1
  have m2 : w3.cell? ⟨w2.heap.size, 2, none⟩ = some (.int .i64 5) := K3.cell 2
  clear hb3 K3 l0 l1 l2 K2
  go_wp2_with (go_at_call 24; refine (vari_ok 2 1 5 (by decide) (by decide) (by decide) (by decide) (by decide) (by decide) 9 (by decide) (by decide) _).mono ?_; rintro e w4 ⟨rfl, hb4⟩)
  go_ret
  exact ⟨rfl, ((HB1.out.tr HB2.out).tr HB3.out).tr hb4⟩
end Go.Proofs.Ytiomiohdeghpiaa.Wi
