/- whole.Ceil; the pieces' lengths, the residual and the validity of the sketch of a window. -/
import Derived.Test.YtgdhgeongdenpaaSkM
import Derived.Test.YtgdhgeongdenpaaPieC
import Derived.Test.YtgdhgeongdenpaaHalf
import Derived.Test.YtgdhgeongdenpaaRootWalks
import Derived.Test.YtgdhgeongdenpaaApp
namespace Go.Proofs.Ytgdhgeongdenpaa.Sk
open Go.ChangeShapes Go.WideShapes Go.RowKit Wo Sr Wi Nr Pc Eu
set_option linter.unusedVariables false
theorem ceil_any (a b : Int) (h1 : 1 ≤ b) (h2 : b ≤ 4611686018427387904) (h3 : -4611686018427387904 ≤ a) (h4 : a ≤ 4611686018427387904) (w : World) :
    Calls Try.prog 108 #[.int .i64 a, .int .i64 b] w fun e w' => e = .returned (.int .i64 (cl a b)) ∧ w = w' := by
  have m := Un.fl_parts (-a) b h1
  rw [Int.neg_tmod, Int.neg_tdiv] at m
  have t := Un.td_bound a b 4611686018427387904 h1 h3 h4
  have t0 := t.1
  have t1 := t.2
  have hne : b ≠ 0 := by omega
  have e1 := m.2.2.1
  have e2 := m.2.2.2
  have tw : IntKind.i64.wrap (a.tdiv b) = a.tdiv b := IntWalk.i64_in _ (by omega)
  have tw2 : IntKind.i64.wrap (a.tdiv b + 1) = a.tdiv b + 1 := IntWalk.i64_in _ (by omega)
  rcases Int.lt_or_le 0 (a.tmod b) with h | h
  · have HE : Hid (a.tdiv b + 1 = cl a b) := by have := m.1 (by omega); show _ = _; unfold cl; omega
    clear m t
    go_enter Try.func108, Try.ntmps108
    go_wp2
    go_ret
    exact ⟨ret_int HE.out, rfl⟩
  · have HE : Hid (a.tdiv b = cl a b) := by have := m.2.1 (by omega); show _ = _; unfold cl; omega
    clear m t
    go_enter Try.func108, Try.ntmps108
    go_wp2
    go_ret
    exact ⟨ret_int HE.out, rfl⟩
/-- the lengths of the pieces -/
def lns (m n : Nat) : List Int := (List.range n).map fun k => (ln m n k : Int)
theorem lns_len (m n : Nat) : (lns m n).length = n := by simp [lns]
theorem lns_at (m n k : Nat) (h : k < n) : (lns m n).getD k 0 = (ln m n k : Int) := by
  rw [List.getD_eq_getElem?_getD, lns, List.getElem?_map, List.getElem?_range h]; rfl
theorem sts_at (m n k : Nat) (n1 : 1 ≤ n) (h : k ≤ n) : (sts m n).getD k 0 = (st m n k : Int) := by
  rw [List.getD_eq_getElem?_getD]
  unfold sts
  rcases Nat.lt_or_ge k n with h1 | h1
  · rw [List.getElem?_append_left (by simpa using h1), List.getElem?_map, List.getElem?_range h1]; rfl
  · obtain rfl : k = n := by omega
    rw [List.getElem?_append_right (by simp)]
    simp [st_all m k n1]
/-- the value of a sketch -/
def skv (a c m n : Nat) (E : Int) : Value := .agg #[.int .i64 (m : Int), .slice (some ⟨a, 0, none⟩) n c, .int .i64 E]
set_option maxHeartbeats 8000000 in
set_option maxRecDepth 100000 in
theorem lengths_ok (a c m n : Nat) (E : Int) (m2 : 2 ≤ m) (m32 : m ≤ 32) (n1 : 1 ≤ n) (n8 : n ≤ 8) (nm : n ≤ m) (w : World) :
    Calls Try.prog 103 #[skv a c m n E] w fun e w' => ∃ g, e = .returned (.slice (some ⟨g, 0, none⟩) n n) ∧ w.heap.size ≤ g ∧ Bk w' g 3 (zs (lns m n)).toArray ∧ Bel w w' := by
  obtain ⟨i0, hi0, hz0, hz1, hz2⟩ := info_parts info_int
  have HI := Lib.hid (And.intro hi0 (And.intro hz0 (And.intro hz1 hz2)))
  clear hi0 hz0 hz1 hz2
  have SK : Hid (∀ W, _) := fun W => Starts_ok m n m2 m32 n1 n8 nm W
  have i1 : (n : Int) ≤ 8 := by omega
  have i2 : 1 ≤ (n : Int) := by omega
  have i3 : (m : Int) ≤ 32 := by omega
  unfold skv
  go_enter Try.func103, Try.ntmps103
  have HB0 : Hid (Bel w (w.alloc (.cells #[.int .i64 (m : Int), .slice (some ⟨a, 0, none⟩) n c, .int .i64 E] 64))) := Bel.rf.al _
  have HK0 : Hid (Bk (w.alloc (.cells #[.int .i64 (m : Int), .slice (some ⟨a, 0, none⟩) n c, .int .i64 E] 64)) w.heap.size 64 #[.int .i64 (m : Int), .slice (some ⟨a, 0, none⟩) n c, .int .i64 E]) := Bk.nw _ _ _
  go_wp2_with fail
  go_at_call 46
  refine (SK.out _).mono ?_
  rintro e w1 ⟨h1, c1, rfl, q1, q2, q3, hb1⟩
  have HZ := Lib.hid (own_zi q3 (sts_len m n))
  have HB1 := Lib.hid (HB0.out.tr hb1)
  have K1 := HK0.out.bel hb1
  have l1 : w1.cell? ⟨w.heap.size, 1, none⟩ = some (.slice (some ⟨a, 0, none⟩) n c) := K1.cell 1
  have q0 : n + 1 ≤ c1 := q1
  have q1i : (n : Int) + 1 ≤ (c1 : Int) := by omega
  have HR0 : Hid (∃ (k : Nat) (V : World), V = w1.alloc (.cells (zs (List.replicate n 0)).toArray 3) ∧ k ≤ n ∧ (Value.int .i64 0) = .int .i64 (k : Int) ∧ Bk (w1.alloc (.cells (zs (List.replicate n 0)).toArray 3)) w1.heap.size 3 (zs (fil (lns m n) k)).toArray ∧ Bel w (w1.alloc (.cells (zs (List.replicate n 0)).toArray 3)) ∧ Bel w1 (w1.alloc (.cells (zs (List.replicate n 0)).toArray 3))) :=
    ⟨0, _, rfl, by omega, rfl, by rw [fil_zero, lns_len]; exact Bk.nw _ _ _, HB1.out.al _, Bel.rf.al _⟩
  clear hb1 q3 q2 q1 K1
  go_wp2_with (refine wpList_make_any _ rfl (.tmp 20) (.tmp 20) 22 rfl 3 i0 (.int .i64 0) 1 Try.underlying22 HI.out.1 HI.out.2.1 HI.out.2.2.1 .i64 .i64 _ _ n n rfl rfl rfl rfl (by omega) (by rw [HI.out.2.2.2]; omega) (by omega) ?_; rw [made_i64])
  go_loopw [24] (fun s24 w2 => ∃ (k : Nat) (V : World), V = w2 ∧ k ≤ n ∧ s24 = .int .i64 (k : Int) ∧ Bk w2 w1.heap.size 3 (zs (fil (lns m n) k)).toArray ∧ Bel w w2 ∧ Bel w1 w2) (fun s24 _ => n - (intOf s24).toNat)
  case atStart => exact HR0.out
  case round =>
    clear HR0 l1
    obtain ⟨k, w2, hwr, hk, rfl, hbk, hb, hb1⟩ := hrel
    subst hwr
    have HB2 := Lib.hid hb
    have HB3 := Lib.hid hb1
    have HK := Lib.hid hbk
    rcases Nat.lt_or_ge k n with hlt | hge
    · have z := HZ.out.bel hb1
      have c2 := z.at (k + 1) (by omega)
      have c3 := z.at k (by omega)
      rw [sts_at m n (k + 1) n1 (by omega)] at c2
      rw [sts_at m n k n1 (by omega)] at c3
      have hs1 := st_le m n (k + 1) n1 (by omega)
      have hs2 := st_mono m n k (k + 1) (by omega)
      have HLN : Hid ((ln m n k : Int) = (st m n (k + 1) : Int) - (st m n k : Int)) := by show _ = _; unfold ln; omega
      obtain ⟨p, hp⟩ : ∃ p, st m n (k + 1) = p := ⟨_, rfl⟩
      obtain ⟨q, hq⟩ : ∃ p, st m n k = p := ⟨_, rfl⟩
      rw [hp] at c2 hs1 hs2 HLN
      rw [hq] at c3 hs2 HLN
      have p1 : (p : Int) ≤ 32 := by omega
      have p2 : (q : Int) ≤ (p : Int) := by omega
      have w1' : IntKind.i64.wrap ((p : Int) - (q : Int)) = (p : Int) - (q : Int) := IntWalk.i64_in _ (by omega)
      have e1 : w2.cell? ⟨w1.heap.size, k, none⟩ = some (.int .i64 ((fil (lns m n) k).getD k 0)) := by
        rw [hbk.cell k]
        have : (zs (fil (lns m n) k))[k]? = some (.int .i64 ((fil (lns m n) k).getD k 0)) := zs_at (by rw [fil_len _ _ (by rw [lns_len]; omega), lns_len]; omega)
        simpa using this
      have f1 : w2.frozen? ⟨w1.heap.size, k, none⟩ = false := hbk.fr k
      generalize (fil (lns m n) k).getD k 0 = q0 at e1
      have ti : (k : Int) < (n : Int) := by omega
      have ti1 : (k : Int) + 1 < (n : Int) + 1 := by omega
      have hsz := HB1.out.size
      clear hb hb1 hbk z hp hq hs1 hs2
      go_wp2
      go_region
      go_wp2
      go_roundw
      case rel =>
        refine ⟨k + 1, _, rfl, by omega, by go_num, ?_, ?_, ?_⟩
        · have h4 := HK.out.st k (.int .i64 ((p : Int) - (q : Int)))
          rw [zs_set, show (p : Int) - (q : Int) = (lns m n).getD k 0 by rw [lns_at m n k hlt]; exact HLN.out.symm, fil_set _ _ (by rw [lns_len]; omega)] at h4
          rw [show (p : Int) - (q : Int) = (lns m n).getD k 0 by rw [lns_at m n k hlt]; exact HLN.out.symm]
          first | exact h4 | exact h4.drwN _ | exact h4.drw
        · first | exact HB2.out.st (p := ⟨w1.heap.size, k, none⟩) hsz _ | exact (HB2.out.drwN _).st (p := ⟨w1.heap.size, k, none⟩) hsz _
        · first | exact HB3.out.st (p := ⟨w1.heap.size, k, none⟩) (Nat.le_refl _) _ | exact (HB3.out.drwN _).st (p := ⟨w1.heap.size, k, none⟩) (Nat.le_refl _) _
      case measure => simp [intOf]; omega
    · obtain rfl : k = n := by omega
      have hbk2 := hbk
      rw [show fil (lns m k) k = lns m k by have := fil_all (lns m k); rwa [lns_len] at this] at hbk2
      have HKK := Lib.hid hbk2
      clear hb hbk hbk2 hb1
      go_wp2
      go_ret
      exact ⟨_, rfl, HB1.out.size, HKK.out, HB2.out⟩
/-- the sums of the pieces are small -/
def Pb (X : List Int) (m n : Nat) : Prop := ∀ k, k < n → -2048000 ≤ pa X m n k ∧ pa X m n k ≤ 2048000
theorem pls_pa (X : List Int) (m n k : Nat) (h : k < n) : (pls X m n).getD k 0 = pa X m n k := pls_at X m n k h
theorem fl_bd {A l : Int} (h1 : -2048000 ≤ A) (h2 : A ≤ 2048000) (hl : 1 ≤ l) : 0 ≤ A * A ∧ A * A ≤ 4194304000000 ∧ 0 ≤ A * A / l ∧ A * A / l ≤ 4194304000000 := by
  have a := sq_bd (B := 2048000) h1 h2
  have b := Int.ediv_nonneg a.1 (show 0 ≤ l by omega)
  have c := Int.ediv_le_self l a.1
  omega
/-- the sum of the first quotients -/
def tf (X : List Int) (m n i : Nat) : Int := tq (fun k => pa X m n k * pa X m n k / (ln m n k : Int)) i
theorem tf_in {X : List Int} {m n : Nat} (h : Pb X m n) (n1 : 1 ≤ n) (nm : n ≤ m) (n8 : n ≤ 8) (i : Nat) (hi : i ≤ n) : 0 ≤ tf X m n i ∧ tf X m n i ≤ 33554432000000 := by
  have h1 := tq_fl_nn X m n i hi
  have h2 := tq_hi (f := fun k => pa X m n k * pa X m n k / (ln m n k : Int)) (n := n) (B := 4194304000000) (fun k hk => by
    have hp := ln_pos m n k n1 nm
    exact (fl_bd (h k hk).1 (h k hk).2 (by omega)).2.2.2) i hi
  unfold tf
  omega
set_option maxHeartbeats 8000000 in
set_option maxRecDepth 100000 in
theorem residual_ok (a c m n : Nat) (E : Int) (X : List Int) (hp : Pb X m n) (e0 : 0 ≤ E) (e1 : E ≤ 32768000000) (m2 : 2 ≤ m) (m32 : m ≤ 32) (n1 : 1 ≤ n) (n8 : n ≤ 8) (nm : n ≤ m) (w : World) (hz : Zi w (some ⟨a, 0, none⟩) n (pls X m n)) :
    Calls Try.prog 99 #[skv a c m n E] w fun e w' => e = .returned (.int .i64 (E - tf X m n n)) ∧ Bel w w' := by
  have LK : Hid (∀ W, Calls Try.prog 103 #[.agg #[.int .i64 (m : Int), .slice (some ⟨a, 0, none⟩) n c, .int .i64 E]] W fun e w' => ∃ g, e = .returned (.slice (some ⟨g, 0, none⟩) n n) ∧ W.heap.size ≤ g ∧ Bk w' g 3 (zs (lns m n)).toArray ∧ Bel W w') := fun W => lengths_ok a c m n E m2 m32 n1 n8 nm W
  have HP := Lib.hid hp
  have HZ := Lib.hid hz
  have i1 : (n : Int) ≤ 8 := by omega
  have i2 : 1 ≤ (n : Int) := by omega
  have i3 : (m : Int) ≤ 32 := by omega
  unfold skv
  clear hp hz
  go_enter Try.func99, Try.ntmps99
  have HB0 : Hid (Bel w (w.alloc (.cells #[.int .i64 (m : Int), .slice (some ⟨a, 0, none⟩) n c, .int .i64 E] 64))) := Bel.rf.al _
  have HK0 : Hid (Bk (w.alloc (.cells #[.int .i64 (m : Int), .slice (some ⟨a, 0, none⟩) n c, .int .i64 E] 64)) w.heap.size 64 #[.int .i64 (m : Int), .slice (some ⟨a, 0, none⟩) n c, .int .i64 E]) := Bk.nw _ _ _
  go_wp2_with fail
  go_at_call 103
  refine (LK.out _).mono ?_
  rintro e w1 ⟨g, rfl, hg, hbk, hb1⟩
  have HG : Hid (Zi w1 (some ⟨g, 0, none⟩) n (lns m n)) := zi_bk hbk n (lns_len m n)
  have HB1 := Lib.hid (HB0.out.tr hb1)
  have HK1 := Lib.hid (HK0.out.bel hb1)
  clear hb1 hg hbk
  go_wp2
  go_loopw [3, 11] (fun s3 s11 wr => ∃ (k : Nat) (V : World) (r : Int), V = wr ∧ k ≤ n ∧ s11 = .int .i64 (k : Int) ∧ s3 = .int .i64 r ∧ r = E - tf X m n k ∧ Bel w1 wr) (fun _ s11 _ => n - (intOf s11).toNat)
  case atStart => exact ⟨0, _, E, rfl, by omega, rfl, rfl, by simp [tf, tq], Bel.rf⟩
  case round =>
    obtain ⟨k, wr, r, hwr, hk, rfl, rfl, hr, hb⟩ := hrel
    subst hwr
    have HB := Lib.hid hb
    have HR := Lib.hid hr
    have tb := tf_in HP.out n1 nm n8 k hk
    rw [show tf X m n k = E - r by omega] at tb
    have r0 : -33554432000000 ≤ r := by omega
    have r1 : r ≤ 32768000000 := by omega
    clear tb
    rcases Nat.lt_or_ge k n with hlt | hge
    · have c1 := (HG.out.bel hb).at k hlt
      have c2 := ((HZ.out.bel HB1.out).bel hb).at k hlt
      rw [lns_at m n k hlt] at c1
      rw [pls_pa X m n k hlt] at c2
      have K := HK1.out.bel hb
      have k1 : wr.cell? ⟨w.heap.size, 1, none⟩ = some (.slice (some ⟨a, 0, none⟩) n c) := K.cell 1
      have kl := K.lt
      have lp := ln_pos m n k n1 nm
      have ll := ln_le m n k n1 hlt
      have px := HP.out k hlt
      have fb := fl_bd (l := (ln m n k : Int)) px.1 px.2 (by omega)
      have HT : Hid (tf X m n (k + 1) = tf X m n k + pa X m n k * pa X m n k / (ln m n k : Int)) := rfl
      obtain ⟨A, hA⟩ : ∃ x, pa X m n k = x := ⟨_, rfl⟩
      obtain ⟨l, hl⟩ : ∃ x, ln m n k = x := ⟨_, rfl⟩
      rw [hA] at c2 px fb HT
      rw [hl] at c1 lp ll fb HT
      obtain ⟨Q, hQ⟩ : ∃ x, A * A = x := ⟨_, rfl⟩
      rw [hQ] at fb HT
      obtain ⟨D, hD⟩ : ∃ x, Q / (l : Int) = x := ⟨_, rfl⟩
      rw [hD] at fb HT
      have htd : Q.tdiv (l : Int) = D := by rw [Int.tdiv_eq_ediv_of_nonneg fb.1]; exact hD
      obtain ⟨px0, px1⟩ := px
      obtain ⟨q0, q1, d0, d1⟩ := fb
      have m1 : IntKind.i64.wrap (A * A) = Q := by rw [hQ]; exact IntWalk.i64_in _ (by omega)
      have m2 : IntKind.i64.wrap D = D := IntWalk.i64_in _ (by omega)
      have m3 : IntKind.i64.wrap (Q.tdiv (l : Int)) = D := by rw [htd]; exact m2
      have m4 : IntKind.i64.wrap (r - D) = r - D := IntWalk.i64_in _ (by omega)
      have hne : l ≠ 0 := by omega
      have ti : (k : Int) < (n : Int) := by omega
      clear hb hr K hA hl hQ hD
      go_wp2
      go_quiet (fail)
      go_wp2
      go_roundw
      case rel => exact ⟨k + 1, _, _, rfl, by omega, by go_num, rfl, by rw [HT.out, HR.out]; omega, by first | exact HB.out.drwN _ | exact HB.out.drw | exact HB.out⟩
      case measure => simp [intOf]; omega
    · obtain rfl : k = n := by omega
      clear hb
      go_wp2
      go_ret
      exact ⟨ret_int HR.out, HB1.out.tr HB.out⟩
set_option maxHeartbeats 8000000 in
set_option maxRecDepth 100000 in
theorem valid_ok (a c m n : Nat) (E V : Int) (X : List Int) (hp : Pb X m n) (hE : E = (m : Int) * V) (e0 : 0 ≤ E) (e1 : E ≤ (m : Int) * (m : Int) * (m : Int) * 1000000) (er : 0 ≤ E - tf X m n n) (m2 : 2 ≤ m) (m32 : m ≤ 32) (n1 : 1 ≤ n) (n8 : n ≤ 8) (nm : n ≤ m) (w : World) (hz : Zi w (some ⟨a, 0, none⟩) n (pls X m n)) :
    Calls Try.prog 62 #[skv a c m n E] w fun e w' => e = .returned (.bool true) ∧ Bel w w' := by
  have a1 : (m : Int) * (m : Int) ≤ 32 * 32 := Int.mul_le_mul (by omega) (by omega) (by omega) (by omega)
  have a2 : (m : Int) * (m : Int) * (m : Int) ≤ 1024 * 32 := Int.mul_le_mul (by omega) (by omega) (by omega) (by omega)
  have a3 : 0 ≤ (m : Int) * (m : Int) := Int.mul_nonneg (by omega) (by omega)
  have a4 : 0 ≤ (m : Int) * (m : Int) * (m : Int) := Int.mul_nonneg a3 (by omega)
  have HM0 : Hid (E.tmod (m : Int) = 0) := by show _ = _; rw [hE]; exact Int.mul_tmod_right _ _
  have LK : Hid (∀ W, _) := fun W => length_ok (m : Int) (by omega) (by omega) W
  have PK : Hid (∀ W, _) := fun W => pieces_ok m n n1 n8 nm W
  have RK : Hid (∀ W, Bel w W → Calls Try.prog 99 #[.agg #[.int .i64 (m : Int), .slice (some ⟨a, 0, none⟩) n c, .int .i64 E]] W fun e w' => e = .returned (.int .i64 (E - tf X m n n)) ∧ Bel W w') := fun W hW => residual_ok a c m n E X hp e0 (by omega) m2 m32 n1 n8 nm W (hz.bel hW)
  have HP := Lib.hid hp
  have HZ := Lib.hid hz
  obtain ⟨R, hR⟩ : ∃ x, E - tf X m n n = x := ⟨_, rfl⟩
  rw [hR] at RK er
  have i1 : (n : Int) ≤ 8 := by omega
  have i2 : 1 ≤ (n : Int) := by omega
  have i3 : (m : Int) ≤ 32 := by omega
  have i4 : 2 ≤ (m : Int) := by omega
  have i5 : m ≠ 0 := by omega
  obtain ⟨M2, hM2⟩ : ∃ x, (m : Int) * (m : Int) = x := ⟨_, rfl⟩
  rw [hM2] at a1 a2 a3 a4 e1
  obtain ⟨M3, hM3⟩ : ∃ x, M2 * (m : Int) = x := ⟨_, rfl⟩
  rw [hM3] at a2 a4 e1
  have u1 : wrap64 ((m : Int) * (m : Int)) = M2 := by rw [hM2]; exact IntWalk.wrap64_in _ (by omega)
  have u2 : wrap64 (M2 * (m : Int)) = M3 := by rw [hM3]; exact IntWalk.wrap64_in _ (by omega)
  have u3 : wrap64 (M3 * 1000) = M3 * 1000 := IntWalk.wrap64_in _ (by omega)
  have u4 : wrap64 (M3 * 1000 * 1000) = M3 * 1000 * 1000 := IntWalk.wrap64_in _ (by omega)
  have HU := Lib.hid (And.intro u1 (And.intro u2 (And.intro u3 u4)))
  have HEE : Hid (0 ≤ E ∧ E ≤ M3 * 1000 * 1000 ∧ 0 ≤ R) := ⟨e0, by omega, er⟩
  have HMM := Lib.hid (And.intro hM2 hM3)
  unfold skv
  clear hp hz hR hE u1 u2 u3 u4 hM2 hM3 a1 a2 a3 a4 e1 er
  go_enter Try.func62, Try.ntmps62
  have HB0 : Hid (Bel w (w.alloc (.cells #[.int .i64 (m : Int), .slice (some ⟨a, 0, none⟩) n c, .int .i64 E] 64))) := Bel.rf.al _
  have HK0 : Hid (Bk (w.alloc (.cells #[.int .i64 (m : Int), .slice (some ⟨a, 0, none⟩) n c, .int .i64 E] 64)) w.heap.size 64 #[.int .i64 (m : Int), .slice (some ⟨a, 0, none⟩) n c, .int .i64 E]) := Bk.nw _ _ _
  go_wp2_with (go_at_call 85; refine (LK.out _).mono ?_; rintro e w1 ⟨rfl, rfl⟩)
  go_at_call 86
  refine (PK.out _).mono ?_
  rintro e w1 ⟨rfl, hb1⟩
  have HB1 := Lib.hid (HB0.out.tr hb1)
  have K1 := HK0.out.bel hb1
  have HK1 := Lib.hid K1
  have l1 : w1.cell? ⟨w.heap.size, 1, none⟩ = some (.slice (some ⟨a, 0, none⟩) n c) := K1.cell 1
  have kl := K1.lt
  clear hb1 K1
  go_wp2
  go_loopw [22] (fun s22 wr => ∃ (k : Nat) (V : World), V = wr ∧ k ≤ n ∧ s22 = .int .i64 (k : Int) ∧ Bel w1 wr) (fun s22 _ => n - (intOf s22).toNat)
  case atStart => exact ⟨0, _, rfl, by omega, rfl, Bel.rf⟩
  case round =>
    clear l1 kl
    obtain ⟨k, wr, hwr, hk, rfl, hb⟩ := hrel
    subst hwr
    have HB := Lib.hid hb
    rcases Nat.lt_or_ge k n with hlt | hge
    · have c2 := ((HZ.out.bel HB1.out).bel hb).at k hlt
      rw [pls_pa X m n k hlt] at c2
      obtain ⟨px0, px1⟩ := HP.out k hlt
      obtain ⟨A, hA⟩ : ∃ x, pa X m n k = x := ⟨_, rfl⟩
      rw [hA] at c2 px0 px1
      have ti : (k : Int) < (n : Int) := by omega
      have b1 : decide (A < -2097152) = false := decide_eq_false (by omega)
      have b2 : decide (2097152 < A) = false := decide_eq_false (by omega)
      clear hb hA
      go_wp2
      go_roundw
      case rel => exact ⟨k + 1, _, rfl, by omega, by go_num, by first | exact HB.out.drwN _ | exact HB.out.drw | exact HB.out⟩
      case measure => simp [intOf]; omega
    · obtain rfl : k = n := by omega
      have K := HK1.out.bel hb
      have k0 : wr.cell? ⟨w.heap.size, 0, none⟩ = some (.int .i64 (m : Int)) := K.cell 0
      have k1 : wr.cell? ⟨w.heap.size, 1, none⟩ = some (.slice (some ⟨a, 0, none⟩) k c) := K.cell 1
      have k2 : wr.cell? ⟨w.heap.size, 2, none⟩ = some (.int .i64 E) := K.cell 2
      have kl := K.lt
      have u1 := HU.out.1
      have u2 := HU.out.2.1
      have u3 := HU.out.2.2.1
      have u4 := HU.out.2.2.2
      have hmod := HM0.out
      have g0 := HEE.out.1
      have g1 := HEE.out.2.1
      have g2 := HEE.out.2.2
      clear hb K
      go_wp2_with fail
      go_at_call 99
      refine (RK.out _ (HB1.out.tr HB.out)).mono ?_
      rintro e w9 ⟨rfl, hb9⟩
      go_wp2
      go_ret
      exact ⟨rfl, (HB1.out.tr HB.out).tr hb9⟩
end Go.Proofs.Ytgdhgeongdenpaa.Sk
