/- That the law TopGaps returns true for every input that can be read, and leaves its arguments as they were; the package variables that it lists start as the program lays them, which the card ties to the text; no further condition. -/
import Derived.Test.YtnjojdmmalmhaaaGreatDoorRows
import Derived.WalkKit
import Derived.ProofKit
import Derived.OpenShut
import Derived.LaidMore
import Derived.Stop.Joined
import Derived.SevenTiedAt
import Derived.Test.YtnjojdmmalmhaaaGreatDoorCards
import Derived.Test.YtnjojdmmalmhaaaGreatDoorTie
import Derived.Test.YtnjojdmmalmhaaaGreatDoorGl1
import Derived.Test.YtnjojdmmalmhaaaGreatDoorGl2
import Derived.Test.YtnjojdmmalmhaaaGreatDoorGl3
import Derived.Test.YtnjojdmmalmhaaaGreatDoorGl4
import Derived.Test.YtnjojdmmalmhaaaGreatDoorGl5
import Derived.Test.YtnjojdmmalmhaaaGreatDoorGl6
import Derived.Test.YtnjojdmmalmhaaaGreatDoorGl7
import Derived.Test.YtnjojdmmalmhaaaGreatDoorGg1
import Derived.ShutString
import Derived.ChangeOld
import Derived.Below
namespace Go.Proofs.YtnjojdmmalmhaaaGreatDoor.topGaps
open Go.ChangeShapes Go.WideShapes Go.ChangeAt Go.RowKit Wo
open Go.ChangeMaps (open_string shut_string)
set_option linter.unusedVariables false

theorem own : ownKnob Tryz.prog.godebug = none := by kernel_rfl
theorem laidOut : laidOutB Tryz.prog = true := by kernel_rfl

/-- WHAT THE WALK IS TOLD OF A SLICE OF INTEGERS THAT CAME IN: it is nil; or it leads to a row of 'cap' cells, the numbers 'zs' (the first 'len' are its elements, the rest its spare room), each fitting its kind. -/
def IsRow (k : IntKind) (w : World) (a : Option Addr) (len cap : Nat) (zs : List Int) : Prop :=
  (a = none ∧ len = 0 ∧ cap = 0 ∧ zs = []) ∨
  ∃ x, a = some x ∧ len ≤ cap ∧ cap ≤ maxLen ∧ zs.length = cap ∧ (∀ i, i < zs.length → w.cell? (x.add i) = some (.int k (zs.getD i 0))) ∧ ∀ n ∈ zs, (Lit.int k n).wf = true

theorem and_step {p : Nat → Bool} {n : Nat} {b : Bool} (h : b = true ↔ ∀ t, t < n → p t = true) : (b && p n) = true ↔ ∀ t, t < n + 1 → p t = true := by
  rw [Bool.and_eq_true, h]
  constructor
  · rintro ⟨h1, h2⟩ t ht
    rcases Nat.lt_or_ge t n with h3 | h3
    · exact h1 t h3
    · obtain rfl : t = n := by omega
      exact h2
  · exact fun h => ⟨fun t ht => h t (by omega), h n (by omega)⟩
theorem or_step {p : Nat → Prop} [∀ i, Decidable (p i)] {n : Nat} {b : Bool} (h : b = true ↔ ∃ i, i < n ∧ p i) : (b || decide (p n)) = true ↔ ∃ i, i < n + 1 ∧ p i := by
  rw [Bool.or_eq_true, h, decide_eq_true_iff]
  constructor
  · rintro (⟨i, h1, h2⟩ | h2)
    · exact ⟨i, by omega, h2⟩
    · exact ⟨n, by omega, h2⟩
  · rintro ⟨i, h1, h2⟩
    rcases Nat.lt_or_ge i n with h3 | h3
    · exact .inl ⟨i, h3, h2⟩
    · obtain rfl : i = n := by omega
      exact .inr h2
open Go.Proofs.YtnjojdmmalmhaaaGreatDoor.Tp Go.Proofs.YtnjojdmmalmhaaaGreatDoor.Gs Go.Proofs.YtnjojdmmalmhaaaGreatDoor.Rg Go.Proofs.YtnjojdmmalmhaaaGreatDoor.Rm Go.Proofs.YtnjojdmmalmhaaaGreatDoor.Se Go.Proofs.YtnjojdmmalmhaaaGreatDoor.Wi Go.Proofs.YtnjojdmmalmhaaaGreatDoor.Wo Go.Proofs.YtnjojdmmalmhaaaGreatDoor.Sr in
set_option maxHeartbeats 8000000 in
set_option maxRecDepth 100000 in
theorem walk (a0 : Option Addr) (len0 cap0 : Nat) (z0 : List Int) (a1 : Int) (w : World) (hL : Tp.Lt w) (w0 : IsRow .i64 w a0 len0 cap0 z0) (w1 : (Lit.int .u8 a1).wf = true) :
    Calls Tryz.prog 4 #[.slice a0 len0 cap0, .int .u8 a1] w fun e w' => e = .returned (.bool true) ∧ Below w.heap.size w w' := by
  obtain ⟨hu0, hu1⟩ := bounds_u8 w1
  clear w1
  have AW : Hid (∀ W, Bel w W → Calls Tryz.prog 13 #[] W fun e w' => e = .returned (.bool true) ∧ Bel W w') := fun W hW => running_any W (Un.Pows.bel hL hW)
  clear hL
  obtain ⟨m, hm, m1, m6⟩ : ∃ m : Nat, 2 + Int.tmod a1 5 = (m : Int) ∧ 2 ≤ m ∧ m ≤ 6 := by
    have h1 := Int.tmod_nonneg (a := a1) 5 hu0
    have h2 := Int.tmod_lt_of_pos a1 (b := 5) (by decide)
    exact ⟨(2 + Int.tmod a1 5).toNat, by omega, by omega, by omega⟩
  have hm3 : 2 + a1 % 5 = (m : Int) := by rw [← Int.tmod_eq_emod_of_nonneg hu0]; exact hm
  have HMM := Lib.hid (And.intro hm hm3)
  clear hm hm3
  go_enter Tryz.func4, Tryz.ntmps4
  go_wp2_with fail
  go_at_call 5
  refine (new_any a0 len0 cap0 z0 w w0).mono ?_
  rintro e v1 ⟨g, rfl, hg, ho1, hb1⟩
  have HO1 := Lib.hid ho1
  have HB1 : Hid (Bel w v1) := hb1
  clear ho1 hb1 w0
  go_wp2_with fail
  go_at_call 14
  refine (ascending_any g 12 (by decide) _ HO1.out).mono ?_
  rintro e v2 ⟨v, K, l, rfl, hown, hl, hk, hs, hx0, ho2, hc2⟩
  have HB2 : Hid (Bel w v2) := Bel.ch HB1.out hc2 hg
  have HO2 := Lib.hid ho2
  obtain ⟨A, ca, rfl, hz⟩ := own_zr hown hl
  have hA : ∀ b, A = some ⟨b, 0, none⟩ → b ≠ g := fun b e => by
    have h1 := (hown.lt b (by rw [e]; rfl)).1
    have h2 := HO1.out.lt
    omega
  have HA := Lib.hid hA
  have HZ := Lib.hid hz
  have HS := Lib.hid hs
  have HLN := Lib.hid hl
  have ki : (K : Int) ≤ 12 := by omega
  have kn : K ≤ 12 := hk
  clear hown ho2 hc2 hz hs hA hx0 hl hk
  go_wp2_with fail
  go_at_call 15
  refine (kgrid_any g K ca A l (by omega) (asc_vrs HS.out) _ (by first | exact HO2.out | exact HO2.out.drwN _) (by first | exact HZ.out | exact HZ.out.drwN _) HA.out).mono ?_
  rintro e v3 ⟨f, s, r, q, N, rfl, hgv, f1, hf, s1, hN, ho3, hc3⟩
  have HB3 : Hid (Bel w v3) := by first | exact Bel.ch HB2.out hc3 hg | exact Bel.ch (HB2.out.drwN _) hc3 hg
  have hz3 := HZ.out.ch hc3 HA.out
  have HZ3 := Lib.hid hz3
  have HGV := Lib.hid hgv
  have HAP : Hid (∀ W, Bel v3 W → _) := fun W hW => apply_ok A ca K l (by omega) HS.out f s r q N hgv W (hz3.bel hW)
  obtain ⟨LV, hLV⟩ : ∃ LV, vals l f s r q N = LV := ⟨_, rfl⟩
  obtain ⟨AV, hAV⟩ : ∃ AV : Nat → Int, AV = fun x => (val l r q (at' f s x)).1 := ⟨_, rfl⟩
  obtain ⟨AB, hAB⟩ : ∃ AB : Nat → Bool, AB = fun x => (val l r q (at' f s x)).2 := ⟨_, rfl⟩
  have HAT : Hid (∀ x : Nat, x < N → ∀ W, Bel v3 W → Calls Tryz.prog 18 #[.slice A K ca, gv f s (N : Int) r q, .int .i64 (at' f s x)] W fun e w' => e = .returned (.tuple #[.int .i64 (AV x), .bool (AB x)]) ∧ Bel W w') := fun x hx W hW => by
    have ht := at_in hgv hx
    have := at_ok A ca K l (by omega) HS.out f s N r q (at' f s x) hgv ht.1 ht.2.1 W (hz3.bel hW)
    rw [hAV, hAB]; exact this
  have HRNG : Hid (∀ x : Nat, x < N → AB x = true → (∃ i, i < K ∧ vl l i ≤ AV x) ∧ (∃ i, i < K ∧ AV x ≤ vl l i)) := fun x hx hb => by
    have ht := at_in hgv hx
    rw [hAB] at hb
    have := val_rng HS.out ht.1 ht.2.1 hgv.2.2.2.2.2.2.2.2.2.2 hb
    rw [HLN.out] at this
    rw [hAV]; exact this
  have HGD : Hid (∀ i, good LV m i = true ↔ (i + m ≤ N ∧ ∀ j, j < m → AB (i + j) = true)) := fun i => by
    rw [← hLV, hAB]; exact good_vals HS.out hgv m i
  have HPT : Hid (∀ i j, i + m ≤ N → j < m → AB (i + j) = true → ((LV.drop i).take m).getD j 0 = AV (i + j)) := fun i j h1 h2 h3 => by
    rw [hAB] at h3
    rw [← hLV, hAV]; exact part_get h1 h2 h3
  have HLL : Hid (LV.length = N) := by rw [← hLV]; exact vals_len _ _ _ _ _ _
  have HSV : Hid (Sv LV) := by rw [← hLV]; exact sv_vals HS.out hgv
  rw [hLV] at HAP
  clear hLV hAV hAB
  have HSW : Hid (Sw f s N) := ⟨hgv.1, by omega, hgv.2.2.1, by omega, by omega⟩
  have HTI : Hid (∀ x : Nat, x < N → 0 ≤ (x : Int) * s ∧ (x : Int) * s ≤ 1099511627776 ∧ at' f s x = f + (x : Int) * s ∧ 0 ≤ at' f s x ∧ at' f s x ≤ 1099511627776) := fun x hx => by
    have ht := at_in hgv hx
    exact ⟨ht.2.2.1, ht.2.2.2, rfl, ht.1, ht.2.1⟩
  have ni : (N : Int) ≤ 19 := by omega
  unfold gv at HAP HAT ⊢
  clear ho3 hc3 hf hz3 HZ HS HA hgv f1 s1
  go_wp2_with fail
  go_at_call 16
  refine (HAP.out _ (by repeat (first | exact Bel.rf | (with_reducible refine Bel.drwN ?_ _) | (with_reducible refine Bel.drw ?_) | (with_reducible refine Bel.al ?_ _)))).mono ?_
  rintro e v4 ⟨gq, rfl, hgq, hkq, hb4⟩
  have KG : Bk v4 v3.heap.size 49 #[.int .i64 f, .int .i64 s, .int .i64 (N : Int), .int .i64 r, .int .i64 q] := (by first | exact (Bk.nw v3 _ _).bel hb4 | exact (Bk.nw v3 _ _).drwN _ |>.bel hb4)
  have HB4 : Hid (Bel v3 v4) := (Bel.rf.al _).tr hb4
  have HKQ := Lib.hid hkq
  obtain ⟨V4, hV4⟩ : ∃ V4, v4.alloc (.cells #[.int .i64 f, .int .i64 s, .slice (some ⟨gq, 0, none⟩) N N] 24) = V4 := ⟨_, rfl⟩
  have HG4 : Hid (Bk V4 v3.heap.size 49 #[.int .i64 f, .int .i64 s, .int .i64 (N : Int), .int .i64 r, .int .i64 q]) := by rw [← hV4]; exact KG.bel (Bel.rf.al _)
  have HS4 : Hid (Bk V4 v4.heap.size 24 #[.int .i64 f, .int .i64 s, .slice (some ⟨gq, 0, none⟩) N N]) := by rw [← hV4]; exact Bk.nw _ _ _
  have HB5 : Hid (Bel v3 V4) := by rw [← hV4]; exact HB4.out.al _
  have HVS : Hid (Vs V4 (some ⟨gq, 0, none⟩) N N LV) := by rw [← hV4]; exact ⟨(zi_bk hkq N HLL.out).bel (Bel.rf.al _), Nat.le_refl _, .inr ⟨gq, rfl⟩⟩
  have hlt4 := KG.lt
  clear KG hkq hb4 hgq
  have m2 := HMM.out.1
  have m3 := HMM.out.2
  have w9 : IntKind.i64.wrap (2 + Int.tmod a1 5) = (m : Int) := by rw [m2]; exact IntWalk.i64_in _ (by omega)
  have c2 : V4.cell? ⟨v4.heap.size, 0, none⟩ = some (.int .i64 f) := HS4.out.cell 0
  have c3 : V4.cell? ⟨v4.heap.size, 1, none⟩ = some (.int .i64 s) := HS4.out.cell 1
  have c4 : V4.cell? ⟨v4.heap.size, 2, none⟩ = some (.slice (some ⟨gq, 0, none⟩) N N) := HS4.out.cell 2
  have cl := HS4.out.lt
  go_wp2_with fail
  (try rw [hV4])
  go_at_call 10
  refine (starts_wc f s (some ⟨gq, 0, none⟩) N N m LV HSW.out HSV.out (by omega) (by omega) _ HVS.out.1).mono ?_
  rintro e v6 ⟨A6, k6, c6, rfl, hk6, hz6, hb6⟩
  have HK6 := Lib.hid hk6
  have HZ6 := Lib.hid hz6
  have HB6 : Hid (Bel v3 v6) := HB5.out.tr hb6
  have HG6 : Hid (Bk v6 v3.heap.size 49 #[.int .i64 f, .int .i64 s, .int .i64 (N : Int), .int .i64 r, .int .i64 q]) := HG4.out.bel hb6
  have HS6 : Hid (Bk v6 v4.heap.size 24 #[.int .i64 f, .int .i64 s, .slice (some ⟨gq, 0, none⟩) N N]) := HS4.out.bel hb6
  have HVS6 : Hid (Vs v6 (some ⟨gq, 0, none⟩) N N LV) := HVS.out.bel hb6
  have k20 : k6 ≤ 20 := by
    have h1 := sts_small LV m (by omega)
    have h2 := HLL.out
    omega
  have k20i : (k6 : Int) ≤ 20 := by omega
  clear hk6 hz6 hb6 c2 c3 c4 cl m2 m3 w9 hlt4
  go_wp2
  go_loopw [51] (fun s51 wr => ∃ (t : Nat) (V : World), V = wr ∧ t ≤ k6 ∧ s51 = .int .i64 (t : Int) ∧ Bel v6 wr) (fun s51 _ => k6 - (intOf s51).toNat)
  case atStart => exact ⟨0, _, rfl, Nat.zero_le _, rfl, by first | exact Bel.rf | exact Bel.rf.drwN _⟩
  case round =>
    obtain ⟨t, wr, hwr, ht, rfl, hb⟩ := hrel
    subst hwr
    have HB := Lib.hid hb
    rcases Nat.lt_or_ge t k6 with hlt | hge
    · obtain ⟨ad, rfl, hab, hac⟩ := (HZ6.out.bel hb).2 (by omega)
      have c1 := hac t hlt
      rw [stz_at' (by rw [← HK6.out]; exact hlt)] at c1
      obtain ⟨i, hi⟩ : ∃ i, (sts LV m).getD t 0 = i := ⟨_, rfl⟩
      have hgd : good LV m i = true := by rw [← hi]; exact sts_good (by omega) (by rw [← HK6.out]; exact hlt)
      have HWZ := Lib.hid (wz_good hgd)
      have h9 := (HGD.out i).1 hgd
      have H9 := Lib.hid h9
      have him := h9.1
      rw [hi] at c1
      have HWI : Hid (∀ W, Bel v6 W → Calls Tryz.prog 17 #[.agg #[.int .i64 f, .int .i64 s, .slice (some ⟨gq, 0, none⟩) N N], .int .i64 (i : Int), .int .i64 (m : Int)] W (SomeWin LV i m W)) := fun W hW => window_w f s (some ⟨gq, 0, none⟩) N N LV HSW.out HSV.out i m (by omega) (by omega) (by omega) W (HVS6.out.bel hW)
      have tk : (t : Int) < (k6 : Int) := by omega
      have s0 : wr.cell? ⟨v4.heap.size, 0, none⟩ = some (.int .i64 f) := (HS6.out.bel hb).cell 0
      have s1 : wr.cell? ⟨v4.heap.size, 1, none⟩ = some (.int .i64 s) := (HS6.out.bel hb).cell 1
      have s2 : wr.cell? ⟨v4.heap.size, 2, none⟩ = some (.slice (some ⟨gq, 0, none⟩) N N) := (HS6.out.bel hb).cell 2
      have sl := (HS6.out.bel hb).lt
      clear hb hac hgd h9 hi
      go_wp2_with fail
      go_at_call 17
      refine (HWI.out _ HB.out).mono ?_
      rintro e v7 ⟨A7, k7, c7, he7, hk7, hz7, hb7⟩
      rw [HWZ.out.2] at he7
      rw [HWZ.out.1] at hk7 hz7
      have e7 : m = k7 := by rw [hk7]; have := HLL.out; simp; omega
      clear hk7
      subst e7
      subst he7
      have HZ7 := Lib.hid hz7
      have HB7 : Hid (Bel v6 v7) := HB.out.tr hb7
      clear hz7 hb7 s0 s1 s2 sl hab c1
      go_wp2
      go_loopw [66] (fun s66 wr => ∃ (j : Nat) (V : World), V = wr ∧ j ≤ m ∧ s66 = .int .i64 (j : Int) ∧ Bel v7 wr) (fun s66 _ => m - (intOf s66).toNat)
      case atStart => exact ⟨0, _, rfl, Nat.zero_le _, rfl, by first | exact Bel.rf | exact Bel.rf.drwN _⟩
      case round =>
        clear HB
        obtain ⟨j, wr, hwr, hj, rfl, hb⟩ := hrel
        subst hwr
        have HB := Lib.hid hb
        rcases Nat.lt_or_ge j m with hlt | hge
        · have hab := H9.out.2 j hlt
          obtain ⟨a7, rfl, hal, hac⟩ := (HZ7.out.bel hb).2 (by omega)
          have HZ7b := Lib.hid HZ7.out
          have c1 := hac j hlt
          rw [HPT.out i j (by omega) hlt hab] at c1
          obtain ⟨x, hx⟩ : ∃ x, i + j = x := ⟨_, rfl⟩
          have hxN : x < N := by omega
          have hxi : (i : Int) + (j : Int) = (x : Int) := by omega
          rw [hx] at c1 hab
          obtain ⟨p0, p1, pe, t0, t1⟩ := HTI.out x hxN
          have HA1 := Lib.hid (HAT.out x hxN)
          have HR1 := Lib.hid (HRNG.out x hxN hab)
          obtain ⟨P, hP⟩ : ∃ P, (x : Int) * s = P := ⟨_, rfl⟩
          obtain ⟨T, hT⟩ : ∃ T, at' f s x = T := ⟨_, rfl⟩
          obtain ⟨y, hy⟩ : ∃ y, AV x = y := ⟨_, rfl⟩
          have HXY : Hid (AV (i + j) = y) := by show AV (i + j) = y; rw [hx]; exact hy
          rw [hT] at HA1 pe t0 t1
          rw [hP] at p0 p1 pe
          rw [hab, hy] at HA1
          rw [hy] at HR1 c1
          have wa : IntKind.i64.wrap ((i : Int) + (j : Int)) = (x : Int) := by rw [hxi]; exact IntWalk.i64_in _ (by omega)
          have wb : IntKind.i64.wrap ((x : Int) * s) = P := by rw [hP]; exact IntWalk.i64_in _ (by omega)
          have wc : IntKind.i64.wrap (f + P) = T := by rw [← pe]; exact IntWalk.i64_in _ (by omega)
          have jm : (j : Int) < (m : Int) := by omega
          have HG := Lib.hid ((HG6.out.bel HB7.out).bel hb)
          have g0 : wr.cell? ⟨v3.heap.size, 0, none⟩ = some (.int .i64 f) := HG.out.cell 0
          have g1 : wr.cell? ⟨v3.heap.size, 1, none⟩ = some (.int .i64 s) := HG.out.cell 1
          have g2 : wr.cell? ⟨v3.heap.size, 2, none⟩ = some (.int .i64 (N : Int)) := HG.out.cell 2
          have g3 : wr.cell? ⟨v3.heap.size, 3, none⟩ = some (.int .i64 r) := HG.out.cell 3
          have g4 : wr.cell? ⟨v3.heap.size, 4, none⟩ = some (.int .i64 q) := HG.out.cell 4
          have gl := HG.out.lt
          have HBv3 : Hid (Bel v3 wr) := HB6.out.tr (HB7.out.tr hb)
          have yy := ne_self y
          clear hb hac hP hT hy pe hx hxi hal hab
          go_wp2_with fail
          go_at_call 18
          refine (HA1.out _ (by first | exact HBv3.out | exact HBv3.out.drwN _)).mono ?_
          rintro e v8 ⟨rfl, hb8⟩
          have HB8 : Hid (Bel v7 v8) := by first | exact HB.out.tr hb8 | exact (HB.out.drwN _).tr hb8
          clear hb8 g0 g1 g2 g3 g4 gl wa wb wc c1
          go_wp2
          go_loopw [19, 20, 86] (fun s19 s20 s86 wr => ∃ (n : Nat) (lo hi : Bool) (V : World), V = wr ∧ n ≤ K ∧ s19 = .bool lo ∧ s20 = .bool hi ∧ s86 = .int .i64 (n : Int) ∧ (lo = true ↔ ∃ i, i < n ∧ vl l i ≤ y) ∧ (hi = true ↔ ∃ i, i < n ∧ y ≤ vl l i) ∧ Bel v8 wr) (fun _ _ s86 _ => K - (intOf s86).toNat)
          case atStart => exact ⟨0, false, false, _, rfl, Nat.zero_le _, rfl, rfl, rfl, ⟨fun h => by simp at h, fun ⟨i, h, _⟩ => absurd h (Nat.not_lt_zero _)⟩, ⟨fun h => by simp at h, fun ⟨i, h, _⟩ => absurd h (Nat.not_lt_zero _)⟩, by first | exact Bel.rf | exact Bel.rf.drwN _⟩
          case round =>
            clear HB
            obtain ⟨n, lo, hi, wr, hwr, hn, rfl, rfl, rfl, hlo, hhi, hb⟩ := hrel
            subst hwr
            have HB := Lib.hid hb
            have HLO := Lib.hid hlo
            have HHI := Lib.hid hhi
            rcases Nat.lt_or_ge n K with hnk | hnk
            · obtain ⟨gA, rfl, hgl, hgc⟩ := (((((HZ3.out.bel HB6.out).bel HB7.out).bel HB8.out).bel hb)).2 (by omega)
              have d1 := (hgc n hnk).2
              obtain ⟨a8, ea8, ha8l, ha8c⟩ := ((HZ7.out.bel HB8.out).bel hb).2 (by omega)
              cases ea8
              have d2 := ha8c j hlt
              rw [HPT.out i j (by omega) hlt (H9.out.2 j hlt), HXY.out] at d2
              obtain ⟨u, hu⟩ : ∃ u, vl l n = u := ⟨_, rfl⟩
              have HU := Lib.hid hu
              rw [hu] at d1
              have nk : (n : Int) < (K : Int) := by omega
              have hlo' : Hid ((lo || decide (u ≤ y)) = true ↔ ∃ i, i < n + 1 ∧ vl l i ≤ y) := by
                rw [← hu]; exact or_step (p := fun i => vl l i ≤ y) HLO.out
              have hhi' : Hid ((hi || decide (y ≤ u)) = true ↔ ∃ i, i < n + 1 ∧ y ≤ vl l i) := by
                rw [← hu]; exact or_step (p := fun i => y ≤ vl l i) HHI.out
              clear hb hlo hhi hgc ha8c hu
              go_wp2_with fail
              cases lo <;> cases hi
              all_goals
                go_quiet (fail)
                go_wp2
                go_roundw
                case rel => exact ⟨n + 1, _, _, _, rfl, by omega, rfl, rfl, by go_num, hlo'.out, hhi'.out, by first | exact HB.out | exact HB.out.drwN _⟩
                case measure => simp [intOf]; omega
            · obtain rfl : lo = true := hlo.2 (by obtain ⟨i, h1, h2⟩ := HR1.out.1; exact ⟨i, by omega, h2⟩)
              obtain rfl : hi = true := hhi.2 (by obtain ⟨i, h1, h2⟩ := HR1.out.2; exact ⟨i, by omega, h2⟩)
              have nk : (K : Int) ≤ (n : Int) := by omega
              obtain ⟨a8, ea8, ha8l, ha8c⟩ := ((HZ7.out.bel HB8.out).bel hb).2 (by omega)
              cases ea8
              have d2 := ha8c j hlt
              rw [HPT.out i j (by omega) hlt (H9.out.2 j hlt), HXY.out] at d2
              clear hb hlo hhi ha8c HLO HHI
              go_wp2
              go_roundw
              case rel => exact ⟨j + 1, _, rfl, by omega, by go_num, by first | exact HB8.out.tr HB.out | exact (HB8.out.tr HB.out).drwN _⟩
              case measure => simp [intOf]; omega
        · have jm : (m : Int) ≤ (j : Int) := by omega
          clear hb
          go_wp2
          go_roundw
          case rel => exact ⟨t + 1, _, rfl, by omega, by go_num, by first | exact HB7.out.tr HB.out | exact (HB7.out.tr HB.out).drwN _⟩
          case measure => simp [intOf]; omega
    · have td : decide (t < k6) = false := decide_eq_false (by omega)
      have te : ¬ t < k6 := by omega
      clear hb
      go_wp2
      clear td te hge ht
      go_loopw [22] (fun s22 wr => ∃ (i : Nat) (V : World), V = wr ∧ i ≤ N + 1 ∧ s22 = .int .i64 (i : Int) ∧ Bel v6 wr) (fun s22 _ => N + 1 - (intOf s22).toNat)
      case atStart => exact ⟨0, _, rfl, Nat.zero_le _, rfl, by first | exact HB.out | exact HB.out.drwN _⟩
      case round =>
        clear HB
        obtain ⟨i, wr, hwr, hi, rfl, hb⟩ := hrel
        subst hwr
        have HB := Lib.hid hb
        have s2 : wr.cell? ⟨v4.heap.size, 2, none⟩ = some (.slice (some ⟨gq, 0, none⟩) N N) := (HS6.out.bel hb).cell 2
        have sl := (HS6.out.bel hb).lt
        clear hb
        have wE : IntKind.i64.wrap ((i : Int) + (m : Int)) = (i : Int) + (m : Int) := IntWalk.i64_in _ (by omega)
        rcases Nat.lt_or_ge N (i + m) with hlt | hge
        · have e1 : ¬ (i : Int) + (m : Int) ≤ (N : Int) := by omega
          clear hlt
          go_wp2_with fail
          go_at_call 13
          refine (AW.out _ (HB3.out.tr (HB6.out.tr (by first | exact HB.out | exact HB.out.drwN _)))).mono ?_
          rintro e v9 ⟨rfl, hb9⟩
          go_wp2
          go_ret
          exact ⟨rfl, ((HB3.out.tr (HB6.out.tr (by first | exact HB.out | exact HB.out.drwN _))).tr hb9).bl⟩
        · have e1 : (i : Int) + (m : Int) ≤ (N : Int) := by omega
          go_wp2
          clear wE e1 s2 sl
          go_loopw [23, 24] (fun s23 s24 wr => ∃ (j : Nat) (wh : Bool) (V : World), V = wr ∧ j ≤ m ∧ s23 = .bool wh ∧ s24 = .int .i64 (j : Int) ∧ (wh = true ↔ ∀ t, t < j → AB (i + t) = true) ∧ Bel v6 wr) (fun _ s24 _ => m - (intOf s24).toNat)
          case atStart => exact ⟨0, true, _, rfl, Nat.zero_le _, rfl, rfl, ⟨fun _ t h => absurd h (Nat.not_lt_zero _), fun _ => rfl⟩, by first | exact HB.out | exact HB.out.drwN _⟩
          case round =>
            clear HB
            obtain ⟨j, wh, wr, hwr, hj, rfl, rfl, hwh, hb⟩ := hrel
            subst hwr
            have HB := Lib.hid hb
            have HWH := Lib.hid hwh
            rcases Nat.lt_or_ge j m with hlt | hgj
            · obtain ⟨x, hx⟩ : ∃ x, i + j = x := ⟨_, rfl⟩
              have hxN : x < N := by omega
              have hxi : (i : Int) + (j : Int) = (x : Int) := by omega
              obtain ⟨p0, p1, pe, t0, t1⟩ := HTI.out x hxN
              have HA1 := Lib.hid (HAT.out x hxN)
              have hwh' := and_step (p := fun t => AB (i + t)) hwh
              simp only [hx] at hwh'
              obtain ⟨P, hP⟩ : ∃ P, (x : Int) * s = P := ⟨_, rfl⟩
              obtain ⟨T, hT⟩ : ∃ T, at' f s x = T := ⟨_, rfl⟩
              obtain ⟨y, hy⟩ : ∃ y, AV x = y := ⟨_, rfl⟩
              obtain ⟨b, hbb⟩ : ∃ b, AB x = b := ⟨_, rfl⟩
              rw [hT] at HA1 pe t0 t1
              rw [hP] at p0 p1 pe
              rw [hbb, hy] at HA1
              rw [hbb] at hwh'
              have HW2 := Lib.hid hwh'
              have wa : IntKind.i64.wrap ((i : Int) + (j : Int)) = (x : Int) := by rw [hxi]; exact IntWalk.i64_in _ (by omega)
              have wb : IntKind.i64.wrap ((x : Int) * s) = P := by rw [hP]; exact IntWalk.i64_in _ (by omega)
              have wc : IntKind.i64.wrap (f + P) = T := by rw [← pe]; exact IntWalk.i64_in _ (by omega)
              have jm : (j : Int) < (m : Int) := by omega
              have HG := Lib.hid (HG6.out.bel hb)
              have g0 : wr.cell? ⟨v3.heap.size, 0, none⟩ = some (.int .i64 f) := HG.out.cell 0
              have g1 : wr.cell? ⟨v3.heap.size, 1, none⟩ = some (.int .i64 s) := HG.out.cell 1
              have g2 : wr.cell? ⟨v3.heap.size, 2, none⟩ = some (.int .i64 (N : Int)) := HG.out.cell 2
              have g3 : wr.cell? ⟨v3.heap.size, 3, none⟩ = some (.int .i64 r) := HG.out.cell 3
              have g4 : wr.cell? ⟨v3.heap.size, 4, none⟩ = some (.int .i64 q) := HG.out.cell 4
              have gl := HG.out.lt
              have HBv3 : Hid (Bel v3 wr) := HB6.out.tr hb
              clear hb hP hT hy pe hx hxi hbb hwh hwh'
              go_wp2_with fail
              go_at_call 18
              refine (HA1.out _ (by first | exact HBv3.out | exact HBv3.out.drwN _)).mono ?_
              rintro e v8 ⟨rfl, hb8⟩
              have HB8 : Hid (Bel v6 v8) := by first | exact HB.out.tr hb8 | exact (HB.out.drwN _).tr hb8
              clear hb8 g0 g1 g2 g3 g4 gl wa wb wc
              cases wh
              all_goals
                go_wp2
                go_roundw
                case rel => exact ⟨j + 1, _, _, rfl, by omega, rfl, by go_num, HW2.out, by first | exact HB8.out | exact HB8.out.drwN _⟩
                case measure => simp [intOf]; omega
            · obtain rfl : j = m := by omega
              have hin : wh = true ↔ ∃ t, t < k6 ∧ (stz LV j).getD t 0 = (i : Int) := by
                rw [hwh, HK6.out, ← sts_in' (by omega) i, HGD.out i]
                exact ⟨fun h => ⟨hge, h⟩, fun h => h.2⟩
              have HIN := Lib.hid (in_any A6 c6 k6 (stz LV j) (i : Int) wh (by omega) hin wr (HZ6.out.bel hb))
              clear hb hwh hin
              go_wp2_with fail
              go_at_call 19
              refine HIN.out.mono ?_
              rintro e v8 ⟨rfl, hb8⟩
              have HB8 : Hid (Bel v6 v8) := HB.out.tr hb8
              clear hb8 HIN HWH
              cases wh
              all_goals
                go_wp2
                go_roundw
                case rel => exact ⟨i + 1, _, rfl, by omega, by go_num, by first | exact HB8.out | exact HB8.out.drwN _⟩
                case measure => simp [intOf]; omega

noncomputable def pinWorld (os : Os) : World := { World.doorLaid Tryz.prog 400 os with heap := (World.doorLaid Tryz.prog 400 os).heap.setIfInBounds 4 (.cells (Go.Pinned.utf8FirstZ.map fun (n : Nat) => Value.int .u8 (n : Int)).toArray 209 (0, 0)) }
theorem door_met (os : Os) (args : Array Value) : laidMetH Tryz.prog [("math/bits.deBruijn32tab", Rows.laid_math_bits_deBruijn32tab), ("math/bits.deBruijn64tab", Rows.laid_math_bits_deBruijn64tab), ("internal/strconv.uint64pow10", Rows.laid_internal_strconv_uint64pow10), ("unicode/utf8.acceptRanges", Rows.laid_unicode_utf8_acceptRanges), ("strconv.ErrRange", Rows.laid_strconv_ErrRange), ("strconv.ErrSyntax", Rows.laid_strconv_ErrSyntax), ("shapesearch/unit.powers", Rows.laid_shapesearch_unit_powers), ("unicode/utf8.first", Rows.laid_unicode_utf8_first)] ((pinWorld os).forCall (fun _ _ => 0) ⟨#[], args, []⟩).memory :=
  laidMetH_of_parts3 (fuel := 8) (laidMet_of_run' 8 (by kernel_rfl) (by kernel_rfl)) (by kernel_rfl) (by kernel_rfl)
set_option maxRecDepth 100000 in
theorem lifted (os : Os) (started : os.Started) (H : Type) (enc : TypeId × Value → H) :
    ReturnsInHanded {} Tryz.checked os 4 .any (fun w args => (Rows.topGapsSpec.pre enc Tryz.prog Tryz.f4 [] false w args ∧ laidMetH Tryz.prog [("math/bits.deBruijn32tab", Rows.laid_math_bits_deBruijn32tab), ("math/bits.deBruijn64tab", Rows.laid_math_bits_deBruijn64tab), ("internal/strconv.uint64pow10", Rows.laid_internal_strconv_uint64pow10), ("unicode/utf8.acceptRanges", Rows.laid_unicode_utf8_acceptRanges), ("strconv.ErrRange", Rows.laid_strconv_ErrRange), ("strconv.ErrSyntax", Rows.laid_strconv_ErrSyntax), ("shapesearch/unit.powers", Rows.laid_shapesearch_unit_powers), ("unicode/utf8.first", Rows.laid_unicode_utf8_first)] w) ∧ sizedMet enc Tryz.prog Tryz.f4 (OpenSpec.ofChange Rows.topGapsSpec) false w args)
      (Rows.topGapsSpec.post enc Tryz.prog Tryz.f4 false true false false) := by
  refine returnsInHanded_of_change_and (C := Tryz.checked) (X := fun w _ => laidMetH Tryz.prog [("math/bits.deBruijn32tab", Rows.laid_math_bits_deBruijn32tab), ("math/bits.deBruijn64tab", Rows.laid_math_bits_deBruijn64tab), ("internal/strconv.uint64pow10", Rows.laid_internal_strconv_uint64pow10), ("unicode/utf8.acceptRanges", Rows.laid_unicode_utf8_acceptRanges), ("strconv.ErrRange", Rows.laid_strconv_ErrRange), ("strconv.ErrSyntax", Rows.laid_strconv_ErrSyntax), ("shapesearch/unit.powers", Rows.laid_shapesearch_unit_powers), ("unicode/utf8.first", Rows.laid_unicode_utf8_first)] w) (fun _ _ _ hh h => h.of_heap hh) own started (by kernel_rfl) Tryz.func4
    (ChangeSpec.witness_shaped (enc := enc) (C := Tryz.checked) (os := os) (X := fun w _ => laidMetH Tryz.prog [("math/bits.deBruijn32tab", Rows.laid_math_bits_deBruijn32tab), ("math/bits.deBruijn64tab", Rows.laid_math_bits_deBruijn64tab), ("internal/strconv.uint64pow10", Rows.laid_internal_strconv_uint64pow10), ("unicode/utf8.acceptRanges", Rows.laid_unicode_utf8_acceptRanges), ("strconv.ErrRange", Rows.laid_strconv_ErrRange), ("strconv.ErrSyntax", Rows.laid_strconv_ErrSyntax), ("shapesearch/unit.powers", Rows.laid_shapesearch_unit_powers), ("unicode/utf8.first", Rows.laid_unicode_utf8_first)] w) false (pinWorld os) #[.slice none 0 0, .int .u8 0] 8 rfl (World.shaped_of_RefB (by kernel_rfl) (by kernel_rfl)) (by kernel_rfl) (by kernel_rfl) (by kernel_rfl) (door_met os _)) ?_
  intro W base args ds gs before hval0 hW _ _ hL hsz
  have hval : ∀ (j : Nat) t v, Tryz.f4.params[j]? = some t → args[j]? = some v → Value.okWide Tryz.prog W .any base t v := hval0
  have hW' := hW
  obtain ⟨p, q, hA0, hV, rfl, hfz, hnd⟩ := hW
  have hA : DataW.TrodAll enc Tryz.prog W 0 (fun _ => true) true Tryz.f4.params.toList args.toList ds p := hA0
  rw [Tryz.params4] at hA hval
  obtain ⟨v0, vs0, d0, ds0, p0, q0, hargs, rfl, rfl, h0, r0⟩ := trodAll_cons hA
  obtain ⟨v1, vs1, d1, ds1, p1, q1, rfl, rfl, rfl, h1, r1⟩ := trodAll_cons r0
  obtain ⟨rfl, rfl, rfl⟩ := trodAll_nil r1
  obtain rfl : args = #[v0, v1] := by cases args; simp_all
  obtain ⟨rfl, rfl⟩ := trodVars_none hV
  obtain ⟨a0, len0, cap0, rfl⟩ := okWide_slice Tryz.underlying22 (hval 0 22 v0 rfl rfl)
  have k0 := h0
  have lt0 : ∀ x ∈ p0, x.block < W.heap.size := by obtain ⟨m, hm⟩ := k0; exact DataW.trod_lt m _ _ _ hm
  obtain ⟨z0, w0⟩ : ∃ zs, IsRow .i64 W a0 len0 cap0 zs := by
    obtain ⟨fuel, hf⟩ := h0
    rcases open_ints Tryz.underlying22 Tryz.underlying3 (by kernel_rfl) hf with ⟨hcs, _⟩ | ⟨x, l, c, zs, hcs, _, hl, hm, hz, _, hcell, hwz⟩
    · simp [Value.cells] at hcs
      obtain ⟨rfl, rfl, rfl⟩ := hcs
      exact ⟨[], .inl ⟨rfl, rfl, rfl, rfl⟩⟩
    · simp [Value.cells] at hcs
      obtain ⟨rfl, rfl, rfl⟩ := hcs
      exact ⟨zs, .inr ⟨_, rfl, hl, hm, by simpa using hz, hcell, hwz⟩⟩
  obtain ⟨a1, rfl, rfl, rfl, w1⟩ := open_int Tryz.underlying5 (hval 1 5 v1 rfl rfl) h1
  clear hA0 hval0
  refine (walk a0 len0 cap0 z0 a1 W (Tp.lt_of hL) w0 w1).mono fun e W' ⟨he, bel⟩ => ?_
  subst he
  exact ⟨_, rfl, _, _, _, [], _, [], hW', trodAll_mk1 (shut_bool Tryz.underlying4 _), (trodAll_cons_mk (Below.trod laidOut (by kernel_rfl) (of_decide_eq_true (by kernel_rfl)) k0 bel lt0) (trodAll_cons_mk (shut_int Tryz.underlying5 w1) trodAll_mk0)), rfl, bel.frame _, fun h => by cases h⟩

theorem over : Rows.topGapsRow.holds Tryz.pinned (OpenSpec.ofChange Rows.topGapsSpec) :=
  OpenClaim.holds_of_wide 4 Tryz.f4 rfl rfl rfl rfl rfl rfl rfl ⟨rfl, rfl, rfl, rfl, rfl⟩ rfl rfl rfl rfl rfl (by kernel_rfl) Tryz.func4 (by kernel_rfl)
    (of_decide_eq_true (by kernel_rfl)) (by unfold Func.isWrapper; first | (rw [if_pos (by decide +kernel)]; kernel_rfl) | (rw [if_neg (by decide +kernel)]; exact ⟨rfl, rfl⟩))
    (fun os started H enc _ => lifted os started H enc)

theorem proved : Rows.TopGapsCardSaid :=
  Claim7.holds_tied_plain_at .later [] [.data, .data, .data, .data, .sentinel, .sentinel, .data, .pinned] true (true, "60be8fb1409295235409709c52a9f4b86daa3b870465fbc2e54aa951450a2bc1") true
    over (fun _ h => by cases h) (by kernel_rfl) (fun _ h => by cases h) topGaps_row_tie rfl ⟨rfl, rfl⟩ (by kernel_rfl) rfl
    (fun f fn hf hfn => by
      obtain rfl : f = 4 := Option.some.inj ((show Tryz.prog.funcNamed "shapesearch/shapesearchtop.TopGaps" = some 4 by kernel_rfl).symm.trans hf) |>.symm
      obtain rfl : fn = Tryz.f4 := (Option.some.inj (Tryz.func4.symm.trans hfn)).symm
      exact ⟨by kernel_rfl, fun j t ht => by
        rw [Tryz.params4] at ht
        have hm : t ∈ [22, 5] := by simpa using Array.mem_of_getElem? ht
        have hall : ([22, 5].all fun u => !Tryz.prog.wantsStandIn u) = true := by kernel_rfl
        exact (show Tryz.prog.wantsStandIn t = false by simpa using List.all_eq_true.1 hall t hm)⟩)
    (by kernel_rfl)
end Go.Proofs.YtnjojdmmalmhaaaGreatDoor.topGaps
