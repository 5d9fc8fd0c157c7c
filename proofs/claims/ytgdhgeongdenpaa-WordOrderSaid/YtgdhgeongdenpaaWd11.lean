/- word.Coordinates. -/
import Derived.Test.YtgdhgeongdenpaaWd10
import Derived.Test.YtgdhgeongdenpaaPieC
import Derived.Test.YtgdhgeongdenpaaHalf
import Derived.Test.YtgdhgeongdenpaaRootWalks
namespace Go.Proofs.Ytgdhgeongdenpaa.Wd
open Go.ChangeShapes Go.WideShapes Go.RowKit Wo Sr Wi Ms Pc Nr Rt
set_option linter.unusedVariables false
set_option linter.unusedSimpArgs false
theorem sts_at (m n k : Nat) (n1 : 1 ≤ n) (h : k ≤ n) : (sts m n).getD k 0 = (st m n k : Int) := by
  rw [List.getD_eq_getElem?_getD]
  unfold sts
  rcases Nat.lt_or_ge k n with h1 | h1
  · rw [List.getElem?_append_left (by simpa using h1), List.getElem?_map, List.getElem?_range h1]; rfl
  · obtain rfl : k = n := by omega
    rw [List.getElem?_append_right (by simp)]
    simp [st_all m k n1]
/-- the length of a piece -/
def pln (m n p : Nat) : Nat := st m n (p + 1) - st m n p
theorem pln_in (m n p : Nat) (n1 : 1 ≤ n) (nm : n ≤ m) (m32 : m ≤ 32) (hp : p < n) : 1 ≤ pln m n p ∧ pln m n p ≤ 32 ∧ st m n p ≤ 32 ∧ st m n (p + 1) ≤ 32 ∧ st m n p + pln m n p = st m n (p + 1) := by
  have h1 := st_step m n p (by omega)
  have h2 : 1 ≤ m / n := (Nat.le_div_iff_mul_le (by omega)).2 (by omega)
  have h3 := st_le m n (p + 1) (by omega) (by omega)
  have h4 := st_le m n p (by omega) (by omega)
  unfold pln
  omega
instance (t e : Int) : Decidable (QIn t e) := by unfold QIn; exact inferInstance
/-- the coordinate of a piece -/
def cdl (k : Int) (X : List Int) (m n p : Nat) : Int :=
  if k = 2 then (pls (cen X) m n).getD p 0 / ((m : Int) * (pln m n p : Int))
  else if k = 3 then (if QIn (64 * (pls (cen X) m n).getD p 0) ((m : Int) * pr X X) then quo (64 * (pls (cen X) m n).getD p 0) ((m : Int) * pr X X) else 0)
  else (pls X m n).getD p 0 / (pln m n p : Int)
/-- the coordinates -/
def cds (k : Int) (X : List Int) (m n : Nat) : List Int := (List.range n).map (cdl k X m n)
theorem cds_len (k : Int) (X : List Int) (m n : Nat) : (cds k X m n).length = n := by simp [cds]
theorem cds_at (k : Int) (X : List Int) (m n p : Nat) (h : p < n) : (cds k X m n).getD p 0 = cdl k X m n p := by
  unfold cds
  rw [List.getD_eq_getElem?_getD, List.getElem?_map, List.getElem?_range h]; rfl
theorem quot_any (t e : Int) (w : World) : Calls Try.prog 51 #[.int .i64 t, .int .i64 e] w fun r w' => ∃ x, r = .returned (.tuple #[.int .i64 (if QIn t e then quo t e else 0), .int .i64 x]) ∧ w = w' := by
  by_cases h : QIn t e
  · rw [if_pos h]
    exact (quo_in t e w h).mono (by rintro r w' ⟨rfl, rfl⟩; exact ⟨0, rfl, rfl⟩)
  · rw [if_neg h]
    exact (quo_out t e w h).mono (by rintro r w' ⟨rfl, rfl⟩; exact ⟨1, rfl, rfl⟩)
/-- a new row of so many numbers -/
def SomeCo (n : Nat) (L : List Int) (w : World) (e : Ending) (w' : World) : Prop := ∃ a, e = .returned (.tuple #[.slice (some ⟨a, 0, none⟩) n n, .int .i64 0]) ∧ w.heap.size ≤ a ∧ Bk w' a 3 (zs L).toArray ∧ Bel w w'
set_option maxHeartbeats 8000000 in
set_option maxRecDepth 100000 in
theorem coords_ok (k b g : Int) (m n : Nat) (A : Option Addr) (nc cc : Nat) (C : List Int) (hx c : Nat) (X : List Int) (hs : Sv k b g m n C) (hX : Sam X) (mc : m ≤ c) (w : World) (hz : Zi w A nc C) (hzx : Zi w (some ⟨hx, 0, none⟩) m X) :
    Calls Try.prog 14 #[Sx k b g m n A nc cc, .slice (some ⟨hx, 0, none⟩) m c] w (SomeCo n (cds k X m n) w) := by
  obtain ⟨i0, hi0, hz0, hz1, hz2⟩ := info_parts info_int
  have HI := Lib.hid (And.intro hi0 (And.intro hz0 (And.intro hz1 hz2)))
  clear hi0 hz0 hz1 hz2
  obtain ⟨hmv, m2, m32, n1, n8, nm, hcv⟩ := hs
  have hlX := hzx.1
  have CK : Hid (∀ W, Bel w W → Calls Try.prog 44 #[.agg #[.int .i64 k, .int .i64 b, .int .i64 g, .int .i64 (m : Int), .int .i64 (n : Int), .slice A nc cc]] W fun e w' => e = .returned (.int .i64 0) ∧ Bel W w') := fun W hW => wcheck_ok k b g m n A nc cc C ⟨hmv, m2, m32, n1, n8, nm, hcv⟩ W (hz.bel hW)
  have SM : Hid (∀ W, Bel w W → Calls Try.prog 45 #[.slice (some ⟨hx, 0, none⟩) m c] W fun e w' => e = .returned (.bool true) ∧ Bel W w') := fun W hW => samples_ok (some ⟨hx, 0, none⟩) c m X (by omega) hX W (hzx.bel hW)
  have ST : Hid (∀ W, _) := fun W => Starts_ok m n m2 m32 n1 n8 nm W
  have SU : Hid (∀ W, Bel w W → _) := fun W hW => Sums_ok hx c m n X m2 m32 n1 n8 nm mc hX W (hzx.bel hW)
  have CE : Hid (∀ W, Bel w W → _) := fun W hW => Cen_ok hx c m n X m2 m32 n1 n8 nm mc hX W (hzx.bel hW)
  have PR : Hid (∀ W, Bel w W → Calls Try.prog 49 #[.slice (some ⟨hx, 0, none⟩) m c, .slice (some ⟨hx, 0, none⟩) m c] W fun e w' => e = .returned (.tuple #[.int .i64 (pr X X), .int .i64 0]) ∧ Bel W w') := fun W hW => Product_ok (some ⟨hx, 0, none⟩) (some ⟨hx, 0, none⟩) c c m X X m2 m32 hX hX W (hzx.bel hW) (hzx.bel hW)
  have hV := vr_le hX (by omega)
  rw [← pr_self] at hV
  obtain ⟨V, hVV⟩ : ∃ V, pr X X = V := ⟨_, rfl⟩
  rw [hVV] at hV PR
  obtain ⟨V0, V1⟩ := hV
  have HVV := Lib.hid hVV
  have HPB : Hid (∀ p, p < n → -2048000 ≤ (pls (cen X) m n).getD p 0 ∧ (pls (cen X) m n).getD p 0 ≤ 2048000) := pls_bd (Pc.cen_bd hX (by omega)) m32 n1
  have HPS : Hid (∀ p, p < n → -2048000 ≤ (pls X m n).getD p 0 ∧ (pls X m n).getD p 0 ≤ 2048000) := pls_bd (fun x h => by have := hX x h; omega) m32 n1
  have HPL : Hid (∀ p, p < n → 1 ≤ pln m n p ∧ pln m n p ≤ 32 ∧ st m n p ≤ 32 ∧ st m n (p + 1) ≤ 32 ∧ st m n p + pln m n p = st m n (p + 1)) := fun p hp => pln_in m n p n1 nm m32 hp
  have ni : (n : Int) ≤ 8 := by omega
  have ni1 : 1 ≤ (n : Int) := by omega
  have mi2 : 2 ≤ (m : Int) := by omega
  have mi32 : (m : Int) ≤ 32 := by omega
  have nnm := ne_self (m : Int)
  have HB0 : Hid (Bk (w.alloc (.cells #[.int .i64 k, .int .i64 b, .int .i64 g, .int .i64 (m : Int), .int .i64 (n : Int), .slice A nc cc] 28)) w.heap.size 28 #[.int .i64 k, .int .i64 b, .int .i64 g, .int .i64 (m : Int), .int .i64 (n : Int), .slice A nc cc]) := Bk.nw _ _ _
  have HW0 : Hid (Bel w (w.alloc (.cells #[.int .i64 k, .int .i64 b, .int .i64 g, .int .i64 (m : Int), .int .i64 (n : Int), .slice A nc cc] 28))) := Bel.rf.al _
  have HMK : Hid (k = 2 ∨ k = 3 ∨ (k ≠ 2 ∧ k ≠ 3)) := by
    by_cases h2 : k = 2
    · exact .inl h2
    · by_cases h3 : k = 3
      · exact .inr (.inl h3)
      · exact .inr (.inr ⟨h2, h3⟩)
  clear hmv hcv hz hzx hX hlX hVV
  unfold Sx
  go_enter Try.func14, Try.ntmps14
  go_wp2_with fail
  go_at_call 44
  refine (CK.out _ (by repeat (first | exact Bel.rf | (with_reducible refine Bel.drwN ?_ _) | (with_reducible refine Bel.drw ?_) | (with_reducible refine Bel.al ?_ _)))).mono ?_
  rintro e w1 ⟨rfl, hb1⟩
  have HB1 := Lib.hid ((HB0.out.bel (by repeat (first | exact Bel.rf | (with_reducible refine Bel.drwN ?_ _) | (with_reducible refine Bel.drw ?_) | (with_reducible refine Bel.al ?_ _)))).bel hb1)
  have HW1 : Hid (Bel w w1) := HW0.out.tr (Bel.tr (by repeat (first | exact Bel.rf | (with_reducible refine Bel.drwN ?_ _) | (with_reducible refine Bel.drw ?_) | (with_reducible refine Bel.al ?_ _))) hb1)
  have q3 := HB1.out.cell 3
  simp only [List.getElem?_toArray, List.getElem?_cons_zero, List.getElem?_cons_succ] at q3
  clear hb1
  go_wp2_with fail
  go_at_call 45
  refine (SM.out _ (by repeat (first | exact HW1.out | (with_reducible refine Bel.drwN ?_ _) | (with_reducible refine Bel.drw ?_) | (with_reducible refine Bel.al ?_ _)))).mono ?_
  rintro e w2 ⟨rfl, hb2⟩
  have HB2 := Lib.hid ((HB1.out.bel (by repeat (first | exact Bel.rf | (with_reducible refine Bel.drwN ?_ _) | (with_reducible refine Bel.drw ?_) | (with_reducible refine Bel.al ?_ _)))).bel hb2)
  have HW2 : Hid (Bel w w2) := HW1.out.tr (Bel.tr (by repeat (first | exact Bel.rf | (with_reducible refine Bel.drwN ?_ _) | (with_reducible refine Bel.drw ?_) | (with_reducible refine Bel.al ?_ _))) hb2)
  have r3 := HB2.out.cell 3
  have r4 := HB2.out.cell 4
  simp only [List.getElem?_toArray, List.getElem?_cons_zero, List.getElem?_cons_succ] at r3 r4
  clear hb2 q3
  go_wp2_with fail
  go_at_call 46
  refine (ST.out _).mono ?_
  rintro e w3 ⟨ha, ca, rfl, qa1, qa2, qa3, hb3⟩
  have HA := Lib.hid (own_zi qa3 (sts_len m n))
  have HB3 := Lib.hid ((HB2.out.bel (by repeat (first | exact Bel.rf | (with_reducible refine Bel.drwN ?_ _) | (with_reducible refine Bel.drw ?_) | (with_reducible refine Bel.al ?_ _)))).bel hb3)
  have HW3 : Hid (Bel w w3) := HW2.out.tr (Bel.tr (by repeat (first | exact Bel.rf | (with_reducible refine Bel.drwN ?_ _) | (with_reducible refine Bel.drw ?_) | (with_reducible refine Bel.al ?_ _))) hb3)
  have s4 := HB3.out.cell 4
  simp only [List.getElem?_toArray, List.getElem?_cons_zero, List.getElem?_cons_succ] at s4
  clear hb3 r3 r4 qa3 qa2
  go_wp2_with fail
  go_at_call 47
  refine (SU.out _ (by repeat (first | exact HW3.out | (with_reducible refine Bel.drwN ?_ _) | (with_reducible refine Bel.drw ?_) | (with_reducible refine Bel.al ?_ _)))).mono ?_
  rintro e w4 ⟨hu, cu, rfl, qu1, qu2, qu3, hb4⟩
  have HU := Lib.hid (own_zi qu3 (pls_len X m n))
  have hc34 : Bel w3 w4 := Bel.tr (by repeat (first | exact Bel.rf | (with_reducible refine Bel.drwN ?_ _) | (with_reducible refine Bel.drw ?_) | (with_reducible refine Bel.al ?_ _))) hb4
  have HB4 := Lib.hid (HB3.out.bel hc34)
  have HA4 := Lib.hid (HA.out.bel hc34)
  have HW4 : Hid (Bel w w4) := HW3.out.tr hc34
  have t4 := HB4.out.cell 4
  simp only [List.getElem?_toArray, List.getElem?_cons_zero, List.getElem?_cons_succ] at t4
  clear hb4 s4 qu3 qu2 hc34
  go_wp2_with fail
  go_at_call 48
  refine (CE.out _ (by repeat (first | exact HW4.out | (with_reducible refine Bel.drwN ?_ _) | (with_reducible refine Bel.drw ?_) | (with_reducible refine Bel.al ?_ _)))).mono ?_
  rintro e w5 ⟨hv, cv, rfl, qv1, qv2, qv3, hb5⟩
  have HV := Lib.hid (own_zi qv3 (pls_len (cen X) m n))
  have hc45 : Bel w4 w5 := Bel.tr (by repeat (first | exact Bel.rf | (with_reducible refine Bel.drwN ?_ _) | (with_reducible refine Bel.drw ?_) | (with_reducible refine Bel.al ?_ _))) hb5
  have HB5 := Lib.hid (HB4.out.bel hc45)
  have HA5 := Lib.hid (HA4.out.bel hc45)
  have HU5 := Lib.hid (HU.out.bel hc45)
  have HW5 : Hid (Bel w w5) := HW4.out.tr hc45
  clear hb5 t4 qv3 qv2 hc45
  go_wp2_with fail
  go_at_call 49
  refine (PR.out _ (by repeat (first | exact HW5.out | (with_reducible refine Bel.drwN ?_ _) | (with_reducible refine Bel.drw ?_) | (with_reducible refine Bel.al ?_ _)))).mono ?_
  rintro e w6 ⟨rfl, hb6⟩
  have hc56 : Bel w5 w6 := Bel.tr (by repeat (first | exact Bel.rf | (with_reducible refine Bel.drwN ?_ _) | (with_reducible refine Bel.drw ?_) | (with_reducible refine Bel.al ?_ _))) hb6
  have HB6 := Lib.hid (HB5.out.bel hc56)
  have HA6 := Lib.hid (HA5.out.bel hc56)
  have HU6 := Lib.hid (HU5.out.bel hc56)
  have HV6 := Lib.hid (HV.out.bel hc56)
  have HW6 : Hid (Bel w w6) := HW5.out.tr hc56
  have u4 := HB6.out.cell 4
  simp only [List.getElem?_toArray, List.getElem?_cons_zero, List.getElem?_cons_succ] at u4
  clear hb6 hc56
  obtain ⟨L, hL⟩ : ∃ L, cds k X m n = L := ⟨_, rfl⟩
  have HLE := Lib.hid hL
  have HLL : Hid (L.length = n) := by show _ = _; rw [← hL]; exact cds_len _ _ _ _
  have HLA : Hid (∀ p, p < n → L.getD p 0 = cdl k X m n p) := fun p hp => by rw [← hL]; exact cds_at _ _ _ _ p hp
  have HR0 : Hid (Bk (w6.alloc (.cells (zs (List.replicate n 0)).toArray 3)) w6.heap.size 3 (zs (fil L 0)).toArray) := by show Bk _ _ _ _; rw [fil_zero, HLL.out]; exact Bk.nw _ _ _
  have HRB : Hid (Bel w6 (w6.alloc (.cells (zs (List.replicate n 0)).toArray 3))) := Bel.rf.al _
  clear hL
  go_wp2_with (refine wpList_make_any _ rfl (.tmp 60) (.tmp 60) 22 rfl 3 i0 (.int .i64 0) 1 Try.underlying22 HI.out.1 HI.out.2.1 HI.out.2.2.1 .i64 .i64 _ _ n n rfl rfl rfl rfl (by omega) (by rw [HI.out.2.2.2]; omega) (by omega) ?_; rw [made_i64])
  go_loopw [64] (fun s64 wr => ∃ (i : Nat) (V : World), V = wr ∧ i ≤ n ∧ s64 = .int .i64 (i : Int) ∧ Bk wr w6.heap.size 3 (zs (fil L i)).toArray ∧ Bel w6 wr) (fun s64 _ => n - (intOf s64).toNat)
  case atStart => exact ⟨0, _, rfl, by omega, rfl, HR0.out.bel (by repeat (first | exact Bel.rf | (with_reducible refine Bel.drwN ?_ _) | (with_reducible refine Bel.drw ?_) | (with_reducible refine Bel.al ?_ _))), HRB.out.tr (by repeat (first | exact Bel.rf | (with_reducible refine Bel.drwN ?_ _) | (with_reducible refine Bel.drw ?_) | (with_reducible refine Bel.al ?_ _)))⟩
  case round =>
    obtain ⟨i, wr, hwr, hi, rfl, hk, hb⟩ := hrel
    subst hwr
    have HR := Lib.hid hb
    have HK := Lib.hid hk
    clear hb hk u4
    rcases Nat.lt_or_ge i n with hlt | hge
    · obtain ⟨pl1, pl2, pl3, pl4, pl5⟩ := HPL.out i hlt
      have hcu := HPS.out i hlt
      have hcv := HPB.out i hlt
      have a1 := HA6.out.at i (by omega)
      have a2 := HA6.out.at (i + 1) (by omega)
      rw [sts_at m n i n1 (by omega)] at a1
      rw [sts_at m n (i + 1) n1 (by omega)] at a2
      have x1 := HU6.out.at i hlt
      have x2 := HV6.out.at i hlt
      have hla := HLA.out i hlt
      unfold cdl at hla
      rw [HVV.out] at hla
      obtain ⟨T1, hT1⟩ : ∃ T, st m n i = T := ⟨_, rfl⟩
      obtain ⟨T2, hT2⟩ : ∃ T, st m n (i + 1) = T := ⟨_, rfl⟩
      obtain ⟨Q, hQ⟩ : ∃ T, pln m n i = T := ⟨_, rfl⟩
      obtain ⟨u, hu0⟩ : ∃ T, (pls X m n).getD i 0 = T := ⟨_, rfl⟩
      obtain ⟨v, hv0⟩ : ∃ T, (pls (cen X) m n).getD i 0 = T := ⟨_, rfl⟩
      obtain ⟨R, hR⟩ : ∃ T, L.getD i 0 = T := ⟨_, rfl⟩
      rw [hT1] at a1 pl3 pl5
      rw [hT2] at a2 pl4 pl5
      rw [hQ] at pl1 pl2 pl5 hla
      rw [hu0] at x1 hcu hla
      rw [hv0] at x2 hcv hla
      rw [hR] at hla
      obtain ⟨u1, u2⟩ := hcu
      obtain ⟨v1, v2⟩ := hcv
      have b0 := HB6.out.cell 0
      have b3 := HB6.out.cell 3
      simp only [List.getElem?_toArray, List.getElem?_cons_zero, List.getElem?_cons_succ] at b0 b3
      have KS : Hid (∀ W, Bel w6 W → W.cell? (⟨ha, i, none⟩ : Addr) = some (.int .i64 (T1 : Int)) ∧ W.cell? (⟨ha, i + 1, none⟩ : Addr) = some (.int .i64 (T2 : Int)) ∧ W.cell? (⟨hu, i, none⟩ : Addr) = some (.int .i64 u) ∧ W.cell? (⟨hv, i, none⟩ : Addr) = some (.int .i64 v) ∧ W.cell? (⟨w.heap.size, 0, none⟩ : Addr) = some (.int .i64 k) ∧ W.cell? (⟨w.heap.size, 3, none⟩ : Addr) = some (.int .i64 (m : Int))) := fun W hW => ⟨hW.kp a1, hW.kp a2, hW.kp x1, hW.kp x2, hW.kp b0, hW.kp b3⟩
      have ii : (i : Int) < (n : Int) := by omega
      have i0 : (0 : Int) ≤ (i : Int) := by omega
      have in1 : (i : Int) + 1 < ((n + 1 : Nat) : Int) := by omega
      have in2 : (i : Int) < ((n + 1 : Nat) : Int) := by omega
      have in3 : (i : Int) + 1 < (n : Int) + 1 := by omega
      have in4 : (i : Int) < (n : Int) + 1 := by omega
      have wi1 : IntKind.i64.wrap ((i : Int) + 1) = (i : Int) + 1 := IntWalk.i64_in _ (by omega)
      have i10 : (0 : Int) ≤ (i : Int) + 1 := by omega
      have tQ : (T2 : Int) - (T1 : Int) = (Q : Int) := by omega
      have wQ : IntKind.i64.wrap (Q : Int) = (Q : Int) := IntWalk.i64_in _ (by omega)
      have wQ2 : IntKind.i64.wrap ((T2 : Int) - (T1 : Int)) = (Q : Int) := by rw [tQ]; exact wQ
      have Q1 : 1 ≤ (Q : Int) := by omega
      have Q32 : (Q : Int) ≤ 32 := by omega
      have HN : Hid ((zs (fil L i)).toArray.setIfInBounds i (.int .i64 R) = (zs (fil L (i + 1))).toArray) := by
        show _ = _
        rw [← fil_set L i (by rw [HLL.out]; exact hlt), hR]; simp [zs]
      have HG : Hid (∀ W, Bk W w6.heap.size 3 (zs (fil L i)).toArray → (∃ y, W.cell? (⟨w6.heap.size, i, none⟩ : Addr) = some y) ∧ W.frozen? (⟨w6.heap.size, i, none⟩ : Addr) = false) := fun W hW => by
        have e := zs_at (L := fil L i) (j := i) (by rw [fil_len _ _ (by rw [HLL.out]; omega), HLL.out]; exact hlt)
        exact ⟨⟨.int .i64 ((fil L i).getD i 0), by rw [hW.cell i, List.getElem?_toArray]; exact e⟩, hW.fr _⟩
      obtain ⟨⟨y0, gc⟩, gf⟩ := HG.out wr HK.out
      have s1 := (KS.out wr HR.out).2.2.2.2.1
      clear a1 a2 x1 x2 b0 b3 hT1 hT2 hQ hu0 hv0 hR pl5
      have hkk := HMK.out
      go_wp2_with fail
      refine wp_region_noPanic ?_
      refine wp_region_held_drew (S := fun W => Bel w6 W) (by kernel_rfl) ?_ (fun hH0 => ?_)
      · (try dsimp only); exact (by repeat (first | exact HR.out | (with_reducible refine Bel.drwN ?_ _) | (with_reducible refine Bel.drw ?_) | (with_reducible refine Bel.al ?_ _) | ((with_reducible refine Bel.st2 ?_ ?_ _); exact Nat.le_refl _)))
      refine wpAnyH_take (i := 0) (oi := ⟨some 67, .move (.tmp 7), 22, "word.go:54", #[], none⟩) (v := ?_) rfl (by kernel_rfl) (by kernel_rfl) (by kernel_rfl) (fun _ _ _ h => h) (Or.inl ⟨by first | kernel_rfl | rfl, ?_⟩) (by assumption) ?_
      rotate_left
      · (intro w hSw; (try dsimp only at hSw); obtain ⟨d1, d2, d3, d4, d5, d6⟩ := KS.out _ hSw; go_simp; try with_reducible rfl)
      try simp only [Act.put, List.setIfInBounds_toArray, List.set_cons_zero, List.set_cons_succ]
      refine wpAnyH_take (i := 1) (oi := ⟨some 68, .move (.tmp 16), 3, "word.go:54", #[], none⟩) (v := ?_) rfl (by kernel_rfl) (by kernel_rfl) (by kernel_rfl) (fun _ _ _ h => h) (Or.inl ⟨by first | kernel_rfl | rfl, ?_⟩) (by assumption) ?_
      rotate_left
      · (intro w hSw; (try dsimp only at hSw); obtain ⟨d1, d2, d3, d4, d5, d6⟩ := KS.out _ hSw; go_simp; try with_reducible rfl)
      try simp only [Act.put, List.setIfInBounds_toArray, List.set_cons_zero, List.set_cons_succ]
      refine wpAnyH_take (i := 2) (oi := ⟨some 69, .binOp BinOp.add 3 (.tmp 68) (.const (.int IntKind.i64 1)) 3, 3, "word.go:54", #[⟨1, .data⟩], none⟩) (v := ?_) rfl (by kernel_rfl) (by kernel_rfl) (by kernel_rfl) (fun _ _ _ h => h) (Or.inl ⟨by first | kernel_rfl | rfl, ?_⟩) (by assumption) ?_
      rotate_left
      · (intro w hSw; (try dsimp only at hSw); obtain ⟨d1, d2, d3, d4, d5, d6⟩ := KS.out _ hSw; go_simp; try with_reducible rfl)
      try simp only [Act.put, List.setIfInBounds_toArray, List.set_cons_zero, List.set_cons_succ]
      refine wpAnyH_take (i := 3) (oi := ⟨some 70, .indexAddr 22 (.tmp 67) (.tmp 69), 0, "word.go:54", #[⟨0, .data⟩, ⟨2, .data⟩], none⟩) (v := ?_) rfl (by kernel_rfl) (by kernel_rfl) (by kernel_rfl) (fun _ _ _ h => h) (Or.inl ⟨by first | kernel_rfl | rfl, ?_⟩) (by assumption) ?_
      rotate_left
      · (intro w hSw; (try dsimp only at hSw); obtain ⟨d1, d2, d3, d4, d5, d6⟩ := KS.out _ hSw; go_simp; try with_reducible rfl)
      try simp only [Act.put, List.setIfInBounds_toArray, List.set_cons_zero, List.set_cons_succ]
      refine wpAnyH_take (i := 4) (oi := ⟨some 71, .load 3 (.tmp 70), 3, "word.go:54", #[⟨3, .data⟩], none⟩) (v := ?_) rfl (by kernel_rfl) (by kernel_rfl) (by kernel_rfl) (fun _ _ _ h => h) (Or.inl ⟨by first | kernel_rfl | rfl, ?_⟩) (by assumption) ?_
      rotate_left
      · (intro w hSw; (try dsimp only at hSw); obtain ⟨d1, d2, d3, d4, d5, d6⟩ := KS.out _ hSw; go_simp; try with_reducible rfl)
      try simp only [Act.put, List.setIfInBounds_toArray, List.set_cons_zero, List.set_cons_succ]
      refine wpAnyH_take (i := 5) (oi := ⟨some 72, .move (.tmp 7), 22, "word.go:54", #[], none⟩) (v := ?_) rfl (by kernel_rfl) (by kernel_rfl) (by kernel_rfl) (fun _ _ _ h => h) (Or.inl ⟨by first | kernel_rfl | rfl, ?_⟩) (by assumption) ?_
      rotate_left
      · (intro w hSw; (try dsimp only at hSw); obtain ⟨d1, d2, d3, d4, d5, d6⟩ := KS.out _ hSw; go_simp; try with_reducible rfl)
      try simp only [Act.put, List.setIfInBounds_toArray, List.set_cons_zero, List.set_cons_succ]
      refine wpAnyH_take (i := 6) (oi := ⟨some 73, .move (.tmp 16), 3, "word.go:54", #[], none⟩) (v := ?_) rfl (by kernel_rfl) (by kernel_rfl) (by kernel_rfl) (fun _ _ _ h => h) (Or.inl ⟨by first | kernel_rfl | rfl, ?_⟩) (by assumption) ?_
      rotate_left
      · (intro w hSw; (try dsimp only at hSw); obtain ⟨d1, d2, d3, d4, d5, d6⟩ := KS.out _ hSw; go_simp; try with_reducible rfl)
      try simp only [Act.put, List.setIfInBounds_toArray, List.set_cons_zero, List.set_cons_succ]
      refine wpAnyH_take (i := 7) (oi := ⟨some 74, .indexAddr 22 (.tmp 72) (.tmp 73), 0, "word.go:54", #[⟨5, .data⟩, ⟨6, .data⟩], none⟩) (v := ?_) rfl (by kernel_rfl) (by kernel_rfl) (by kernel_rfl) (fun _ _ _ h => h) (Or.inl ⟨by first | kernel_rfl | rfl, ?_⟩) (by assumption) ?_
      rotate_left
      · (intro w hSw; (try dsimp only at hSw); obtain ⟨d1, d2, d3, d4, d5, d6⟩ := KS.out _ hSw; go_simp; try with_reducible rfl)
      try simp only [Act.put, List.setIfInBounds_toArray, List.set_cons_zero, List.set_cons_succ]
      refine wpAnyH_take (i := 8) (oi := ⟨some 75, .load 3 (.tmp 74), 3, "word.go:54", #[⟨7, .data⟩], none⟩) (v := ?_) rfl (by kernel_rfl) (by kernel_rfl) (by kernel_rfl) (fun _ _ _ h => h) (Or.inl ⟨by first | kernel_rfl | rfl, ?_⟩) (by assumption) ?_
      rotate_left
      · (intro w hSw; (try dsimp only at hSw); obtain ⟨d1, d2, d3, d4, d5, d6⟩ := KS.out _ hSw; go_simp; try with_reducible rfl)
      try simp only [Act.put, List.setIfInBounds_toArray, List.set_cons_zero, List.set_cons_succ]
      refine wpAnyH_take (i := 9) (oi := ⟨some 76, .binOp BinOp.sub 3 (.tmp 71) (.tmp 75) 3, 3, "word.go:54", #[⟨4, .data⟩, ⟨8, .data⟩], none⟩) (v := ?_) rfl (by kernel_rfl) (by kernel_rfl) (by kernel_rfl) (fun _ _ _ h => h) (Or.inl ⟨by first | kernel_rfl | rfl, ?_⟩) (by assumption) ?_
      rotate_left
      · (intro w hSw; (try dsimp only at hSw); obtain ⟨d1, d2, d3, d4, d5, d6⟩ := KS.out _ hSw; go_simp; try with_reducible rfl)
      try simp only [Act.put, List.setIfInBounds_toArray, List.set_cons_zero, List.set_cons_succ]
      refine wpAnyH_take (i := 10) (oi := ⟨some 17, .assign (.tmp 76), 3, "word.go:54", #[⟨9, .data⟩, ⟨0, .phase⟩, ⟨1, .phase⟩, ⟨2, .phase⟩, ⟨3, .phase⟩, ⟨4, .phase⟩, ⟨5, .phase⟩, ⟨6, .phase⟩, ⟨7, .phase⟩, ⟨8, .phase⟩, ⟨9, .phase⟩], none⟩) (v := ?_) rfl (by kernel_rfl) (by kernel_rfl) (by kernel_rfl) (fun _ _ _ h => h) (Or.inl ⟨by first | kernel_rfl | rfl, ?_⟩) (by assumption) ?_
      rotate_left
      · (intro w hSw; (try dsimp only at hSw); obtain ⟨d1, d2, d3, d4, d5, d6⟩ := KS.out _ hSw; go_simp; try with_reducible rfl)
      try simp only [Act.put, List.setIfInBounds_toArray, List.set_cons_zero, List.set_cons_succ]
      refine wpAnyH_done (by kernel_rfl) ?_ _
      refine NoPanic.normal ?_
      rcases hkk with rfl | rfl | ⟨nk2, nk3⟩
      · rw [if_pos rfl] at hla
        obtain ⟨M, hM⟩ : ∃ M, (m : Int) * (Q : Int) = M := ⟨_, rfl⟩
        have hM1 : 1 ≤ M ∧ M ≤ 1024 := by
          rw [← hM]
          exact ⟨by have := Int.mul_le_mul (show (1 : Int) ≤ (m : Int) by omega) Q1 (by decide) (by omega); omega, by have := Int.mul_le_mul mi32 Q32 (by omega) (by decide); omega⟩
        obtain ⟨M1, M2⟩ := hM1
        have wM : IntKind.i64.wrap M = M := IntWalk.i64_in _ (by omega)
        rw [hM] at hla
        have FL : Hid (∀ W, Calls Try.prog 50 #[.int .i64 v, .int .i64 M] W fun e w' => e = .returned (.int .i64 R) ∧ W = w') := fun W => by rw [hla]; exact Un.floor_any v M (by omega) (by omega) (by omega) (by omega) W
        clear hla
        go_wp2_with fail
        refine wp_region_noPanic ?_
        refine wp_region_held_drew (S := fun W => Bel w6 W) (by kernel_rfl) ?_ (fun hH0 => ?_)
        · (try dsimp only); exact (by repeat (first | exact HR.out | (with_reducible refine Bel.drwN ?_ _) | (with_reducible refine Bel.drw ?_) | (with_reducible refine Bel.al ?_ _) | ((with_reducible refine Bel.st2 ?_ ?_ _); exact Nat.le_refl _)))
        refine wpAnyH_take (i := 0) (oi := ⟨some 91, .move (.tmp 15), 22, "word.go:57", #[], none⟩) (v := ?_) rfl (by kernel_rfl) (by kernel_rfl) (by kernel_rfl) (fun _ _ _ h => h) (Or.inl ⟨by first | kernel_rfl | rfl, ?_⟩) (by assumption) ?_
        rotate_left
        · (intro w hSw; (try dsimp only at hSw); obtain ⟨d1, d2, d3, d4, d5, d6⟩ := KS.out _ hSw; go_simp; try with_reducible rfl)
        try simp only [Act.put, List.setIfInBounds_toArray, List.set_cons_zero, List.set_cons_succ]
        refine wpAnyH_take (i := 1) (oi := ⟨some 92, .move (.tmp 16), 3, "word.go:57", #[], none⟩) (v := ?_) rfl (by kernel_rfl) (by kernel_rfl) (by kernel_rfl) (fun _ _ _ h => h) (Or.inl ⟨by first | kernel_rfl | rfl, ?_⟩) (by assumption) ?_
        rotate_left
        · (intro w hSw; (try dsimp only at hSw); obtain ⟨d1, d2, d3, d4, d5, d6⟩ := KS.out _ hSw; go_simp; try with_reducible rfl)
        try simp only [Act.put, List.setIfInBounds_toArray, List.set_cons_zero, List.set_cons_succ]
        refine wpAnyH_take (i := 2) (oi := ⟨some 93, .move (.tmp 11), 22, "word.go:57", #[], none⟩) (v := ?_) rfl (by kernel_rfl) (by kernel_rfl) (by kernel_rfl) (fun _ _ _ h => h) (Or.inl ⟨by first | kernel_rfl | rfl, ?_⟩) (by assumption) ?_
        rotate_left
        · (intro w hSw; (try dsimp only at hSw); obtain ⟨d1, d2, d3, d4, d5, d6⟩ := KS.out _ hSw; go_simp; try with_reducible rfl)
        try simp only [Act.put, List.setIfInBounds_toArray, List.set_cons_zero, List.set_cons_succ]
        refine wpAnyH_take (i := 3) (oi := ⟨some 94, .move (.tmp 16), 3, "word.go:57", #[], none⟩) (v := ?_) rfl (by kernel_rfl) (by kernel_rfl) (by kernel_rfl) (fun _ _ _ h => h) (Or.inl ⟨by first | kernel_rfl | rfl, ?_⟩) (by assumption) ?_
        rotate_left
        · (intro w hSw; (try dsimp only at hSw); obtain ⟨d1, d2, d3, d4, d5, d6⟩ := KS.out _ hSw; go_simp; try with_reducible rfl)
        try simp only [Act.put, List.setIfInBounds_toArray, List.set_cons_zero, List.set_cons_succ]
        refine wpAnyH_take (i := 4) (oi := ⟨some 95, .indexAddr 22 (.tmp 93) (.tmp 94), 0, "word.go:57", #[⟨2, .data⟩, ⟨3, .data⟩], none⟩) (v := ?_) rfl (by kernel_rfl) (by kernel_rfl) (by kernel_rfl) (fun _ _ _ h => h) (Or.inl ⟨by first | kernel_rfl | rfl, ?_⟩) (by assumption) ?_
        rotate_left
        · (intro w hSw; (try dsimp only at hSw); obtain ⟨d1, d2, d3, d4, d5, d6⟩ := KS.out _ hSw; go_simp; try with_reducible rfl)
        try simp only [Act.put, List.setIfInBounds_toArray, List.set_cons_zero, List.set_cons_succ]
        refine wpAnyH_take (i := 5) (oi := ⟨some 96, .load 3 (.tmp 95), 3, "word.go:57", #[⟨4, .data⟩], none⟩) (v := ?_) rfl (by kernel_rfl) (by kernel_rfl) (by kernel_rfl) (fun _ _ _ h => h) (Or.inl ⟨by first | kernel_rfl | rfl, ?_⟩) (by assumption) ?_
        rotate_left
        · (intro w hSw; (try dsimp only at hSw); obtain ⟨d1, d2, d3, d4, d5, d6⟩ := KS.out _ hSw; go_simp; try with_reducible rfl)
        try simp only [Act.put, List.setIfInBounds_toArray, List.set_cons_zero, List.set_cons_succ]
        refine wpAnyH_take (i := 6) (oi := ⟨some 97, .fieldAddr 28 (.tmp 2) 1, 0, "word.go:57", #[], none⟩) (v := ?_) rfl (by kernel_rfl) (by kernel_rfl) (by kernel_rfl) (fun _ _ _ h => h) (Or.inl ⟨by first | kernel_rfl | rfl, ?_⟩) (by assumption) ?_
        rotate_left
        · (intro w hSw; (try dsimp only at hSw); obtain ⟨d1, d2, d3, d4, d5, d6⟩ := KS.out _ hSw; go_simp; try with_reducible rfl)
        try simp only [Act.put, List.setIfInBounds_toArray, List.set_cons_zero, List.set_cons_succ]
        refine wpAnyH_take (i := 7) (oi := ⟨some 98, .load 3 (.tmp 97), 3, "word.go:57", #[⟨6, .data⟩], none⟩) (v := ?_) rfl (by kernel_rfl) (by kernel_rfl) (by kernel_rfl) (fun _ _ _ h => h) (Or.inl ⟨by first | kernel_rfl | rfl, ?_⟩) (by assumption) ?_
        rotate_left
        · (intro w hSw; (try dsimp only at hSw); obtain ⟨d1, d2, d3, d4, d5, d6⟩ := KS.out _ hSw; go_simp; try with_reducible rfl)
        try simp only [Act.put, List.setIfInBounds_toArray, List.set_cons_zero, List.set_cons_succ]
        refine wpAnyH_take (i := 8) (oi := ⟨some 99, .move (.tmp 17), 3, "word.go:57", #[], none⟩) (v := ?_) rfl (by kernel_rfl) (by kernel_rfl) (by kernel_rfl) (fun _ _ _ h => h) (Or.inl ⟨by first | kernel_rfl | rfl, ?_⟩) (by assumption) ?_
        rotate_left
        · (intro w hSw; (try dsimp only at hSw); obtain ⟨d1, d2, d3, d4, d5, d6⟩ := KS.out _ hSw; go_simp; try with_reducible rfl)
        try simp only [Act.put, List.setIfInBounds_toArray, List.set_cons_zero, List.set_cons_succ]
        refine wpAnyH_take (i := 9) (oi := ⟨some 100, .binOp BinOp.mul 3 (.tmp 98) (.tmp 99) 3, 3, "word.go:57", #[⟨7, .data⟩, ⟨8, .data⟩], none⟩) (v := ?_) rfl (by kernel_rfl) (by kernel_rfl) (by kernel_rfl) (fun _ _ _ h => h) (Or.inl ⟨by first | kernel_rfl | rfl, ?_⟩) (by assumption) ?_
        rotate_left
        · (intro w hSw; (try dsimp only at hSw); obtain ⟨d1, d2, d3, d4, d5, d6⟩ := KS.out _ hSw; go_simp; try with_reducible rfl)
        try simp only [Act.put, List.setIfInBounds_toArray, List.set_cons_zero, List.set_cons_succ]
        refine wpAnyH_ready (rs := [10]) (by kernel_rfl) (by simp) ?_
        refine AllReadyH.cons (o := ⟨some 101, .call { callee := Callee.value (.func 50), args := #[.tmp 96, .tmp 100], argTypes := #[3, 3] }, 3, "word.go:57", #[⟨5, .data⟩, ⟨9, .data⟩], none⟩) rfl (fun K hK => ?_) (AllReadyH.nil)
        · go_simp
          go_at_call 50; refine (FL.out _).mono ?_; rintro e x1 ⟨rfl, rfl⟩
          try go_wp2_with fail
          refine hK.out _ _ ?_ (fun hH1 => ?_)
          · (try dsimp only); exact (by repeat (first | exact HR.out | (with_reducible refine Bel.drwN ?_ _) | (with_reducible refine Bel.drw ?_) | (with_reducible refine Bel.al ?_ _) | ((with_reducible refine Bel.st2 ?_ ?_ _); exact Nat.le_refl _)))
          clear hK K hH0
          try simp only [Act.put, List.setIfInBounds_toArray, List.set_cons_zero, List.set_cons_succ]
          refine wpAnyH_take (i := 11) (oi := ⟨some 102, .indexAddr 22 (.tmp 91) (.tmp 92), 0, "word.go:57", #[⟨0, .data⟩, ⟨1, .data⟩, ⟨0, .phase⟩, ⟨1, .phase⟩, ⟨2, .phase⟩, ⟨3, .phase⟩, ⟨4, .phase⟩, ⟨5, .phase⟩, ⟨6, .phase⟩, ⟨7, .phase⟩, ⟨8, .phase⟩, ⟨9, .phase⟩, ⟨10, .phase⟩], none⟩) (v := ?_) rfl (by kernel_rfl) (by kernel_rfl) (by kernel_rfl) (fun _ _ _ h => h) (Or.inl ⟨by first | kernel_rfl | rfl, ?_⟩) (by assumption) ?_
          rotate_left
          · (intro w hSw; (try dsimp only at hSw); obtain ⟨d1, d2, d3, d4, d5, d6⟩ := KS.out _ hSw; go_simp; try with_reducible rfl)
          try simp only [Act.put, List.setIfInBounds_toArray, List.set_cons_zero, List.set_cons_succ]
          refine wpAnyH_ready (rs := [12]) (by kernel_rfl) (by simp) ?_
          refine AllReadyH.cons (o := ⟨none, .store 3 (.tmp 102) (.tmp 101), 0, "word.go:57", #[⟨11, .data⟩, ⟨10, .data⟩, ⟨10, .chain⟩, ⟨0, .phase⟩, ⟨1, .phase⟩, ⟨2, .phase⟩, ⟨3, .phase⟩, ⟨4, .phase⟩, ⟨5, .phase⟩, ⟨6, .phase⟩, ⟨7, .phase⟩, ⟨8, .phase⟩, ⟨9, .phase⟩, ⟨10, .phase⟩], none⟩) rfl (fun K hK => ?_) (AllReadyH.nil)
          · go_simp
            try go_wp2_with fail
            refine hK.out _ _ ?_ (fun hH2 => ?_)
            · (try dsimp only); exact (by repeat (first | exact HR.out | (with_reducible refine Bel.drwN ?_ _) | (with_reducible refine Bel.drw ?_) | (with_reducible refine Bel.al ?_ _) | ((with_reducible refine Bel.st2 ?_ ?_ _); exact Nat.le_refl _)))
            clear hK K hH1
            try simp only [Act.put, List.setIfInBounds_toArray, List.set_cons_zero, List.set_cons_succ]
            refine wpAnyH_done (by kernel_rfl) ?_ _
            refine NoPanic.normal ?_
            go_wp2
            go_roundw
            case rel => exact ⟨i + 1, _, rfl, by omega, by go_num, by rw [← HN.out]; exact (HK.out.st i _).bel (by repeat (first | exact Bel.rf | (with_reducible refine Bel.drwN ?_ _) | (with_reducible refine Bel.drw ?_) | (with_reducible refine Bel.al ?_ _))), (by repeat (first | exact HR.out | (with_reducible refine Bel.drwN ?_ _) | (with_reducible refine Bel.drw ?_) | (with_reducible refine Bel.al ?_ _) | ((with_reducible refine Bel.st2 ?_ ?_ _); exact Nat.le_refl _)))⟩
            case measure => simp [intOf]; omega
      · rw [if_neg (by decide), if_pos rfl] at hla
        obtain ⟨M, hM⟩ : ∃ M, (m : Int) * V = M := ⟨_, rfl⟩
        have hM1 : 0 ≤ M ∧ M ≤ 32768000000 := by
          rw [← hM]
          exact ⟨Int.mul_nonneg (by omega) V0, by have := Int.mul_le_mul mi32 V1 V0 (by decide); omega⟩
        obtain ⟨M1, M2⟩ := hM1
        have wM : IntKind.i64.wrap M = M := IntWalk.i64_in _ (by omega)
        have wv : IntKind.i64.wrap (64 * v) = 64 * v := IntWalk.i64_in _ (by omega)
        rw [hM] at hla
        have FL : Hid (∀ W, Calls Try.prog 51 #[.int .i64 (64 * v), .int .i64 M] W fun e w' => ∃ x, e = .returned (.tuple #[.int .i64 R, .int .i64 x]) ∧ W = w') := fun W => by rw [hla]; exact quot_any (64 * v) M W
        clear hla
        go_wp2_with fail
        refine wp_region_noPanic ?_
        refine wp_region_held_drew (S := fun W => Bel w6 W) (by kernel_rfl) ?_ (fun hH0 => ?_)
        · (try dsimp only); exact (by repeat (first | exact HR.out | (with_reducible refine Bel.drwN ?_ _) | (with_reducible refine Bel.drw ?_) | (with_reducible refine Bel.al ?_ _) | ((with_reducible refine Bel.st2 ?_ ?_ _); exact Nat.le_refl _)))
        refine wpAnyH_take (i := 0) (oi := ⟨some 106, .move (.tmp 15), 22, "word.go:60", #[], none⟩) (v := ?_) rfl (by kernel_rfl) (by kernel_rfl) (by kernel_rfl) (fun _ _ _ h => h) (Or.inl ⟨by first | kernel_rfl | rfl, ?_⟩) (by assumption) ?_
        rotate_left
        · (intro w hSw; (try dsimp only at hSw); obtain ⟨d1, d2, d3, d4, d5, d6⟩ := KS.out _ hSw; go_simp; try with_reducible rfl)
        try simp only [Act.put, List.setIfInBounds_toArray, List.set_cons_zero, List.set_cons_succ]
        refine wpAnyH_take (i := 1) (oi := ⟨some 107, .move (.tmp 16), 3, "word.go:60", #[], none⟩) (v := ?_) rfl (by kernel_rfl) (by kernel_rfl) (by kernel_rfl) (fun _ _ _ h => h) (Or.inl ⟨by first | kernel_rfl | rfl, ?_⟩) (by assumption) ?_
        rotate_left
        · (intro w hSw; (try dsimp only at hSw); obtain ⟨d1, d2, d3, d4, d5, d6⟩ := KS.out _ hSw; go_simp; try with_reducible rfl)
        try simp only [Act.put, List.setIfInBounds_toArray, List.set_cons_zero, List.set_cons_succ]
        refine wpAnyH_take (i := 2) (oi := ⟨some 108, .move (.tmp 11), 22, "word.go:60", #[], none⟩) (v := ?_) rfl (by kernel_rfl) (by kernel_rfl) (by kernel_rfl) (fun _ _ _ h => h) (Or.inl ⟨by first | kernel_rfl | rfl, ?_⟩) (by assumption) ?_
        rotate_left
        · (intro w hSw; (try dsimp only at hSw); obtain ⟨d1, d2, d3, d4, d5, d6⟩ := KS.out _ hSw; go_simp; try with_reducible rfl)
        try simp only [Act.put, List.setIfInBounds_toArray, List.set_cons_zero, List.set_cons_succ]
        refine wpAnyH_take (i := 3) (oi := ⟨some 109, .move (.tmp 16), 3, "word.go:60", #[], none⟩) (v := ?_) rfl (by kernel_rfl) (by kernel_rfl) (by kernel_rfl) (fun _ _ _ h => h) (Or.inl ⟨by first | kernel_rfl | rfl, ?_⟩) (by assumption) ?_
        rotate_left
        · (intro w hSw; (try dsimp only at hSw); obtain ⟨d1, d2, d3, d4, d5, d6⟩ := KS.out _ hSw; go_simp; try with_reducible rfl)
        try simp only [Act.put, List.setIfInBounds_toArray, List.set_cons_zero, List.set_cons_succ]
        refine wpAnyH_take (i := 4) (oi := ⟨some 110, .indexAddr 22 (.tmp 108) (.tmp 109), 0, "word.go:60", #[⟨2, .data⟩, ⟨3, .data⟩], none⟩) (v := ?_) rfl (by kernel_rfl) (by kernel_rfl) (by kernel_rfl) (fun _ _ _ h => h) (Or.inl ⟨by first | kernel_rfl | rfl, ?_⟩) (by assumption) ?_
        rotate_left
        · (intro w hSw; (try dsimp only at hSw); obtain ⟨d1, d2, d3, d4, d5, d6⟩ := KS.out _ hSw; go_simp; try with_reducible rfl)
        try simp only [Act.put, List.setIfInBounds_toArray, List.set_cons_zero, List.set_cons_succ]
        refine wpAnyH_take (i := 5) (oi := ⟨some 111, .load 3 (.tmp 110), 3, "word.go:60", #[⟨4, .data⟩], none⟩) (v := ?_) rfl (by kernel_rfl) (by kernel_rfl) (by kernel_rfl) (fun _ _ _ h => h) (Or.inl ⟨by first | kernel_rfl | rfl, ?_⟩) (by assumption) ?_
        rotate_left
        · (intro w hSw; (try dsimp only at hSw); obtain ⟨d1, d2, d3, d4, d5, d6⟩ := KS.out _ hSw; go_simp; try with_reducible rfl)
        try simp only [Act.put, List.setIfInBounds_toArray, List.set_cons_zero, List.set_cons_succ]
        refine wpAnyH_take (i := 6) (oi := ⟨some 112, .binOp BinOp.mul 3 (.const (.int IntKind.i64 64)) (.tmp 111) 3, 3, "word.go:60", #[⟨5, .data⟩], none⟩) (v := ?_) rfl (by kernel_rfl) (by kernel_rfl) (by kernel_rfl) (fun _ _ _ h => h) (Or.inl ⟨by first | kernel_rfl | rfl, ?_⟩) (by assumption) ?_
        rotate_left
        · (intro w hSw; (try dsimp only at hSw); obtain ⟨d1, d2, d3, d4, d5, d6⟩ := KS.out _ hSw; go_simp; try with_reducible rfl)
        try simp only [Act.put, List.setIfInBounds_toArray, List.set_cons_zero, List.set_cons_succ]
        refine wpAnyH_take (i := 7) (oi := ⟨some 113, .fieldAddr 28 (.tmp 2) 1, 0, "word.go:60", #[], none⟩) (v := ?_) rfl (by kernel_rfl) (by kernel_rfl) (by kernel_rfl) (fun _ _ _ h => h) (Or.inl ⟨by first | kernel_rfl | rfl, ?_⟩) (by assumption) ?_
        rotate_left
        · (intro w hSw; (try dsimp only at hSw); obtain ⟨d1, d2, d3, d4, d5, d6⟩ := KS.out _ hSw; go_simp; try with_reducible rfl)
        try simp only [Act.put, List.setIfInBounds_toArray, List.set_cons_zero, List.set_cons_succ]
        refine wpAnyH_take (i := 8) (oi := ⟨some 114, .load 3 (.tmp 113), 3, "word.go:60", #[⟨7, .data⟩], none⟩) (v := ?_) rfl (by kernel_rfl) (by kernel_rfl) (by kernel_rfl) (fun _ _ _ h => h) (Or.inl ⟨by first | kernel_rfl | rfl, ?_⟩) (by assumption) ?_
        rotate_left
        · (intro w hSw; (try dsimp only at hSw); obtain ⟨d1, d2, d3, d4, d5, d6⟩ := KS.out _ hSw; go_simp; try with_reducible rfl)
        try simp only [Act.put, List.setIfInBounds_toArray, List.set_cons_zero, List.set_cons_succ]
        refine wpAnyH_take (i := 9) (oi := ⟨some 115, .move (.tmp 13), 3, "word.go:60", #[], none⟩) (v := ?_) rfl (by kernel_rfl) (by kernel_rfl) (by kernel_rfl) (fun _ _ _ h => h) (Or.inl ⟨by first | kernel_rfl | rfl, ?_⟩) (by assumption) ?_
        rotate_left
        · (intro w hSw; (try dsimp only at hSw); obtain ⟨d1, d2, d3, d4, d5, d6⟩ := KS.out _ hSw; go_simp; try with_reducible rfl)
        try simp only [Act.put, List.setIfInBounds_toArray, List.set_cons_zero, List.set_cons_succ]
        refine wpAnyH_take (i := 10) (oi := ⟨some 116, .binOp BinOp.mul 3 (.tmp 114) (.tmp 115) 3, 3, "word.go:60", #[⟨8, .data⟩, ⟨9, .data⟩], none⟩) (v := ?_) rfl (by kernel_rfl) (by kernel_rfl) (by kernel_rfl) (fun _ _ _ h => h) (Or.inl ⟨by first | kernel_rfl | rfl, ?_⟩) (by assumption) ?_
        rotate_left
        · (intro w hSw; (try dsimp only at hSw); obtain ⟨d1, d2, d3, d4, d5, d6⟩ := KS.out _ hSw; go_simp; try with_reducible rfl)
        try simp only [Act.put, List.setIfInBounds_toArray, List.set_cons_zero, List.set_cons_succ]
        refine wpAnyH_ready (rs := [11]) (by kernel_rfl) (by simp) ?_
        refine AllReadyH.cons (o := ⟨some 117, .call { callee := Callee.value (.func 51), args := #[.tmp 112, .tmp 116], argTypes := #[3, 3] }, 88, "word.go:60", #[⟨6, .data⟩, ⟨10, .data⟩], none⟩) rfl (fun K hK => ?_) (AllReadyH.nil)
        · go_simp
          go_at_call 51; refine (FL.out _).mono ?_; rintro e x1 ⟨z9, rfl, rfl⟩
          try go_wp2_with fail
          refine hK.out _ _ ?_ (fun hH1 => ?_)
          · (try dsimp only); exact (by repeat (first | exact HR.out | (with_reducible refine Bel.drwN ?_ _) | (with_reducible refine Bel.drw ?_) | (with_reducible refine Bel.al ?_ _) | ((with_reducible refine Bel.st2 ?_ ?_ _); exact Nat.le_refl _)))
          clear hK K hH0
          try simp only [Act.put, List.setIfInBounds_toArray, List.set_cons_zero, List.set_cons_succ]
          refine wpAnyH_take (i := 12) (oi := ⟨some 105, .move (.tmp 117), 88, "word.go:60", #[⟨11, .data⟩], none⟩) (v := ?_) rfl (by kernel_rfl) (by kernel_rfl) (by kernel_rfl) (fun _ _ _ h => h) (Or.inl ⟨by first | kernel_rfl | rfl, ?_⟩) (by assumption) ?_
          rotate_left
          · (intro w hSw; (try dsimp only at hSw); obtain ⟨d1, d2, d3, d4, d5, d6⟩ := KS.out _ hSw; go_simp; try with_reducible rfl)
          try simp only [Act.put, List.setIfInBounds_toArray, List.set_cons_zero, List.set_cons_succ]
          refine wpAnyH_take (i := 13) (oi := ⟨some 118, .extract (.tmp 105) 0, 3, "word.go:60", #[⟨12, .data⟩], none⟩) (v := ?_) rfl (by kernel_rfl) (by kernel_rfl) (by kernel_rfl) (fun _ _ _ h => h) (Or.inl ⟨by first | kernel_rfl | rfl, ?_⟩) (by assumption) ?_
          rotate_left
          · (intro w hSw; (try dsimp only at hSw); obtain ⟨d1, d2, d3, d4, d5, d6⟩ := KS.out _ hSw; go_simp; try with_reducible rfl)
          try simp only [Act.put, List.setIfInBounds_toArray, List.set_cons_zero, List.set_cons_succ]
          refine wpAnyH_take (i := 14) (oi := ⟨some 119, .extract (.tmp 105) 1, 33, "word.go:60", #[⟨12, .data⟩, ⟨16, .gcOnly Departure.lateStores⟩], none⟩) (v := ?_) rfl (by kernel_rfl) (by kernel_rfl) (by kernel_rfl) (fun _ _ _ h => h) (Or.inl ⟨by first | kernel_rfl | rfl, ?_⟩) (by assumption) ?_
          rotate_left
          · (intro w hSw; (try dsimp only at hSw); obtain ⟨d1, d2, d3, d4, d5, d6⟩ := KS.out _ hSw; go_simp; try with_reducible rfl)
          try simp only [Act.put, List.setIfInBounds_toArray, List.set_cons_zero, List.set_cons_succ]
          refine wpAnyH_take (i := 15) (oi := ⟨some 120, .indexAddr 22 (.tmp 106) (.tmp 107), 0, "word.go:60", #[⟨0, .data⟩, ⟨1, .data⟩, ⟨0, .phase⟩, ⟨1, .phase⟩, ⟨2, .phase⟩, ⟨3, .phase⟩, ⟨4, .phase⟩, ⟨5, .phase⟩, ⟨6, .phase⟩, ⟨7, .phase⟩, ⟨8, .phase⟩, ⟨9, .phase⟩, ⟨10, .phase⟩, ⟨11, .phase⟩, ⟨12, .phase⟩, ⟨13, .phase⟩, ⟨14, .textOnly Departure.lateStores⟩], none⟩) (v := ?_) rfl (by kernel_rfl) (by kernel_rfl) (by kernel_rfl) (fun _ _ _ h => h) (Or.inl ⟨by first | kernel_rfl | rfl, ?_⟩) (by assumption) ?_
          rotate_left
          · (intro w hSw; (try dsimp only at hSw); obtain ⟨d1, d2, d3, d4, d5, d6⟩ := KS.out _ hSw; go_simp; try with_reducible rfl)
          try simp only [Act.put, List.setIfInBounds_toArray, List.set_cons_zero, List.set_cons_succ]
          refine wpAnyH_ready (rs := [16]) (by kernel_rfl) (by simp) ?_
          refine AllReadyH.cons (o := ⟨none, .store 3 (.tmp 120) (.tmp 118), 0, "word.go:60", #[⟨15, .data⟩, ⟨13, .data⟩, ⟨11, .chain⟩, ⟨0, .phase⟩, ⟨1, .phase⟩, ⟨2, .phase⟩, ⟨3, .phase⟩, ⟨4, .phase⟩, ⟨5, .phase⟩, ⟨6, .phase⟩, ⟨7, .phase⟩, ⟨8, .phase⟩, ⟨9, .phase⟩, ⟨10, .phase⟩, ⟨11, .phase⟩, ⟨12, .phase⟩, ⟨13, .phase⟩, ⟨14, .textOnly Departure.lateStores⟩], none⟩) rfl (fun K hK => ?_) (AllReadyH.nil)
          · go_simp
            try go_wp2_with fail
            refine hK.out _ _ ?_ (fun hH2 => ?_)
            · (try dsimp only); exact (by repeat (first | exact HR.out | (with_reducible refine Bel.drwN ?_ _) | (with_reducible refine Bel.drw ?_) | (with_reducible refine Bel.al ?_ _) | ((with_reducible refine Bel.st2 ?_ ?_ _); exact Nat.le_refl _)))
            clear hK K hH1
            try simp only [Act.put, List.setIfInBounds_toArray, List.set_cons_zero, List.set_cons_succ]
            refine wpAnyH_done (by kernel_rfl) ?_ _
            refine NoPanic.normal ?_
            go_wp2
            go_roundw
            case rel => exact ⟨i + 1, _, rfl, by omega, by go_num, by rw [← HN.out]; exact (HK.out.st i _).bel (by repeat (first | exact Bel.rf | (with_reducible refine Bel.drwN ?_ _) | (with_reducible refine Bel.drw ?_) | (with_reducible refine Bel.al ?_ _))), (by repeat (first | exact HR.out | (with_reducible refine Bel.drwN ?_ _) | (with_reducible refine Bel.drw ?_) | (with_reducible refine Bel.al ?_ _) | ((with_reducible refine Bel.st2 ?_ ?_ _); exact Nat.le_refl _)))⟩
            case measure => simp [intOf]; omega
      · rw [if_neg nk2, if_neg nk3] at hla
        have k2 : (k == 2) = false := by simp [nk2]
        have k3 : (k == 3) = false := by simp [nk3]
        have FL : Hid (∀ W, Calls Try.prog 50 #[.int .i64 u, .int .i64 (Q : Int)] W fun e w' => e = .returned (.int .i64 R) ∧ W = w') := fun W => by rw [hla]; exact Un.floor_any u (Q : Int) (by omega) (by omega) (by omega) (by omega) W
        have s2 := (KS.out wr HR.out).2.2.1
        clear hla
        go_wp2_with (go_at_call 50; refine (FL.out _).mono ?_; rintro e x1 ⟨rfl, rfl⟩)
        go_roundw
        case rel => exact ⟨i + 1, _, rfl, by omega, by go_num, by rw [← HN.out]; exact (HK.out.st i _).bel (by repeat (first | exact Bel.rf | (with_reducible refine Bel.drwN ?_ _) | (with_reducible refine Bel.drw ?_) | (with_reducible refine Bel.al ?_ _))), (by repeat (first | exact HR.out | (with_reducible refine Bel.drwN ?_ _) | (with_reducible refine Bel.drw ?_) | (with_reducible refine Bel.al ?_ _) | ((with_reducible refine Bel.st2 ?_ ?_ _); exact Nat.le_refl _)))⟩
        case measure => simp [intOf]; omega
    · obtain rfl : i = n := by omega
      have hk := HK.out
      rw [← HLL.out, fil_all] at hk
      have HKF := Lib.hid hk
      clear hk
      go_wp2
      go_ret2
      exact ⟨w6.heap.size, rfl, HW6.out.size, by rw [HLE.out]; exact HKF.out.bel (by repeat (first | exact Bel.rf | (with_reducible refine Bel.drwN ?_ _) | (with_reducible refine Bel.drw ?_) | (with_reducible refine Bel.al ?_ _))), (by repeat (first | exact HW6.out.tr HR.out | (with_reducible refine Bel.drwN ?_ _) | (with_reducible refine Bel.drw ?_) | (with_reducible refine Bel.al ?_ _)))⟩
end Go.Proofs.Ytgdhgeongdenpaa.Wd
