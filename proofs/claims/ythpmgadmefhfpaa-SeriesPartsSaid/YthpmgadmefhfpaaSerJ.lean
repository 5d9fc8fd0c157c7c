/- series.Join of valid series with a whole number of steps between them. -/
import Derived.Test.YthpmgadmefhfpaaSerR
namespace Go.Proofs.Ythpmgadmefhfpaa.Se
open Go.ChangeShapes Go.WideShapes Go.RowKit Wo Sr Wi
set_option linter.unusedVariables false
theorem concat3 (g : Nat) (A1 A2 A3 : Option Addr) (n1 n2 n3 c1 c2 c3 : Nat) (L1 L2 L3 : List Int) (hN : n1 + n2 + n3 ≤ 3000) (w : World)
    (h1 : w.cell? ⟨g, 0, none⟩ = some (.slice A1 n1 c1)) (h2 : w.cell? ⟨g, 1, none⟩ = some (.slice A2 n2 c2)) (h3 : w.cell? ⟨g, 2, none⟩ = some (.slice A3 n3 c3)) (z1 : Zi w A1 n1 L1) (z2 : Zi w A2 n2 L2) (z3 : Zi w A3 n3 L3) :
    Calls Try.prog 33 #[.slice (some ⟨g, 0, none⟩) 3 3] w (SomeVs (n1 + n2 + n3) (L1 ++ L2 ++ L3) w) := by
  have h := concat_any g 3 (fun j => match j with | 0 => A1 | 1 => A2 | _ => A3) (fun j => match j with | 0 => n1 | 1 => n2 | _ => n3) (fun j => match j with | 0 => c1 | 1 => c2 | _ => c3) (fun j => match j with | 0 => L1 | 1 => L2 | _ => L3) (by omega)
    (by show 0 + n1 + n2 + n3 ≤ 3000; omega) w (World.block_lt_of_cell? w ⟨g, 0, none⟩ h1)
    (fun j hj => by rcases j with _ | _ | _ | j <;> first | exact h1 | exact h2 | exact h3 | omega)
    (fun j hj => by rcases j with _ | _ | _ | j <;> first | exact z1 | exact z2 | exact z3 | omega)
  have e1 : tot (fun j => match j with | 0 => n1 | 1 => n2 | _ => n3) 3 = n1 + n2 + n3 := by show 0 + n1 + n2 + n3 = _; omega
  have e2 : cat (fun j => match j with | 0 => L1 | 1 => L2 | _ => L3) 3 = L1 ++ L2 ++ L3 := by show [] ++ L1 ++ L2 ++ L3 = _; simp
  rw [e1, e2] at h
  exact h
theorem div_step {sp q : Int} {g : Nat} (h0 : 1 ≤ sp) (hq : sp * (g : Int) = q) : q % sp = 0 ∧ q / sp = (g : Int) ∧ q.tmod sp = 0 ∧ q.tdiv sp = (g : Int) := by
  have hq0 : 0 ≤ q := by rw [← hq]; exact Int.mul_nonneg (by omega) (by omega)
  refine ⟨by rw [← hq]; exact Int.mul_emod_right _ _, by rw [← hq]; exact Int.mul_ediv_cancel_left _ (by omega), ?_, ?_⟩
  · rw [Int.tmod_eq_emod_of_nonneg hq0, ← hq]; exact Int.mul_emod_right _ _
  · rw [Int.tdiv_eq_ediv_of_nonneg hq0, ← hq]; exact Int.mul_ediv_cancel_left _ (by omega)
set_option maxHeartbeats 4000000 in
theorem join_any (s1 s2 sp : Int) (A1 A2 : Option Addr) (n1 c1 n2 c2 g : Nat) (L1 L2 : List Int) (h1 : Sb s1 sp n1) (h2 : Sb s2 sp n2) (v1 : Sv L1) (v2 : Sv L2) (hs2 : s2 = s1 + sp * (n1 : Int) + sp * (g : Int)) (hg : g ≤ 300) (hN : n1 + g + n2 ≤ 2000) (w : World) (x1 : Vs w A1 n1 c1 L1) (x2 : Vs w A2 n2 c2 L2) :
    Calls Try.prog 18 #[.agg #[.int .i64 s1, .int .i64 sp, .slice A1 n1 c1], .agg #[.int .i64 s2, .int .i64 sp, .slice A2 n2 c2]] w (SomeCut s1 sp (n1 + g + n2) (L1 ++ List.replicate g 1073741824 ++ L2) w) := by
  have VA1 : Hid (∀ W, Zi W A1 n1 L1 → _) := fun W hW => valid_ok s1 sp A1 n1 c1 L1 h1 v1 W hW
  have VA2 : Hid (∀ W, Zi W A2 n2 L2 → _) := fun W hW => valid_ok s2 sp A2 n2 c2 L2 h2 v2 W hW
  have EN : Hid (∀ W, _) := fun W => end_ok s1 sp A1 n1 c1 h1 W
  have HSV : Hid (Sv (L1 ++ List.replicate g 1073741824 ++ L2)) := (v1.app (Sv.rep g)).app v2
  obtain ⟨N, hNN⟩ : ∃ N, n1 + g + n2 = N := ⟨_, rfl⟩
  have HN := Lib.hid hNN
  have HSB : Hid (Sb s1 sp N) := ⟨h1.1, h1.2.1, h1.2.2.1, h1.2.2.2.1, by omega⟩
  have HX1 := Lib.hid x1
  have HX2 := Lib.hid x2
  obtain ⟨a1, a2, a3, a4, a5⟩ := h1
  obtain ⟨b1, b2, _, _, b5⟩ := h2
  obtain ⟨q, hq⟩ : ∃ q, sp * (g : Int) = q := ⟨_, rfl⟩
  obtain ⟨d1, d2, d3, d4⟩ := div_step a3 hq
  have qb := sb_mul a3 a4 (show g ≤ 3000 by omega)
  have pb := sb_mul a3 a4 (show n1 ≤ 3000 by omega)
  rw [hq] at qb hs2
  obtain ⟨q0, q1⟩ := qb
  obtain ⟨E, hE⟩ : ∃ E, s1 + sp * (n1 : Int) = E := ⟨_, rfl⟩
  rw [hE] at EN hs2
  have eq1 : s2 - E = q := by omega
  have wq : IntKind.i64.wrap q = q := IntWalk.i64_in _ (by omega)
  have wq2 : IntKind.i64.wrap (s2 - E) = q := by rw [eq1]; exact wq
  have sp0 : sp ≠ 0 := by omega
  have sp1 : (sp == 0) = false := by simpa using sp0
  have nsp := ne_self sp
  have q2 : ¬ q < 0 := by omega
  have N1 : (n1 : Int) + (g : Int) + (n2 : Int) ≤ 2000 := by omega
  have wn1 : (n1 : Int) ≤ 2000 := by omega
  have wn2 : (g : Int) ≤ 300 := by omega
  have wn3 : (n2 : Int) ≤ 2000 := by omega
  have HK1 := Lib.hid (((Bk.nw w 24 #[.int .i64 s1, .int .i64 sp, .slice A1 n1 c1]).al (.cells #[.int .i64 s2, .int .i64 sp, .slice A2 n2 c2] 24)).al (.cells #[.int .i64 0, .int .i64 0, .slice none 0 0] 24))
  have HK2 := Lib.hid ((Bk.nq (w.alloc (.cells #[.int .i64 s1, .int .i64 sp, .slice A1 n1 c1] 24)) 24 #[.int .i64 s2, .int .i64 sp, .slice A2 n2 c2] (g := w.heap.size + 1) (by simp)).al (.cells #[.int .i64 0, .int .i64 0, .slice none 0 0] 24))
  have HK3 := Lib.hid (Bk.nq ((w.alloc (.cells #[.int .i64 s1, .int .i64 sp, .slice A1 n1 c1] 24)).alloc (.cells #[.int .i64 s2, .int .i64 sp, .slice A2 n2 c2] 24)) 24 #[.int .i64 0, .int .i64 0, .slice none 0 0] (g := w.heap.size + 1 + 1) (by simp))
  have HB0 : Hid (Bel w (((w.alloc (.cells #[.int .i64 s1, .int .i64 sp, .slice A1 n1 c1] 24)).alloc (.cells #[.int .i64 s2, .int .i64 sp, .slice A2 n2 c2] 24)).alloc (.cells #[.int .i64 0, .int .i64 0, .slice none 0 0] 24))) := ((Bel.rf.al _).al _).al _
  clear x1 x2 v1 v2 hs2 hE hq pb hNN a5 b5
  go_enter Try.func18, Try.ntmps18
  go_wp2_with fail
  go_at_call 25
  refine (VA1.out _ (HX1.out.1.bel HB0.out)).mono ?_
  rintro e w2 ⟨rfl, hb2⟩
  have B2 := HK2.out.bel hb2
  have p0 : w2.cell? ⟨w.heap.size + 1, 0, none⟩ = some (.int .i64 s2) := B2.cell 0
  have p1 : w2.cell? ⟨w.heap.size + 1, 1, none⟩ = some (.int .i64 sp) := B2.cell 1
  have p2 : w2.cell? ⟨w.heap.size + 1, 2, none⟩ = some (.slice A2 n2 c2) := B2.cell 2
  have pl := B2.lt
  have HB2 := Lib.hid (HB0.out.tr hb2)
  have HP1 := Lib.hid (HK1.out.bel hb2)
  have HP2 := Lib.hid B2
  have HP3 := Lib.hid (HK3.out.bel hb2)
  clear B2 hb2
  go_wp2_with fail
  go_at_call 25
  refine (VA2.out _ (HX2.out.1.bel HB2.out)).mono ?_
  rintro e w3 ⟨rfl, hb3⟩
  clear p0 p1 p2 pl
  have HB3 := Lib.hid (HB2.out.tr hb3)
  have HR1 := Lib.hid (HP1.out.bel hb3)
  have HR2 := Lib.hid (HP2.out.bel hb3)
  have HR3 := Lib.hid (HP3.out.bel hb3)
  have e0 : w3.cell? ⟨w.heap.size, 0, none⟩ = some (.int .i64 s1) := HR1.out.cell 0
  have e1 : w3.cell? ⟨w.heap.size, 1, none⟩ = some (.int .i64 sp) := HR1.out.cell 1
  have e2 : w3.cell? ⟨w.heap.size, 2, none⟩ = some (.slice A1 n1 c1) := HR1.out.cell 2
  have e3 : w3.cell? ⟨w.heap.size + 1, 0, none⟩ = some (.int .i64 s2) := HR2.out.cell 0
  have el := HR1.out.lt
  clear hb3
  go_wp2_with fail
  go_region_held3 (fun w' => w'.cell? ⟨w.heap.size, 0, none⟩ = some (.int .i64 s1) ∧ w'.cell? ⟨w.heap.size, 1, none⟩ = some (.int .i64 sp) ∧ w'.cell? ⟨w.heap.size, 2, none⟩ = some (.slice A1 n1 c1) ∧ w'.cell? ⟨w.heap.size + 1, 0, none⟩ = some (.int .i64 s2))
    ((refine ⟨?_, ?_, ?_, ?_⟩) <;> (repeat (first | exact e0 | exact e1 | exact e2 | exact e3 | (with_reducible refine kp_al ?_ _) | (with_reducible refine kp_drwN ?_ _) | (with_reducible refine kp_drw ?_) | (refine Bel.kp (by assumption) ?_))))
    (first
      | (go_at_call 32; (with_reducible refine (EN.out _).mono ?_); rintro e w4 ⟨rfl, hb4⟩))
  have HB34 : Hid (Bel w3 w4) := (by first | exact hb4 | exact Bel.rf.drw.tr hb4 | exact (Bel.rf.drwN _).tr hb4)
  have HS1 := Lib.hid (HR1.out.bel HB34.out)
  have HS2 := Lib.hid (HR2.out.bel HB34.out)
  have HS3 := Lib.hid (HR3.out.bel HB34.out)
  have HB4 := Lib.hid (HB3.out.tr HB34.out)
  clear hb4 e0 e1 e2 e3 el
  have f0 : w4.cell? ⟨w.heap.size, 0, none⟩ = some (.int .i64 s1) := HS1.out.cell 0
  have f1 : w4.cell? ⟨w.heap.size, 1, none⟩ = some (.int .i64 sp) := HS1.out.cell 1
  have f2 : w4.cell? ⟨w.heap.size, 2, none⟩ = some (.slice A1 n1 c1) := HS1.out.cell 2
  have f3 : w4.cell? ⟨w.heap.size + 1, 1, none⟩ = some (.int .i64 sp) := HS2.out.cell 1
  have f4 : w4.cell? ⟨w.heap.size + 1, 2, none⟩ = some (.slice A2 n2 c2) := HS2.out.cell 2
  go_wp2
  have HT := Lib.hid (Bk.nw w4 24 #[.int .i64 s1, .int .i64 sp, .slice none 0 0])
  obtain ⟨b8, hb8⟩ : ∃ b, w4.heap.size = b := ⟨_, rfl⟩
  have hw8 : w.heap.size + 1 + 1 < b8 := by have := HS3.out.lt; omega
  have hn1 : (⟨w.heap.size, 2, none⟩ : Addr).block ≠ (⟨b8, 2, none⟩ : Addr).block := by show w.heap.size ≠ b8; omega
  have hn2 : (⟨w.heap.size + 1, 2, none⟩ : Addr).block ≠ (⟨b8, 2, none⟩ : Addr).block := by show w.heap.size + 1 ≠ b8; omega
  have g2 := kp_al f2 (.cells #[.int .i64 s1, .int .i64 sp, .slice none 0 0] 24)
  have g4 := kp_al f4 (.cells #[.int .i64 s1, .int .i64 sp, .slice none 0 0] 24)
  have HB5 : Hid (Bel w (w4.alloc (.cells #[.int .i64 s1, .int .i64 sp, .slice none 0 0] 24))) := HB4.out.al _
  have HU3 := Lib.hid (HS3.out.al (.cells #[.int .i64 s1, .int .i64 sp, .slice none 0 0] 24))
  obtain ⟨V5, hV5⟩ : ∃ V, w4.alloc (.cells #[.int .i64 s1, .int .i64 sp, .slice none 0 0] 24) = V := ⟨_, rfl⟩
  rw [hV5] at g2 g4 HB5 HT HU3 ⊢
  rw [hb8] at HT ⊢
  have RP : Hid (∀ (W : World) (blk : Nat), W.cell? ⟨blk, 0, none⟩ = some (.int .i64 1073741824) → _) := fun W blk hc => repeat_any blk 1073741824 g hg W hc
  have CC : Hid (∀ (W : World) (blk a : Nat), W.cell? ⟨blk, 0, none⟩ = some (.slice A1 n1 c1) → W.cell? ⟨blk, 1, none⟩ = some (.slice (some ⟨a, 0, none⟩) g g) → W.cell? ⟨blk, 2, none⟩ = some (.slice A2 n2 c2) → Zi W A1 n1 L1 → Zi W (some ⟨a, 0, none⟩) g (List.replicate g 1073741824) → Zi W A2 n2 L2 → Calls Try.prog 33 #[.slice (some ⟨blk, 0, none⟩) 3 3] W (SomeVs N (L1 ++ List.replicate g 1073741824 ++ L2) W)) := fun W blk a y1 y2 y3 y4 y5 y6 => by
    have := concat3 blk A1 (some ⟨a, 0, none⟩) A2 n1 g n2 c1 g c2 L1 (List.replicate g 1073741824) L2 (by omega) W y1 y2 y3 y4 y5 y6
    rw [HN.out] at this
    exact this
  clear f0 f1 f2 f3 f4 hV5 HS1 HS2 HS3 HR1 HR2 HR3 HP1 HP2 HP3 HK1 HK2 HK3 hb8
  clear d1 d2 d3 d4 q0 q1 eq1 wq wq2 sp0 sp1 nsp q2 N1 hN
  go_region_held3 (fun w' => w'.cell? ⟨w.heap.size, 2, none⟩ = some (.slice A1 n1 c1) ∧ w'.cell? ⟨w.heap.size + 1, 2, none⟩ = some (.slice A2 n2 c2))
    ((refine ⟨?_, ?_⟩) <;> (repeat (first | exact g2 | exact g4 | exact hn1 | exact hn2 | (with_reducible refine kp_al ?_ _) | (with_reducible refine kp_drwN ?_ _) | (with_reducible refine kp_drw ?_) | (with_reducible refine kp_far ?_ ?_ _) | (refine Bel.kp (by assumption) ?_))))
    (first
      | (go_at_call 34; (refine (RP.out _ _ (by first | exact (Bk.nw _ _ _).cell 0 | exact ((Bk.nw _ _ _).drwN _).cell 0 | exact ((Bk.nw _ _ _).drw).cell 0)).mono ?_); rintro e w6 ⟨a6, rfl, ha6, hz6, hb6⟩; have HZ6 := Lib.hid hz6; clear hz6 ha6)
      | (go_at_call 33; (refine (CC.out _ _ a6 (by first | exact (Bk.nw _ _ _).cell 0 | exact ((Bk.nw _ _ _).drwN _).cell 0 | exact ((Bk.nw _ _ _).drw).cell 0) (by first | exact (Bk.nw _ _ _).cell 1 | exact ((Bk.nw _ _ _).drwN _).cell 1 | exact ((Bk.nw _ _ _).drw).cell 1) (by first | exact (Bk.nw _ _ _).cell 2 | exact ((Bk.nw _ _ _).drwN _).cell 2 | exact ((Bk.nw _ _ _).drw).cell 2) (HX1.out.1.bel (by (repeat (first | exact HB5.out | exact Bel.rf | (with_reducible refine Bel.drwN ?_ _) | (with_reducible refine Bel.drw ?_) | (with_reducible refine Bel.al ?_ _) | (refine Bel.tr ?_ (by assumption)))))) (HZ6.out.bel (by (repeat (first | exact Bel.rf | (with_reducible refine Bel.drwN ?_ _) | (with_reducible refine Bel.drw ?_) | (with_reducible refine Bel.al ?_ _) | (refine Bel.tr ?_ (by assumption)))))) (HX2.out.1.bel (by (repeat (first | exact HB5.out | exact Bel.rf | (with_reducible refine Bel.drwN ?_ _) | (with_reducible refine Bel.drw ?_) | (with_reducible refine Bel.al ?_ _) | (refine Bel.tr ?_ (by assumption))))))).mono ?_); rintro e w7 ⟨A7, c7, rfl, hv7, hf7, hb7⟩; have HV7 := Lib.hid hv7; have HF7 := Lib.hid hf7; have HB57 : Hid (Bel V5 w7) := (by (repeat (first | exact Bel.rf | (with_reducible refine Bel.drwN ?_ _) | (with_reducible refine Bel.drw ?_) | (with_reducible refine Bel.al ?_ _) | (refine Bel.tr ?_ (by assumption))))); have T7 := HT.out.bel HB57.out; have t2 : w7.cell? ⟨b8, 2, none⟩ = some (.slice none 0 0) := T7.cell 2; have tf := T7.fr 2; have tl := T7.lt; have t0 : w7.cell? ⟨b8, 0, none⟩ = some (.int .i64 s1) := T7.cell 0; have t1 : w7.cell? ⟨b8, 1, none⟩ = some (.int .i64 sp) := T7.cell 1; have HT7 := Lib.hid T7; have HG7 : Hid (∀ ad, A7 = some ad → V5.heap.size ≤ ad.block) := (fun ad e => Nat.le_trans (Bel.size (a := V5) (by (repeat (first | exact Bel.rf | (with_reducible refine Bel.drwN ?_ _) | (with_reducible refine Bel.drw ?_) | (with_reducible refine Bel.al ?_ _) | (refine Bel.tr ?_ (by assumption)))))) (HF7.out ad e)); clear T7 hv7 hf7 hb7 hb6))
  have h58 : b8 < V5.heap.size := HT.out.lt
  have hfar : ∀ ad, A7 = some ad → ad.block ≠ (⟨b8, 2, none⟩ : Addr).block := fun ad e => by have := HG7.out ad e; show ad.block ≠ b8; omega
  have HV8 := Lib.hid (HV7.out.far hfar (.slice A7 N c7))
  have HT8 : Hid (Bk (w7.setCell ⟨b8, 2, none⟩ (.slice A7 N c7)) b8 24 #[.int .i64 s1, .int .i64 sp, .slice A7 N c7]) := HT7.out.st 2 _
  have HU8 : Hid (Bk (w7.setCell ⟨b8, 2, none⟩ (.slice A7 N c7)) (w.heap.size + 1 + 1) 24 #[.int .i64 0, .int .i64 0, .slice none 0 0]) := (HU3.out.bel HB57.out).far (by show w.heap.size + 1 + 1 ≠ b8; omega) _
  have HB8 : Hid (Bel w (w7.setCell ⟨b8, 2, none⟩ (.slice A7 N c7))) := (HB5.out.tr HB57.out).st (by show w.heap.size ≤ b8; omega) _
  have VJ : Hid (∀ W, Zi W A7 N (L1 ++ List.replicate g 1073741824 ++ L2) → _) := fun W hW => valid_ok s1 sp A7 N c7 _ HSB.out HSV.out W hW
  obtain ⟨W8, hW8⟩ : ∃ V, w7.setCell ⟨b8, 2, none⟩ (.slice A7 N c7) = V := ⟨_, rfl⟩
  rw [hW8] at HV8 HT8 HU8 HB8
  clear t0 t1 t2 tf tl
  have t0 : W8.cell? ⟨b8, 0, none⟩ = some (.int .i64 s1) := HT8.out.cell 0
  have t1 : W8.cell? ⟨b8, 1, none⟩ = some (.int .i64 sp) := HT8.out.cell 1
  have t2 : W8.cell? ⟨b8, 2, none⟩ = some (.slice A7 N c7) := HT8.out.cell 2
  have tl := HT8.out.lt
  rw [hW8]
  go_wp2_with fail
  go_at_call 25
  refine (VJ.out _ (by first | exact HV8.out.1 | exact HV8.out.1.bel Bel.rf.drw | exact HV8.out.1.bel (Bel.rf.drwN _))).mono ?_
  rintro e w9 ⟨rfl, hb9⟩
  have HB89 : Hid (Bel W8 w9) := (by first | exact hb9 | exact Bel.rf.drw.tr hb9 | exact (Bel.rf.drwN _).tr hb9)
  clear t0 t1 t2 tl hb9
  have T9 := HT8.out.bel HB89.out
  have U9 := HU8.out.bel HB89.out
  have t0 : w9.cell? ⟨b8, 0, none⟩ = some (.int .i64 s1) := T9.cell 0
  have t1 : w9.cell? ⟨b8, 1, none⟩ = some (.int .i64 sp) := T9.cell 1
  have t2 : w9.cell? ⟨b8, 2, none⟩ = some (.slice A7 N c7) := T9.cell 2
  have tl := T9.lt
  have u0 : w9.cell? ⟨w.heap.size + 1 + 1, 0, none⟩ = some (.int .i64 0) := U9.cell 0
  have u1 : w9.cell? ⟨w.heap.size + 1 + 1, 1, none⟩ = some (.int .i64 0) := U9.cell 1
  have u2 : w9.cell? ⟨w.heap.size + 1 + 1, 2, none⟩ = some (.slice none 0 0) := U9.cell 2
  have x0 := U9.fr 0
  have x1 := U9.fr 1
  have x2 := U9.fr 2
  have ul := U9.lt
  have HU9 := Lib.hid U9
  clear T9 U9
  go_wp2
  refine bodyPost_ret (v := .tuple #[.agg #[.int .i64 s1, .int .i64 sp, .slice A7 N c7], .int .i64 0]) (results_s2 Try.results18 _ _ (w.heap.size + 1 + 1) (.int .i64 s1) (.int .i64 sp) (.slice A7 N c7) rfl (((HU9.out.st 0 _).st 1 _).st 2 _)) rfl ?_
  have hq : ∀ ad, A7 = some ad → ad.block ≠ w.heap.size + 1 + 1 := fun ad e => by have := HG7.out ad e; omega
  have hle : w.heap.size ≤ w.heap.size + 1 + 1 := by omega
  have hN2 := HN.out
  subst hN2
  exact ⟨A7, c7, rfl, (((HV8.out.bel HB89.out).far (q := ⟨w.heap.size + 1 + 1, 0, none⟩) hq _).far (q := ⟨w.heap.size + 1 + 1, 1, none⟩) hq _).far (q := ⟨w.heap.size + 1 + 1, 2, none⟩) hq _, (((HB8.out.tr HB89.out).st (p := ⟨w.heap.size + 1 + 1, 0, none⟩) hle _).st (p := ⟨w.heap.size + 1 + 1, 1, none⟩) hle _).st (p := ⟨w.heap.size + 1 + 1, 2, none⟩) hle _⟩
end Go.Proofs.Ythpmgadmefhfpaa.Se
