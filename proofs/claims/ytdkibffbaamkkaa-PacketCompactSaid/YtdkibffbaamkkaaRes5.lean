/- resample: Apply. -/
import Derived.Test.YtdkibffbaamkkaaRes4
namespace Go.Proofs.Ytdkibffbaamkkaa.Rg
open Go.ChangeShapes Go.WideShapes Go.RowKit Wo Sr Wi Rm
set_option linter.unusedVariables false
def vz (p : Int × Bool) : Int := if p.2 = true then p.1 else 1073741824
def vals (l : List Rp) (f s r q : Int) (N : Nat) : List Int := (List.range N).map fun (i : Nat) => vz (val l r q (f + (i : Int) * s))
theorem vals_len (l : List Rp) (f s r q : Int) (N : Nat) : (vals l f s r q N).length = N := by simp [vals]
theorem vals_at (l : List Rp) (f s r q : Int) (N i : Nat) (h : i < N) : (vals l f s r q N).getD i 0 = vz (val l r q (f + (i : Int) * s)) := by
  rw [List.getD_eq_getElem?_getD, vals, List.getElem?_map, List.getElem?_range h]; rfl
theorem bk_set {w : World} {h : Nat} {t : TypeId} {M : List Int} (hb : Bk w h t (zs M).toArray) (k : Nat) (v : Int) : Bk (w.setCell ⟨h, k, none⟩ (.int .i64 v)) h t (zs (M.set k v)).toArray := by
  have := hb.st k (.int .i64 v)
  have e : (zs M).toArray.setIfInBounds k (.int .i64 v) = (zs (M.set k v)).toArray := by simp [zs, List.map_set]
  rwa [e] at this
theorem set_at (A : List Int) (k i : Nat) (y : Int) : (A.set k y).getD i 0 = if i = k ∧ i < A.length then y else A.getD i 0 := by
  rw [List.getD_eq_getElem?_getD, List.getD_eq_getElem?_getD, List.getElem?_set]
  rcases Classical.em (k = i) with rfl | h
  · rcases Nat.lt_or_ge k A.length with h2 | h2
    · simp [h2]
    · simp [Nat.not_lt.2 h2]
  · rw [if_neg h, if_neg (by omega)]
theorem lists_eq {A B : List Int} (hl : A.length = B.length) (h : ∀ i, i < A.length → A.getD i 0 = B.getD i 0) : A = B := by
  apply List.ext_getElem?
  intro i
  rcases Nat.lt_or_ge i A.length with hi | hi
  · have := h i hi
    rw [List.getD_eq_getElem?_getD, List.getD_eq_getElem?_getD, List.getElem?_eq_getElem hi, List.getElem?_eq_getElem (by omega)] at this
    rw [List.getElem?_eq_getElem hi, List.getElem?_eq_getElem (by omega)]
    exact congrArg some this
  · rw [List.getElem?_eq_none hi, List.getElem?_eq_none (by omega)]
set_option maxHeartbeats 8000000 in
set_option maxRecDepth 100000 in
theorem apply_ok (A : Option Addr) (ca n : Nat) (l : List Rp) (hn : n ≤ 2000) (hs : Asc l) (f s r q : Int) (N : Nat) (hg : Gv f s (N : Int) r q) (w : World) (h : Zr w A n l) :
    Calls Try.prog 25 #[.slice A n ca, gv f s (N : Int) r q] w fun e w' => ∃ gq : Nat, e = .returned (.tuple #[.agg #[.int .i64 f, .int .i64 s, .slice (some ⟨gq, 0, none⟩) N N], .int .i64 0]) ∧ w.heap.size ≤ gq ∧ Bk w' gq 3 (zs (vals l f s r q N)).toArray ∧ Bel w w' := by
  have HRG : Hid (∀ W, Bel w W → _) := fun W hW => regular_ok A ca n l hn hs W (h.bel hW)
  have HVD : Hid (∀ W, _) := fun W => valid_ok f s N r q hg W
  obtain ⟨f0, f1, s0, s1, c0, c1, h1, r0, r1, q0, q1⟩ := hg
  have HTM : Hid (∀ i : Nat, i < N → 0 ≤ (i : Int) * s ∧ f + (i : Int) * s ≤ 1099511627776) := fun i hi => by
    have a := h1 (by omega)
    have b := Int.mul_le_mul_of_nonneg_right (show (i : Int) ≤ (N : Int) - 1 by omega) (show 0 ≤ s by omega)
    exact ⟨Int.mul_nonneg (by omega) (by omega), by omega⟩
  have HVL : Hid (∀ (t : Int) W, 0 ≤ t → t ≤ 1099511627776 → Bel w W → _) := fun t W t0 t1 hW => value_ok A ca n l hn hs f s N r q t t0 t1 r0 r1 q0 q1 W (h.bel hW)
  obtain ⟨i0, hi0, hz0, hz1, hz2⟩ := info_parts info_int
  have HI := Lib.hid (And.intro hi0 (And.intro hz0 (And.intro hz1 hz2)))
  have HMK : Hid (∀ W : World, (Instr.makeSlice 22 (.int .i64 (N : Int)) (.int .i64 (N : Int))).run Try.prog W = .ok (.slice (some ⟨W.heap.size, 0, none⟩) N N) (W.alloc (.cells (zs (List.replicate N 0)).toArray 3))) := fun W => by
    have hr := run_make (P := Try.prog) W 22 3 i0 (.int .i64 0) Try.underlying22 hi0 hz0 .i64 .i64 (N : Int) (N : Int) (by omega) (by omega) (by rw [hz2]; omega) (by omega)
    simp only [Int.toNat_natCast] at hr
    rw [hz1, made_i64] at hr
    exact hr
  unfold gv at HVD HVL ⊢
  clear h hs h1 hi0 hz0 hz1 hz2
  go_enter Try.func25, Try.ntmps25
  go_wp2_with fail
  go_at_call 40
  refine (HVD.out _).mono ?_
  rintro e w1 ⟨rfl, hb⟩
  have KB := ((Bk.nw w 46 #[.int .i64 f, .int .i64 s, .int .i64 (N : Int), .int .i64 r, .int .i64 q]).al _).bel hb
  have KR := (Bk.nq (w.alloc (.cells #[.int .i64 f, .int .i64 s, .int .i64 (N : Int), .int .i64 r, .int .i64 q] 46)) 54 #[.int .i64 0, .int .i64 0, .slice none 0 0] (g := w.heap.size + 1) (by simp)).bel hb
  have HB1 : Hid (Bel w w1) := ((Bel.rf.al _).al _).tr hb
  have HKB := Lib.hid KB
  have HKR := Lib.hid KR
  clear hb KB KR
  go_wp2_with fail
  go_at_call 39
  refine (HRG.out _ (by first | exact HB1.out | exact HB1.out.drwN _)).mono ?_
  rintro e w2 ⟨rfl, hb⟩
  have HB2 : Hid (Bel w w2) := by first | exact HB1.out.tr hb | exact (HB1.out.drwN _).tr hb
  have KB : Bk w2 w.heap.size 46 #[.int .i64 f, .int .i64 s, .int .i64 (N : Int), .int .i64 r, .int .i64 q] := by first | exact HKB.out.bel hb | exact (HKB.out.drwN _).bel hb
  have KR : Bk w2 (w.heap.size + 1) 54 #[.int .i64 0, .int .i64 0, .slice none 0 0] := by first | exact HKR.out.bel hb | exact (HKR.out.drwN _).bel hb
  have k0 := KB.cell 0
  have k1 := KB.cell 1
  have k2 := KB.cell 2
  simp at k0 k1 k2
  have kz := KR.lt
  have k0a := fun o => kp_al k0 o
  have k0b := fun o p => kp_al (kp_al k0 o) p
  have k1a := fun o => kp_al k1 o
  have k1b := fun o p => kp_al (kp_al k1 o) p
  have k2a := fun o => kp_al k2 o
  have k2b := fun o p => kp_al (kp_al k2 o) p
  have HKB2 := Lib.hid KB
  have HKR2 := Lib.hid KR
  have hmk : ∀ W : World, (Instr.makeSlice 22 (.int .i64 (N : Int)) (.int .i64 (N : Int))).run Try.prog W = .ok (.slice (some ⟨W.heap.size, 0, none⟩) N N) (W.alloc (.cells (zs (List.replicate N 0)).toArray 3)) := HMK.out
  clear hb KB KR
  go_wp2
  go_region
  -- ORDERS
  · generalize hW : ((w2.alloc (.cells (zs (List.replicate N 0)).toArray 3)).alloc (.cells #[.int .i64 f, .int .i64 s, .slice (some ⟨w2.heap.size, 0, none⟩) N N] 54)).drew = W
    have HSZ : Hid (w.heap.size ≤ w2.heap.size ∧ w.heap.size + 1 < w2.heap.size) := ⟨HB2.out.size, kz⟩
    have KQ : Bk W (w2.heap.size) 3 (zs (List.replicate N 0)).toArray := by rw [← hW]; exact Bk.nw w2 _ _ |>.al _ |>.drw
    have KS : Bk W (w2.heap.size + 1) 54 #[.int .i64 f, .int .i64 s, .slice (some ⟨w2.heap.size, 0, none⟩) N N] := by rw [← hW]; exact Bk.nq _ _ _ (by simp) |>.drw
    have HBW : Hid (Bel w2 W) := by show Bel _ _; rw [← hW]; exact ((Bel.rf.al _).al _).drw
    have HR0 : Hid (∃ (k : Nat) (V : World) (M : List Int), V = W ∧ k ≤ N ∧ Value.int IntKind.i64 0 = .int .i64 (k : Int) ∧ M.length = N ∧ (∀ i, i < k → M.getD i 0 = (vals l f s r q N).getD i 0) ∧ Bk W (w2.heap.size) 3 (zs M).toArray ∧ Bk W (w2.heap.size + 1) 54 #[.int .i64 f, .int .i64 s, .slice (some ⟨w2.heap.size, 0, none⟩) N N] ∧ Bk W w.heap.size 46 #[.int .i64 f, .int .i64 s, .int .i64 (N : Int), .int .i64 r, .int .i64 q] ∧ Bk W (w.heap.size + 1) 54 #[.int .i64 0, .int .i64 0, .slice none 0 0] ∧ Bel w W) := ⟨0, _, _, rfl, by omega, rfl, by simp, fun i hi => by omega, KQ, KS, HKB2.out.bel HBW.out, HKR2.out.bel HBW.out, HB2.out.tr HBW.out⟩
    have y2 := KS.cell 2
    simp at y2
    clear hW KQ KS k0 k1 k2 k0a k0b k1a k1b k2a k2b kz hmk
    go_wp2
    go_loopw [32] (fun s32 wr => ∃ (k : Nat) (V : World) (M : List Int), V = wr ∧ k ≤ N ∧ s32 = .int .i64 (k : Int) ∧ M.length = N ∧ (∀ i, i < k → M.getD i 0 = (vals l f s r q N).getD i 0) ∧ Bk wr (w2.heap.size) 3 (zs M).toArray ∧ Bk wr (w2.heap.size + 1) 54 #[.int .i64 f, .int .i64 s, .slice (some ⟨w2.heap.size, 0, none⟩) N N] ∧ Bk wr w.heap.size 46 #[.int .i64 f, .int .i64 s, .int .i64 (N : Int), .int .i64 r, .int .i64 q] ∧ Bk wr (w.heap.size + 1) 54 #[.int .i64 0, .int .i64 0, .slice none 0 0] ∧ Bel w wr) (fun s32 _ => N - (intOf s32).toNat)
    case atStart => exact HR0.out
    case round =>
      clear HR0 y2
      obtain ⟨k, wr, M, hwr, hk, rfl, hM, hval, kq, ks, kg, kn, hb⟩ := hrel
      subst hwr
      have HQ := Lib.hid (And.intro hM (And.intro hval (And.intro kq (And.intro ks (And.intro kg (And.intro kn hb))))))
      rcases Nat.lt_or_ge k N with hlt | hge
      · have g0 := kg.cell 0
        have g1 := kg.cell 1
        have g2 := kg.cell 2
        have g3 := kg.cell 3
        have g4 := kg.cell 4
        simp at g0 g1 g2 g3 g4
        have ht := HTM.out k hlt
        obtain ⟨T, hT⟩ : ∃ T, f + (k : Int) * s = T := ⟨_, rfl⟩
        obtain ⟨P, hP⟩ : ∃ P, (k : Int) * s = P := ⟨_, rfl⟩
        rw [hP] at hT
        rw [hP] at ht
        obtain ⟨p0, p1⟩ := ht
        have wP : wrap64 P = P := IntWalk.wrap64_in _ (by omega)
        have HV2 : Hid (∀ W, Bel w W → _) := fun W hW => HVL.out (f + P) W (by omega) (by omega) hW
        have hv : (vals l f s r q N).getD k 0 = vz (val l r q (f + P)) := by rw [vals_at _ _ _ _ _ _ _ hlt, hP]
        obtain ⟨x, hx⟩ : ∃ x, (val l r q (f + P)).1 = x := ⟨_, rfl⟩
        obtain ⟨y, hy⟩ : ∃ x, (val l r q (f + P)).2 = x := ⟨_, rfl⟩
        unfold vz at hv
        rw [hx, hy] at HV2
        rw [hx, hy] at hv
        have HVE := Lib.hid hv
        have ki : (k : Int) < (N : Int) := by omega
        clear hM hval kq ks kg kn hv hx hy hT
        go_wp2_with fail
        go_at_call 41
        refine (HV2.out _ (by first | exact hb | exact hb.drwN _ | exact hb.drw)).mono ?_
        rintro e w3 ⟨rfl, hb3⟩
        have HB3 : Hid (Bel wr w3) := by first | exact hb3 | exact (Bel.rf.drwN _).tr hb3 | exact Bel.rf.drw.tr hb3
        have KS3 := HQ.out.2.2.2.1.bel HB3.out
        have KQ3 := HQ.out.2.2.1.bel HB3.out
        have z2 := KS3.cell 2
        have q2 := KQ3.cell k
        have qf := KQ3.fr k
        rw [List.getElem?_toArray, zs_at (by rw [HQ.out.1]; exact hlt)] at q2
        simp at z2
        clear hb hb3 KS3 KQ3 g0 g1 g2 g3 g4
        rcases (show y = true ∨ y = false by cases y <;> simp) with rfl | rfl
        all_goals
          go_wp2
          go_roundw
          case rel =>
            refine ⟨k + 1, _, M.set k _, rfl, by omega, by go_num, by rw [List.length_set]; exact HQ.out.1, ?_, bk_set (HQ.out.2.2.1.bel HB3.out) k _, (HQ.out.2.2.2.1.bel HB3.out).far (by simp) _, (HQ.out.2.2.2.2.1.bel HB3.out).far (by simp; have := HSZ.out; omega) _, (HQ.out.2.2.2.2.2.1.bel HB3.out).far (by simp; have := HSZ.out; omega) _, (HQ.out.2.2.2.2.2.2.tr HB3.out).st (by simp; have := HSZ.out; omega) _⟩
            intro i hi
            rw [set_at]
            by_cases h9 : i = k
            · subst h9
              rw [if_pos ⟨rfl, by rw [HQ.out.1]; exact hlt⟩, HVE.out]
              simp
            · rw [if_neg (by omega)]
              exact HQ.out.2.1 i (by omega)
          case measure => simp [intOf]; omega
      · obtain rfl : k = N := by omega
        have hMV : M = vals l f s r q k := lists_eq (by rw [hM, vals_len]) (fun i hi => hval i (by omega))
        subst hMV
        have y0 := ks.cell 0
        have y1 := ks.cell 1
        have y2 := ks.cell 2
        have n0 := kn.cell 0
        have n1 := kn.cell 1
        have n2 := kn.cell 2
        have m0 := kn.fr 0
        have m1 := kn.fr 1
        have m2 := kn.fr 2
        simp at y0 y1 y2 n0 n1 n2
        clear hval kq ks kg kn hb hM
        go_wp2
        refine bodyPost_ret (v := .tuple #[.agg #[.int .i64 f, .int .i64 s, .slice (some ⟨w2.heap.size, 0, none⟩) k k], .int .i64 0]) (results_s Try.results25 _ _ (w.heap.size + 1) (.int .i64 f) (.int .i64 s) (.slice (some ⟨w2.heap.size, 0, none⟩) k k) rfl (((HQ.out.2.2.2.2.2.1.st 0 _).st 1 _).st 2 _)) rfl ?_
        exact ⟨_, rfl, by have := HSZ.out; omega, ((HQ.out.2.2.1.far (by simp; have := HSZ.out; omega) _).far (by simp; have := HSZ.out; omega) _).far (by simp; have := HSZ.out; omega) _, ((HQ.out.2.2.2.2.2.2.st (by simp) _).st (by simp) _).st (by simp) _⟩
  · generalize hW : ((w2.alloc (.cells #[.int .i64 f, .int .i64 s, .slice (some ⟨w2.heap.size + 1, 0, none⟩) N N] 54)).alloc (.cells (zs (List.replicate N 0)).toArray 3)).drew = W
    have HSZ : Hid (w.heap.size ≤ w2.heap.size ∧ w.heap.size + 1 < w2.heap.size) := ⟨HB2.out.size, kz⟩
    have KQ : Bk W (w2.heap.size + 1) 3 (zs (List.replicate N 0)).toArray := by rw [← hW]; exact Bk.nq _ _ _ (by simp) |>.drw
    have KS : Bk W (w2.heap.size) 54 #[.int .i64 f, .int .i64 s, .slice (some ⟨w2.heap.size + 1, 0, none⟩) N N] := by rw [← hW]; exact Bk.nw w2 _ _ |>.al _ |>.drw
    have HBW : Hid (Bel w2 W) := by show Bel _ _; rw [← hW]; exact ((Bel.rf.al _).al _).drw
    have HR0 : Hid (∃ (k : Nat) (V : World) (M : List Int), V = W ∧ k ≤ N ∧ Value.int IntKind.i64 0 = .int .i64 (k : Int) ∧ M.length = N ∧ (∀ i, i < k → M.getD i 0 = (vals l f s r q N).getD i 0) ∧ Bk W (w2.heap.size + 1) 3 (zs M).toArray ∧ Bk W (w2.heap.size) 54 #[.int .i64 f, .int .i64 s, .slice (some ⟨w2.heap.size + 1, 0, none⟩) N N] ∧ Bk W w.heap.size 46 #[.int .i64 f, .int .i64 s, .int .i64 (N : Int), .int .i64 r, .int .i64 q] ∧ Bk W (w.heap.size + 1) 54 #[.int .i64 0, .int .i64 0, .slice none 0 0] ∧ Bel w W) := ⟨0, _, _, rfl, by omega, rfl, by simp, fun i hi => by omega, KQ, KS, HKB2.out.bel HBW.out, HKR2.out.bel HBW.out, HB2.out.tr HBW.out⟩
    have y2 := KS.cell 2
    simp at y2
    clear hW KQ KS k0 k1 k2 k0a k0b k1a k1b k2a k2b kz hmk
    go_wp2
    go_loopw [32] (fun s32 wr => ∃ (k : Nat) (V : World) (M : List Int), V = wr ∧ k ≤ N ∧ s32 = .int .i64 (k : Int) ∧ M.length = N ∧ (∀ i, i < k → M.getD i 0 = (vals l f s r q N).getD i 0) ∧ Bk wr (w2.heap.size + 1) 3 (zs M).toArray ∧ Bk wr (w2.heap.size) 54 #[.int .i64 f, .int .i64 s, .slice (some ⟨w2.heap.size + 1, 0, none⟩) N N] ∧ Bk wr w.heap.size 46 #[.int .i64 f, .int .i64 s, .int .i64 (N : Int), .int .i64 r, .int .i64 q] ∧ Bk wr (w.heap.size + 1) 54 #[.int .i64 0, .int .i64 0, .slice none 0 0] ∧ Bel w wr) (fun s32 _ => N - (intOf s32).toNat)
    case atStart => exact HR0.out
    case round =>
      clear HR0 y2
      obtain ⟨k, wr, M, hwr, hk, rfl, hM, hval, kq, ks, kg, kn, hb⟩ := hrel
      subst hwr
      have HQ := Lib.hid (And.intro hM (And.intro hval (And.intro kq (And.intro ks (And.intro kg (And.intro kn hb))))))
      rcases Nat.lt_or_ge k N with hlt | hge
      · have g0 := kg.cell 0
        have g1 := kg.cell 1
        have g2 := kg.cell 2
        have g3 := kg.cell 3
        have g4 := kg.cell 4
        simp at g0 g1 g2 g3 g4
        have ht := HTM.out k hlt
        obtain ⟨T, hT⟩ : ∃ T, f + (k : Int) * s = T := ⟨_, rfl⟩
        obtain ⟨P, hP⟩ : ∃ P, (k : Int) * s = P := ⟨_, rfl⟩
        rw [hP] at hT
        rw [hP] at ht
        obtain ⟨p0, p1⟩ := ht
        have wP : wrap64 P = P := IntWalk.wrap64_in _ (by omega)
        have HV2 : Hid (∀ W, Bel w W → _) := fun W hW => HVL.out (f + P) W (by omega) (by omega) hW
        have hv : (vals l f s r q N).getD k 0 = vz (val l r q (f + P)) := by rw [vals_at _ _ _ _ _ _ _ hlt, hP]
        obtain ⟨x, hx⟩ : ∃ x, (val l r q (f + P)).1 = x := ⟨_, rfl⟩
        obtain ⟨y, hy⟩ : ∃ x, (val l r q (f + P)).2 = x := ⟨_, rfl⟩
        unfold vz at hv
        rw [hx, hy] at HV2
        rw [hx, hy] at hv
        have HVE := Lib.hid hv
        have ki : (k : Int) < (N : Int) := by omega
        clear hM hval kq ks kg kn hv hx hy hT
        go_wp2_with fail
        go_at_call 41
        refine (HV2.out _ (by first | exact hb | exact hb.drwN _ | exact hb.drw)).mono ?_
        rintro e w3 ⟨rfl, hb3⟩
        have HB3 : Hid (Bel wr w3) := by first | exact hb3 | exact (Bel.rf.drwN _).tr hb3 | exact Bel.rf.drw.tr hb3
        have KS3 := HQ.out.2.2.2.1.bel HB3.out
        have KQ3 := HQ.out.2.2.1.bel HB3.out
        have z2 := KS3.cell 2
        have q2 := KQ3.cell k
        have qf := KQ3.fr k
        rw [List.getElem?_toArray, zs_at (by rw [HQ.out.1]; exact hlt)] at q2
        simp at z2
        clear hb hb3 KS3 KQ3 g0 g1 g2 g3 g4
        rcases (show y = true ∨ y = false by cases y <;> simp) with rfl | rfl
        all_goals
          go_wp2
          go_roundw
          case rel =>
            refine ⟨k + 1, _, M.set k _, rfl, by omega, by go_num, by rw [List.length_set]; exact HQ.out.1, ?_, bk_set (HQ.out.2.2.1.bel HB3.out) k _, (HQ.out.2.2.2.1.bel HB3.out).far (by simp) _, (HQ.out.2.2.2.2.1.bel HB3.out).far (by simp; have := HSZ.out; omega) _, (HQ.out.2.2.2.2.2.1.bel HB3.out).far (by simp; have := HSZ.out; omega) _, (HQ.out.2.2.2.2.2.2.tr HB3.out).st (by simp; have := HSZ.out; omega) _⟩
            intro i hi
            rw [set_at]
            by_cases h9 : i = k
            · subst h9
              rw [if_pos ⟨rfl, by rw [HQ.out.1]; exact hlt⟩, HVE.out]
              simp
            · rw [if_neg (by omega)]
              exact HQ.out.2.1 i (by omega)
          case measure => simp [intOf]; omega
      · obtain rfl : k = N := by omega
        have hMV : M = vals l f s r q k := lists_eq (by rw [hM, vals_len]) (fun i hi => hval i (by omega))
        subst hMV
        have y0 := ks.cell 0
        have y1 := ks.cell 1
        have y2 := ks.cell 2
        have n0 := kn.cell 0
        have n1 := kn.cell 1
        have n2 := kn.cell 2
        have m0 := kn.fr 0
        have m1 := kn.fr 1
        have m2 := kn.fr 2
        simp at y0 y1 y2 n0 n1 n2
        clear hval kq ks kg kn hb hM
        go_wp2
        refine bodyPost_ret (v := .tuple #[.agg #[.int .i64 f, .int .i64 s, .slice (some ⟨w2.heap.size + 1, 0, none⟩) k k], .int .i64 0]) (results_s Try.results25 _ _ (w.heap.size + 1) (.int .i64 f) (.int .i64 s) (.slice (some ⟨w2.heap.size + 1, 0, none⟩) k k) rfl (((HQ.out.2.2.2.2.2.1.st 0 _).st 1 _).st 2 _)) rfl ?_
        exact ⟨_, rfl, by have := HSZ.out; omega, ((HQ.out.2.2.1.far (by simp; have := HSZ.out; omega) _).far (by simp; have := HSZ.out; omega) _).far (by simp; have := HSZ.out; omega) _, ((HQ.out.2.2.2.2.2.2.st (by simp) _).st (by simp) _).st (by simp) _⟩
end Go.Proofs.Ytdkibffbaamkkaa.Rg
