/- That the law ResampleMoves returns true for every input that can be read, and leaves its arguments as they were; no further condition. -/
import Derived.Test.YtdkibffbaamkkaaRows
import Derived.WalkKit
import Derived.ProofKit
import Derived.OpenShut
import Derived.Test.YtdkibffbaamkkaaWords
import Derived.Test.YtdkibffbaamkkaaSrcNew0
import Derived.Test.YtdkibffbaamkkaaMv8
import Derived.ShutString
import Derived.ChangeOld
import Derived.Below
namespace Go.Proofs.Ytdkibffbaamkkaa.resampleMoves
open Go.ChangeShapes Go.WideShapes Go.ChangeAt Go.RowKit Wo
open Go.ChangeMaps (open_string shut_string)
set_option linter.unusedVariables false

theorem own : ownKnob Try.prog.godebug = none := by kernel_rfl
theorem laidOut : laidOutB Try.prog = true := by kernel_rfl

/-- WHAT THE WALK IS TOLD OF A SLICE OF INTEGERS THAT CAME IN: it is nil; or it leads to a row of 'cap' cells, the numbers 'zs' (the first 'len' are its elements, the rest its spare room), each fitting its kind. -/
def IsRow (k : IntKind) (w : World) (a : Option Addr) (len cap : Nat) (zs : List Int) : Prop :=
  (a = none ∧ len = 0 ∧ cap = 0 ∧ zs = []) ∨
  ∃ x, a = some x ∧ len ≤ cap ∧ cap ≤ maxLen ∧ zs.length = cap ∧ (∀ i, i < zs.length → w.cell? (x.add i) = some (.int k (zs.getD i 0))) ∧ ∀ n ∈ zs, (Lit.int k n).wf = true

open Go.Proofs.Ytdkibffbaamkkaa.Rg Go.Proofs.Ytdkibffbaamkkaa.Rm Go.Proofs.Ytdkibffbaamkkaa.Wi Go.Proofs.Ytdkibffbaamkkaa.Wo Go.Proofs.Ytdkibffbaamkkaa.Sr in
set_option maxHeartbeats 8000000 in
set_option maxRecDepth 100000 in
theorem walk (a0 : Option Addr) (len0 cap0 : Nat) (z0 : List Int) (a1 : Int) (w : World) (w0 : IsRow .i64 w a0 len0 cap0 z0) (w1 : (Lit.int .u16 a1).wf = true) :
    Calls Try.prog 11 #[.slice a0 len0 cap0, .int .u16 a1] w fun e w' => e = .returned (.bool true) ∧ Below w.heap.size w w' := by
  obtain ⟨t0, t1⟩ := bounds_u16 w1
  clear w1
  have AW : Hid (∀ W, Calls Try.prog 23 #[] W fun e w' => e = .returned (.bool true) ∧ Bel W w') := awake_ok
  go_enter Try.func11, Try.ntmps11
  go_wp2_with fail
  go_at_call 13
  refine (new_any a0 len0 cap0 z0 w w0).mono ?_
  rintro e v1 ⟨g, rfl, hg, ho1, hb1⟩
  have HO1 := Lib.hid ho1
  have HB1 := Lib.hid hb1
  clear ho1 hb1 w0
  go_wp2_with fail
  go_at_call 20
  refine (ascending_any g 10 (by decide) _ HO1.out).mono ?_
  rintro e v2 ⟨v, k, l, rfl, hown, hl, hk, hs, hx0, ho2, hc2⟩
  have HB2 : Hid (Bel w v2) := Bel.ch HB1.out hc2 hg
  have HO2 := Lib.hid ho2
  obtain ⟨A, ca, rfl, hz⟩ := own_zr hown hl
  have HZ := Lib.hid hz
  have HS := Lib.hid hs
  have HL := Lib.hid hl
  have ki : (k : Int) ≤ 10 := by omega
  have HIN : Hid (∀ i, i < k → 0 ≤ tm l i ∧ tm l i ≤ 1099511627776 ∧ -1000 ≤ vl l i ∧ vl l i ≤ 1000) := fun i hi => hs.1 i (by omega)
  clear hown ho2 hc2 hz hs hx0 hl
  go_wp2
  go_loopw [6, 7, 22] (fun s6 s7 s22 wr => ∃ (t : Nat) (V : World) (ux uy : Value), V = wr ∧ ux = s6 ∧ uy = s7 ∧ t ≤ k ∧ s22 = .int .i64 (t : Int) ∧ Bel v2 wr ∧ wr.ownsRow v2.heap.size 40 2 s6 t (rs ((lm l).take t)) ∧ wr.ownsRow v2.heap.size 40 2 s7 t (rs (mv ((lm l).take t) a1)) ∧ (∀ b, s6.ownBlock = some b → s7.ownBlock ≠ some b)) (fun _ _ s22 _ => k - (intOf s22).toNat)
  case atStart => exact ⟨0, _, _, _, rfl, rfl, rfl, by omega, rfl, by first | exact Bel.rf | exact Bel.rf.drwN _, World.ownsRow_nil _ _ _ _, World.ownsRow_nil _ _ _ _, fun b e => by cases e⟩
  case round =>
    obtain ⟨t, wr, ux, uy, hwr, hux, huy, ht, rfl, hb, hx, hy, hap⟩ := hrel
    subst hwr hux huy
    have HB := Lib.hid hb
    have HX := Lib.hid hx
    have HY := Lib.hid hy
    have HAP := Lib.hid hap
    rcases Nat.lt_or_ge t k with hlt | hge
    · obtain ⟨gb, rfl, hgl, hgc⟩ := (HZ.out.bel hb).2 (by omega)
      obtain ⟨ci, cv⟩ := hgc t hlt
      obtain ⟨y0, y1, x0, x1⟩ := HIN.out t hlt
      have hT := lm_tm l t (by have := HL.out; omega)
      have hV := lm_vl l t (by have := HL.out; omega)
      have hsn := take_snoc (lm l) t (by rw [lm_len]; have := HL.out; omega)
      rw [hV] at hsn
      obtain ⟨y, hye⟩ : ∃ y, tm l t = y := ⟨_, rfl⟩
      obtain ⟨x, hxe⟩ : ∃ y, vl l t = y := ⟨_, rfl⟩
      obtain ⟨T, hTe⟩ : ∃ y, tm (lm l) t = y := ⟨_, rfl⟩
      rw [hye] at ci y0 y1 hT
      rw [hxe] at cv x0 x1 hsn
      rw [hTe] at hT hsn
      have T0 : 0 ≤ T ∧ T ≤ 1099511626775 := by
        have h1 := Int.tmod_nonneg (a := y) 1099511626776 y0
        have h2 := Int.tmod_lt_of_pos y (b := 1099511626776) (by decide)
        omega
      obtain ⟨T0, T1⟩ := T0
      have hTr : y.tmod 1099511626776 = T := hT.symm
      have wT : wrap64 (T + a1) = T + a1 := IntWalk.wrap64_in _ (by omega)
      have ti : (t : Int) < (k : Int) := by omega
      have wa : IntKind.i64.wrap a1 = a1 := IntWalk.i64_in _ (by omega)
      have wTa : IntKind.i64.wrap (T + a1) = T + a1 := IntWalk.i64_in _ (by omega)
      have HSN := Lib.hid hsn
      have hgw : gb < wr.heap.size := hgl
      have HPR0 : Hid (∀ W, Bel wr W → wr.heap.size < W.heap.size → Bk W wr.heap.size 40 #[.int .i64 T, .int .i64 x] → Pr v2 W wr.heap.size ux uy t t ((lm l).take t) (mv ((lm l).take t) a1) T x) := fun W hW hs hk => ⟨HB.out.tr hW, own_bel HX.out hW, own_bel HY.out hW, HAP.out, hk, own_ne HX.out rfl, own_ne HY.out rfl⟩
      clear hb hx hy hap hgl hgc hye hxe hTe hT hsn hV
      obtain ⟨W2, hW2⟩ : ∃ W2, wr.alloc (.cells #[.int .i64 T, .int .i64 x] 40) = W2 := ⟨_, rfl⟩
      have hsz2 : W2.heap.size = wr.heap.size + 1 := by rw [← hW2]; simp
      have HP0 := HPR0.out W2 (by rw [← hW2]; exact Bel.rf.al _) (by omega) (by rw [← hW2]; exact Bk.nw _ _ _)
      have hW2b : Bel v2 W2 := HP0.bel
      have HP := Lib.hid HP0
      have HXL : Hid (∀ q, ux.ownBlock = some q → q < wr.heap.size) := fun q e => (HX.out.lt q e).2
      have HYL : Hid (∀ q, uy.ownBlock = some q → q < wr.heap.size) := fun q e => (HY.out.lt q e).2
      clear HP0
      go_upto_region 7 with fail
      try rw [hW2]
      have n0 := HP.out.k9.cell 0
      have n1 := HP.out.k9.cell 1
      simp only [List.getElem?_toArray, List.getElem?_cons_zero, List.getElem?_cons_succ] at n0 n1
      clear hW2 ci cv hW2b
      go_region_law (first
        | (refine step_appr _ rfl (.tmp 34) (.tmp 43) rfl v2.heap.size uy t (mv ((lm l).take t) a1) rfl (own_bel hTA.oy (by repeat (first | exact Bel.rf | (with_reducible refine Bel.drwN ?_ _) | (with_reducible refine Bel.drw ?_) | (with_reducible refine Bel.al ?_ _)))) _ 1 (T + a1, x) rfl (by (repeat (first | (with_reducible refine Bk.drwN ?_ _) | (with_reducible refine Bk.drw ?_))); first | (refine Bk.nq _ _ _ ?_; (first | rfl | omega | (simp; done) | (simp; omega))) | (refine hkA _ _ ?_ ?_; (first | omega | (simp; omega)); (repeat (first | (with_reducible refine Bk.drwN ?_ _) | (with_reducible refine Bk.drw ?_))); first | (refine Bk.nq _ _ _ ?_; (first | rfl | omega | (simp; done) | (simp; omega))) | (refine Bk.al ?_ _; (repeat (first | (with_reducible refine Bk.drwN ?_ _) | (with_reducible refine Bk.drw ?_))); (refine Bk.nq _ _ _ ?_; (first | rfl | omega | (simp; done) | (simp; omega)))))) (by omega) ((hTA.up (by repeat (first | exact Bel.rf | (with_reducible refine Bel.drwN ?_ _) | (with_reducible refine Bel.drw ?_) | (with_reducible refine Bel.al ?_ _)))).bel.size) ?_; intro vq wq hoq hgq hatq; have hT2 := ((hTA.up (by repeat (first | exact Bel.rf | (with_reducible refine Bel.drwN ?_ _) | (with_reducible refine Bel.drw ?_) | (with_reducible refine Bel.al ?_ _)))).sx.ax hoq hgq hatq).sx; clear hoq hgq hatq)
        | (refine step_appr _ rfl (.tmp 30) (.tmp 32) rfl v2.heap.size ux t ((lm l).take t) rfl (own_bel HP.out.ox (by repeat (first | exact Bel.rf | (with_reducible refine Bel.drwN ?_ _) | (with_reducible refine Bel.drw ?_) | (with_reducible refine Bel.al ?_ _)))) _ 1 (T, x) rfl (by (repeat (first | (with_reducible refine Bk.drwN ?_ _) | (with_reducible refine Bk.drw ?_))); first | (refine Bk.nq _ _ _ ?_; (first | rfl | omega | (simp; done) | (simp; omega))) | (refine Bk.al ?_ _; (repeat (first | (with_reducible refine Bk.drwN ?_ _) | (with_reducible refine Bk.drw ?_))); (refine Bk.nq _ _ _ ?_; (first | rfl | omega | (simp; done) | (simp; omega))))) (by omega) ((HP.out.up (by repeat (first | exact Bel.rf | (with_reducible refine Bel.drwN ?_ _) | (with_reducible refine Bel.drw ?_) | (with_reducible refine Bel.al ?_ _)))).bel.size) ?_; intro vp wp hop hgp hatp; have hTA := (HP.out.up (by repeat (first | exact Bel.rf | (with_reducible refine Bel.drwN ?_ _) | (with_reducible refine Bel.drw ?_) | (with_reducible refine Bel.al ?_ _)))).ax hop hgp hatp; have hkA := fun (b : Nat) (cs : Array Value) (hb : wr.heap.size ≤ b) hk => bk_gr (g := b) (t := 40) (cs := cs) hk hgp (fun e => by have := HXL.out b e; omega); have m0 := hTA.k9.cell 0; have m1 := hTA.k9.cell 1; simp only [List.getElem?_toArray, List.getElem?_cons_zero, List.getElem?_cons_succ] at m0 m1; clear hop hgp hatp))
      all_goals
        have HT2 := Lib.hid hT2
        clear hT2
        go_wp2
        go_roundw
        case rel => exact ⟨t + 1, _, _, _, rfl, rfl, rfl, by omega, by go_num, HT2.out.bel, by rw [HSN.out]; exact HT2.out.ox, by rw [HSN.out, mv_snoc]; exact HT2.out.oy, HT2.out.ap⟩
        case measure => simp [intOf]; omega
    · obtain rfl : t = k := by omega
      have e1 : (lm l).take t = lm l := List.take_of_length_le (by rw [lm_len]; have := HL.out; omega)
      rw [e1] at hx hy
      have lL : (lm l).length = t := by rw [lm_len]; exact HL.out
      obtain ⟨Ax, cx, rfl, hzx⟩ := own_zr hx lL
      obtain ⟨Ay, cy, rfl, hzy⟩ := own_zr hy (by rw [mv_len]; exact lL)
      have hAx : ∀ b, Ax = some ⟨b, 0, none⟩ → b ≠ g := fun b e => by
        have h1 := (hx.lt b (by rw [e]; rfl)).1
        have h2 := HO2.out.lt
        omega
      have hAy : ∀ b, Ay = some ⟨b, 0, none⟩ → b ≠ g := fun b e => by
        have h1 := (hy.lt b (by rw [e]; rfl)).1
        have h2 := HO2.out.lt
        omega
      have HLI : Hid (∀ i, i < t → 0 ≤ tm (lm l) i ∧ -1000 ≤ vl (lm l) i ∧ vl (lm l) i ≤ 1000) := fun i hi => by
        have h1 := HIN.out i hi
        rw [lm_tm l i (by have := HL.out; omega), lm_vl l i (by have := HL.out; omega)]
        have h3 := Int.tmod_nonneg (a := tm l i) 1099511626776 h1.1
        omega
      have HAX := Lib.hid (And.intro hAx hAy)
      have HZX := Lib.hid hzx
      have HZY := Lib.hid hzy
      have HLL := Lib.hid lL
      clear hb hx hy hap hzx hzy hAx hAy e1 lL HX HY HAP HZ HS
      go_wp2_with fail
      go_loopw [48] (fun s48 wq => ∃ (i : Nat) (V : World), V = wq ∧ i ≤ t ∧ s48 = .int .i64 (i : Int) ∧ Ea (lm l) i ∧ Bel wr wq) (fun s48 _ => t - (intOf s48).toNat)
      case atStart => exact ⟨0, _, rfl, by omega, rfl, fun j hj => by omega, by first | exact Bel.rf | exact Bel.rf.drwN _⟩
      case round =>
        obtain ⟨i, wq, hwq, hi, rfl, hea, hbq⟩ := hrel
        subst hwq
        have HBQ := Lib.hid hbq
        have HEA := Lib.hid hea
        rcases Nat.lt_or_ge i t with hlt | hge
        · obtain ⟨gx, rfl, hgl, hgc⟩ := (HZX.out.bel hbq).2 (by omega)
          have ci := (hgc i hlt).1
          have hy0 := (HLI.out i hlt).1
          have ii : (i : Int) < (t : Int) := by omega
          obtain ⟨T, hT⟩ : ∃ T, tm (lm l) i = T := ⟨_, rfl⟩
          rw [hT] at ci hy0
          have HTT := Lib.hid hT
          clear hT
          rcases Int.lt_or_le 1073741824 T with h1 | h1
          · have d1 : decide (1073741824 < T) = true := decide_eq_true h1
            clear hbq hea hgl hgc
            go_wp2
            go_quiet (fail)
            go_wp2_with (go_at_call 23; refine (AW.out _).mono ?_; rintro e w9 ⟨rfl, hb9⟩)
            go_ret
            exact ⟨rfl, (((HB2.out.tr HB.out).tr HBQ.out).tr (by first | exact hb9 | exact (Bel.rf.drwN _).tr hb9 | exact Bel.rf.drw.tr hb9)).bl⟩
          · have d1 : decide (1073741824 < T) = false := decide_eq_false (by omega)
            have d2 : ¬ 1073741824 < T := by omega
            rcases Nat.eq_zero_or_pos i with hi0 | hip
            · subst hi0
              clear hbq hea hgl hgc
              go_wp2
              go_quiet (fail)
              go_wp2
              go_roundw
              case rel => exact ⟨0 + 1, _, rfl, by omega, by go_num, ea_next HEA.out (by rw [HTT.out]; omega) (by intro h; omega), by first | exact HBQ.out | exact HBQ.out.drw | exact HBQ.out.drwN _⟩
              case measure => simp [intOf]; omega
            · obtain ⟨p, hp⟩ : ∃ p, i - 1 = p := ⟨_, rfl⟩
              have cp := (hgc p (by omega)).1
              obtain ⟨S, hS⟩ : ∃ S, tm (lm l) p = S := ⟨_, rfl⟩
              rw [hS] at cp
              have kp : (i : Int) - 1 = (p : Int) := by omega
              have pi : (p : Int) < (t : Int) := by omega
              have i0 : (0 : Int) < (i : Int) := by omega
              have HSS : Hid (tm (lm l) (i - 1) = S) := by show _ = _; rw [hp]; exact hS
              clear hS hp hbq hea hgl hgc
              rcases Int.lt_or_le S T with h2 | h2
              · have e1 : ¬ T ≤ S := by omega
                have e2 : decide (T ≤ S) = false := decide_eq_false (by omega)
                go_wp2
                go_quiet (fail)
                go_wp2
                go_roundw
                case rel => exact ⟨i + 1, _, rfl, by omega, by go_num, ea_next HEA.out (by rw [HTT.out]; omega) (by intro h; rw [HSS.out, HTT.out]; omega), by first | exact HBQ.out | exact HBQ.out.drw | exact HBQ.out.drwN _⟩
                case measure => simp [intOf]; omega
              · have e2 : decide (T ≤ S) = true := decide_eq_true h2
                go_wp2
                go_quiet (fail)
                go_wp2_with (go_at_call 23; refine (AW.out _).mono ?_; rintro e w9 ⟨rfl, hb9⟩)
                go_ret
                exact ⟨rfl, (((HB2.out.tr HB.out).tr HBQ.out).tr (by first | exact hb9 | exact (Bel.rf.drwN _).tr hb9 | exact Bel.rf.drw.tr hb9)).bl⟩
        · obtain rfl : i = t := by omega
          have hasc : Asc (lm l) := ea_asc (by rw [HLL.out]; exact hea) (fun j hj => HLI.out j (by rw [← HLL.out]; exact hj))
          have hasc2 : Asc (mv (lm l) a1) := asc_mv hasc t0 (fun j hj => by have := (hea j (by rw [← HLL.out]; exact hj)).1; omega)
          have hog : Ok wq g := HO2.out.bel (HB.out.tr hbq)
          have HOG := Lib.hid hog
          have HEE := Lib.hid hea
          clear hbq hea hog
          go_wp2_with fail
          go_at_call 24
          refine (kgrid_any g i cx Ax (lm l) (by omega) (asc_vrs hasc) _ (by first | exact HOG.out | exact HOG.out.drwN _) (by first | exact HZX.out.bel HBQ.out | exact (HZX.out.bel HBQ.out).bel (Bel.rf.drwN _)) HAX.out.1).mono ?_
          rintro e v3 ⟨f, s, r, q, N, rfl, hgv, f1, hf, s1, hN, ho3, hc3⟩
          have hc3' : Ch g wq v3 := by first | exact hc3 | exact (Ch.rf.drwN _).tr hc3
          have hgw : w.heap.size ≤ g := hg
          have HB3 : Hid (Bel w v3) := Bel.ch ((HB2.out.tr HB.out).tr HBQ.out) hc3' hg
          have hz3 := (HZX.out.bel HBQ.out).ch hc3' HAX.out.1
          have hy3 := (HZY.out.bel HBQ.out).ch hc3' HAX.out.2
          have hf2 : f ≤ 1073741839 := by
            rcases hf with h | ⟨j, hj, h⟩
            · omega
            · have := (HEE.out j hj).1
              omega
          have HAP : Hid (∀ W, Bel v3 W → _) := fun W hW => apply_ok Ax cx i (lm l) (by omega) hasc f s r q N hgv W (hz3.bel hW)
          have HAQ : Hid (∀ W, Bel v3 W → _) := fun W hW => apply_ok Ay cy i (mv (lm l) a1) (by omega) hasc2 (f + a1) s r q N (gv_mv hgv hf2 s1 hN t0 t1) W (hy3.bel hW)
          rw [vals_mv] at HAQ
          obtain ⟨M, hM⟩ : ∃ M, vals (lm l) f s r q N = M := ⟨_, rfl⟩
          have hML : M.length = N := by rw [← hM, vals_len]
          rw [hM] at HAP HAQ
          obtain ⟨f0, _, s0, _, _, _, _, r0, r1, q0, q1⟩ := hgv
          have ni : (N : Int) ≤ 19 := by omega
          have wfa : wrap64 (f + a1) = f + a1 := IntWalk.wrap64_in _ (by omega)
          have wfb : IntKind.i64.wrap (f + a1) = f + a1 := IntWalk.i64_in _ (by omega)
          have wa : IntKind.i64.wrap a1 = a1 := IntWalk.i64_in _ (by omega)
          have HINT : Hid (∀ (gp gr : Nat) W, Zi W (some ⟨gp, 0, none⟩) N M → Zi W (some ⟨gr, 0, none⟩) N M → _) := fun gp gr W h1 h2 => ints_same (some ⟨gp, 0, none⟩) (some ⟨gr, 0, none⟩) N N N M (by omega) W h1 h2
          have HMM := Lib.hid hML
          unfold gv at HAP HAQ ⊢
          clear ho3 hc3 hc3' hf hz3 hy3 hasc hasc2 hM hML
          go_wp2_with fail
          go_at_call 25
          refine (HAP.out _ (by repeat (first | exact Bel.rf | (with_reducible refine Bel.drwN ?_ _) | (with_reducible refine Bel.drw ?_) | (with_reducible refine Bel.al ?_ _) | (refine Bel.st2 ?_ ?_ _; (simp; done))))).mono ?_
          rintro e w4 ⟨gq, rfl, hgq, hkq, hb4⟩
          have KH : Bk w4 (v3.heap.size + 1) 46 #[.int .i64 (f + a1), .int .i64 s, .int .i64 (N : Int), .int .i64 r, .int .i64 q] := (Bk.nq (v3.alloc (.cells #[.int .i64 f, .int .i64 s, .int .i64 (N : Int), .int .i64 r, .int .i64 q] 46)) _ _ (by simp)).bel hb4
          have HB4 : Hid (Bel v3 w4) := Bel.tr (by repeat (first | exact Bel.rf | (with_reducible refine Bel.drwN ?_ _) | (with_reducible refine Bel.drw ?_) | (with_reducible refine Bel.al ?_ _) | (refine Bel.st2 ?_ ?_ _; (simp; done)))) hb4
          have HKQ := Lib.hid hkq
          have g0 := KH.cell 0
          have g1 := KH.cell 1
          have g2 := KH.cell 2
          have g3 := KH.cell 3
          have g4 := KH.cell 4
          have hlt1 := KH.lt
          have hlt2 := hkq.lt
          simp only [List.getElem?_toArray, List.getElem?_cons_zero, List.getElem?_cons_succ] at g0 g1 g2 g3 g4
          clear KH hkq hb4
          go_wp2_with fail
          go_at_call 25
          refine (HAQ.out _ (HB4.out.tr (by repeat (first | exact Bel.rf | (with_reducible refine Bel.drwN ?_ _) | (with_reducible refine Bel.drw ?_) | (with_reducible refine Bel.al ?_ _) | (refine Bel.st2 ?_ ?_ _; (simp; done)))))).mono ?_
          rintro e w5 ⟨gp, rfl, hgp, hkp, hb5⟩
          have HB5 : Hid (Bel w4 w5) := Bel.tr (by repeat (first | exact Bel.rf | (with_reducible refine Bel.drwN ?_ _) | (with_reducible refine Bel.drw ?_) | (with_reducible refine Bel.al ?_ _) | (refine Bel.st2 ?_ ?_ _; (simp; done)))) hb5
          have KS : Bk w5 w4.heap.size 54 #[.int .i64 f, .int .i64 s, .slice (some ⟨gq, 0, none⟩) N N] := (Bk.nw w4 _ _).bel hb5
          have n0 := KS.cell 0
          have n1 := KS.cell 1
          have n2 := KS.cell 2
          have hlt3 := KS.lt
          simp only [List.getElem?_toArray, List.getElem?_cons_zero, List.getElem?_cons_succ] at n0 n1 n2
          have HZ1 : Hid (∀ W, Bel w5 W → Zi W (some ⟨gq, 0, none⟩) N M) := fun W hW => zi_bk ((HKQ.out.bel HB5.out).bel hW) N HMM.out
          have HZ2 : Hid (∀ W, Bel w5 W → Zi W (some ⟨gp, 0, none⟩) N M) := fun W hW => zi_bk (hkp.bel hW) N HMM.out
          clear KS hb5 hkp g0 g1 g2 g3 g4
          have d0 := kp_al n0 (.cells #[.int .i64 (f + a1), .int .i64 s, .slice (some ⟨gp, 0, none⟩) N N] 54)
          have d1 := kp_al n1 (.cells #[.int .i64 (f + a1), .int .i64 s, .slice (some ⟨gp, 0, none⟩) N N] 54)
          have d2 := kp_al n2 (.cells #[.int .i64 (f + a1), .int .i64 s, .slice (some ⟨gp, 0, none⟩) N N] 54)
          have d3 : (w5.alloc (.cells #[.int .i64 (f + a1), .int .i64 s, .slice (some ⟨gp, 0, none⟩) N N] 54)).cell? ⟨w5.heap.size, 0, none⟩ = some (.int .i64 (f + a1)) := (Bk.nw w5 _ _).cell 0
          have d4 : (w5.alloc (.cells #[.int .i64 (f + a1), .int .i64 s, .slice (some ⟨gp, 0, none⟩) N N] 54)).cell? ⟨w5.heap.size, 1, none⟩ = some (.int .i64 s) := (Bk.nw w5 _ _).cell 1
          have d5 : (w5.alloc (.cells #[.int .i64 (f + a1), .int .i64 s, .slice (some ⟨gp, 0, none⟩) N N] 54)).cell? ⟨w5.heap.size, 2, none⟩ = some (.slice (some ⟨gp, 0, none⟩) N N) := (Bk.nw w5 _ _).cell 2
          go_wp2_with (first
            | (go_at_call 26; refine (HINT.out _ _ _ (HZ1.out _ (by repeat (first | exact Bel.rf | (with_reducible refine Bel.drwN ?_ _) | (with_reducible refine Bel.drw ?_) | (with_reducible refine Bel.al ?_ _) | (refine Bel.st2 ?_ ?_ _; (simp; done))))) (HZ2.out _ (by repeat (first | exact Bel.rf | (with_reducible refine Bel.drwN ?_ _) | (with_reducible refine Bel.drw ?_) | (with_reducible refine Bel.al ?_ _) | (refine Bel.st2 ?_ ?_ _; (simp; done)))))).mono ?_; rintro e w9 ⟨rfl, hb9⟩)
            | (go_at_call 23; refine (AW.out _).mono ?_; rintro e w10 ⟨rfl, hb10⟩))
          go_ret
          exact ⟨rfl, (HB3.out.tr (HB4.out.tr (HB5.out.tr (Bel.tr (by repeat (first | exact Bel.rf | (with_reducible refine Bel.drwN ?_ _) | (with_reducible refine Bel.drw ?_) | (with_reducible refine Bel.al ?_ _) | (with_reducible refine Bel.tr ?_ hb9))) hb10)))).bl⟩

set_option maxRecDepth 100000 in
theorem lifted (os : Os) (started : os.Started) (H : Type) (enc : TypeId × Value → H) :
    ReturnsInHanded {} Try.checked os 11 .any (Rows.resampleMovesSpec.pre6 enc Try.prog Try.f11 Rows.resampleMovesRow.domain false) (Rows.resampleMovesSpec.post enc Try.prog Try.f11 false true false false) := by
  refine returnsInHanded_of_change (C := Try.checked) own started (by kernel_rfl) Try.func11
    (ChangeSpec.witness6 (enc := enc) (C := Try.checked) false ⟨#[], #[.slice none 0 0, .int .u16 0], []⟩ 8 (by kernel_rfl) (by kernel_rfl) (by kernel_rfl) (by kernel_rfl)) ?_
  intro W base args ds gs before hval0 hW hcnd _
  have hval : ∀ (j : Nat) t v, Try.f11.params[j]? = some t → args[j]? = some v → Value.okWide Try.prog W .any base t v := hval0
  have hW' := hW
  obtain ⟨p, q, hA0, hV, rfl, hfz, hnd⟩ := hW
  have hA : DataW.TrodAll enc Try.prog W 0 (fun _ => true) true Try.f11.params.toList args.toList ds p := hA0
  rw [Try.params11] at hA hval
  obtain ⟨v0, vs0, d0, ds0, p0, q0, hargs, rfl, rfl, h0, r0⟩ := trodAll_cons hA
  obtain ⟨v1, vs1, d1, ds1, p1, q1, rfl, rfl, rfl, h1, r1⟩ := trodAll_cons r0
  obtain ⟨rfl, rfl, rfl⟩ := trodAll_nil r1
  obtain rfl : args = #[v0, v1] := by cases args; simp_all
  obtain ⟨rfl, rfl⟩ := trodVars_none hV
  obtain ⟨a0, len0, cap0, rfl⟩ := okWide_slice Try.underlying22 (hval 0 22 v0 rfl rfl)
  have k0 := h0
  have lt0 : ∀ x ∈ p0, x.block < W.heap.size := by obtain ⟨m, hm⟩ := k0; exact DataW.trod_lt m _ _ _ hm
  obtain ⟨z0, w0⟩ : ∃ zs, IsRow .i64 W a0 len0 cap0 zs := by
    obtain ⟨fuel, hf⟩ := h0
    rcases open_ints Try.underlying22 Try.underlying3 (by kernel_rfl) hf with ⟨hcs, _⟩ | ⟨x, l, c, zs, hcs, _, hl, hm, hz, _, hcell, hwz⟩
    · simp [Value.cells] at hcs
      obtain ⟨rfl, rfl, rfl⟩ := hcs
      exact ⟨[], .inl ⟨rfl, rfl, rfl, rfl⟩⟩
    · simp [Value.cells] at hcs
      obtain ⟨rfl, rfl, rfl⟩ := hcs
      exact ⟨zs, .inr ⟨_, rfl, hl, hm, by simpa using hz, hcell, hwz⟩⟩
  obtain ⟨a1, rfl, rfl, rfl, w1⟩ := open_int Try.underlying57 (hval 1 57 v1 rfl rfl) h1
  clear hA0 hval0
  refine (walk a0 len0 cap0 z0 a1 W w0 w1).mono fun e W' ⟨he, bel⟩ => ?_
  subst he
  exact ⟨_, rfl, _, _, _, [], _, [], hW', trodAll_mk1 (shut_bool Try.underlying4 _), (trodAll_cons_mk (Below.trod laidOut (by kernel_rfl) (of_decide_eq_true (by kernel_rfl)) k0 bel lt0) (trodAll_cons_mk (shut_int Try.underlying57 w1) trodAll_mk0)), rfl, bel.frame _, fun h => by cases h⟩

theorem over : Rows.resampleMovesRow.holds Try.pinned (OpenSpec.ofChange Rows.resampleMovesSpec) :=
  OpenClaim.holds_of_wide 11 Try.f11 rfl rfl rfl rfl rfl rfl rfl ⟨rfl, rfl, rfl, rfl, rfl⟩ rfl rfl rfl rfl rfl (by kernel_rfl) Try.func11 (by kernel_rfl)
    (of_decide_eq_true (by kernel_rfl)) (by unfold Func.isWrapper; first | (rw [if_pos (by decide +kernel)]; kernel_rfl) | (rw [if_neg (by decide +kernel)]; exact ⟨rfl, rfl⟩))
    (fun os started H enc _ => lifted os started H enc)

theorem proved : Rows.ResampleMovesSaid := over
end Go.Proofs.Ytdkibffbaamkkaa.resampleMoves
