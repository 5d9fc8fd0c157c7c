/- segment.best. -/
import Derived.Test.YtaplbkfmedofcaaSgE
import Derived.Laws.ResultCell
namespace Go.Proofs.Ytaplbkfmedofcaa.Sg
open Go.ChangeShapes Go.WideShapes Go.RowKit Wo Bm By Cd Pk
open Wi (Zi zi_bk)
open Sr (zs zs_at zs_len)
set_option linter.unusedVariables false
theorem meth_e0 (w : World) : (method 233 99 (.agg #[]) "shapesearch/segment.encode").run Try.prog w = .ok (79, .agg #[]) w := by kernel_rfl
theorem meth_e1 (w : World) : (method 233 100 (.agg #[]) "shapesearch/segment.encode").run Try.prog w = .ok (81, .agg #[]) w := by kernel_rfl
theorem meth_e2 (w : World) : (method 233 101 (.agg #[]) "shapesearch/segment.encode").run Try.prog w = .ok (93, .agg #[]) w := by kernel_rfl
theorem kenc1' (A : Option Addr) (c n : Nat) (x : List Int) (hv : Vx x) (hn : x.length = n) (K C S : Int) (w : World) (hz : Zi w A n x) :
    Calls Try.prog 81 #[.agg #[], .slice A n c, hdv K C (mn x) (mx x) S] w (SomeKe (pd x) w) := by
  refine (kenc1 A c n _ x hv hn rfl K C S w hz).mono ?_
  rintro e w' ⟨h, rfl, hr, hb⟩
  exact ⟨_, _, _, rfl, rfl, hr, fun e => (by cases e), hb⟩
/-- what is known behind k kinds: the kind, the data, whether there are some -/
def stt (x : List Int) (k : Nat) : Nat × List Nat × Bool :=
  if k = 0 then (0, [], false) else if k = 1 then (0, [], decide (mn x = mx x)) else if k = 2 then (if mn x = mx x then (0, [], true) else (1, pd x, true)) else (kd x, dt x, true)
/-- what best gives of samples -/
def SomeBest (x : List Int) (w : World) (e : Ending) (w' : World) : Prop := ∃ (A : Option Addr) (N c : Nat), e = .returned (.tuple #[hdv (kd x) x.length (mn x) (mx x) x.sum, .slice A N c]) ∧ (dt x).length = N ∧ Rd w' A N (dt x) ∧ (A = none → c = 0) ∧ Bel w w'
def BRel (x : List Int) (g n : Nat) (w : World) (s7 s8 s34 : Value) (wr : World) : Prop := ∃ (k : Nat) (A : Option Addr) (N c : Nat) (V : World), V = wr ∧ k ≤ 3 ∧ s34 = .int .i64 (k : Int) ∧ s8 = .bool (stt x k).2.2 ∧ s7 = .slice A N c ∧ (stt x k).2.1.length = N ∧ Rd wr A N (stt x k).2.1 ∧ (A = none → c = 0) ∧
  Bk wr (w.heap.size + 1) 34 (hcs (stt x k).1 (n : Int) (mn x) (mx x) x.sum) ∧ Bk wr w.heap.size 34 (hcs 0 0 0 0 0) ∧ Bk wr g 80 knd ∧ Bel w wr
theorem results_h {fn : Func} {p u : Tmp} (h : fn.results = #[.cell p 34, .tmp u]) (tmps : Array Value) (w : World) (g : Nat) (K C Lo G S : Int)
    (hp : tmps.getD p undef = .pointer (some ⟨g, 0, none⟩)) (hg : Bk w g 34 (hcs K C Lo G S)) :
    (results fn tmps).run Try.prog w = .ok (.tuple #[hdv K C Lo G S, tmps.getD u undef]) w := by
  have hp' : tmps[p]?.getD undef = .pointer (some ⟨g, 0, none⟩) := by simpa using hp
  have hl := run_loadVar_row (P := Try.prog) w g 34 34 (hcs K C Lo G S) (0, 0) _ hg Try.underlying34 rfl (by kernel_rfl)
  simp [results, h, hp', asAddr, hl, hdv, hcs]
theorem rd_cs {w : World} {A : Option Addr} {N p i : Nat} {t : TypeId} {cs : Array Value} {L : List Nat} {z : Int} (h : Rd w A N L) (hb : Bk w p t cs) (hi : cs[i]? = some (.int .i64 z)) (v : Value) : Rd (w.setCell ⟨p, i, none⟩ v) A N L := by
  refine ⟨h.1, h.2.1, fun hn => ?_⟩
  obtain ⟨ad, e, hx, hc⟩ := h.2.2 hn
  refine ⟨ad, e, by simpa [World.setCell] using hx, fun j hj => ?_⟩
  have h1 := hc j hj
  refine (World.cell?_setCell_other _ _ _ _ (fun e => ?_)).trans h1
  rw [← e] at h1
  have h2 := hb.cell i
  rw [h1, hi] at h2
  simp at h2
theorem rd_hd {w : World} {A : Option Addr} {N p : Nat} {L : List Nat} {K C Lo G S : Int} (h : Rd w A N L) (hb : Bk w p 34 (hcs K C Lo G S)) (v : Value) : Rd (w.setCell ⟨p, 0, none⟩ v) A N L := by
  refine ⟨h.1, h.2.1, fun hn => ?_⟩
  obtain ⟨ad, e, hx, hc⟩ := h.2.2 hn
  refine ⟨ad, e, by simpa [World.setCell] using hx, fun j hj => ?_⟩
  have h1 := hc j hj
  refine (World.cell?_setCell_other _ _ _ _ (fun e => ?_)).trans h1
  rw [← e] at h1
  have h2 := hb.cell 0
  rw [h1] at h2
  simp [hcs] at h2
theorem brel_no {x : List Int} {g n : Nat} {w w4 : World} {k' N c K : Nat} {A : Option Addr} {D : List Nat} {b : Bool} (hk : k' ≤ 3) (hst : stt x k' = (K, D, b)) (hD : D.length = N) (hrd : Rd w4 A N D) (hA : A = none → c = 0)
    (HH : Bk w4 (w.heap.size + 1) 34 (hcs (K : Int) (n : Int) (mn x) (mx x) x.sum)) (HB0 : Bk w4 w.heap.size 34 (hcs 0 0 0 0 0)) (HBK : Bk w4 g 80 knd) (hX : Bel w w4) :
    BRel x g n w (.slice A N c) (.bool b) (.int .i64 (k' : Int)) w4 :=
  ⟨k', A, N, c, w4, rfl, hk, rfl, by rw [hst], rfl, by rw [hst]; exact hD, by rw [hst]; exact hrd, hA, by rw [hst]; exact HH, HB0, HBK, hX⟩
theorem brel_st {x : List Int} {g n : Nat} {w w4 : World} {k' N c K' : Nat} {K : Int} {A : Option Addr} {D : List Nat} {b : Bool} (hk : k' ≤ 3) (hst : stt x k' = (K', D, b)) (hD : D.length = N) (hrd : Rd w4 A N D) (hA : A = none → c = 0)
    (HH : Bk w4 (w.heap.size + 1) 34 (hcs K (n : Int) (mn x) (mx x) x.sum)) (HB0 : Bk w4 w.heap.size 34 (hcs 0 0 0 0 0)) (HBK : Bk w4 g 80 knd) (hX : Bel w w4) (hg : g ≠ w.heap.size + 1) :
    BRel x g n w (.slice A N c) (.bool b) (.int .i64 (k' : Int)) (w4.setCell ⟨w.heap.size + 1, 0, none⟩ (.int .i64 (K' : Int))) :=
  brel_no hk hst hD (rd_hd hrd HH _) hA (HH.st 0 _) (HB0.far (by show w.heap.size ≠ w.heap.size + 1; omega) _) (HBK.far hg _) (hX.st (by show _ ≤ w.heap.size + 1; omega) _)
set_option maxHeartbeats 1600000 in
set_option maxRecDepth 100000 in
theorem best_ok (h o c n : Nat) (x : List Int) (hv : Vx x) (hn : x.length = n) (w : World) (hz : Zi w (some ⟨h, o, none⟩) n x) :
    Calls Try.prog 29 #[.slice (some ⟨h, o, none⟩) n c] w (SomeBest x w) := by
  have hn1 : 1 ≤ n ∧ n ≤ 64 := by have := hv.1; have := hv.2.1; omega
  have HMN : Hid (∀ W, Bel w W → Calls Try.prog 43 #[.slice (some ⟨h, o, none⟩) n c] W fun e w' => e = .returned (.int .i64 (mn x)) ∧ W = w') := fun W hb => by
    refine (Try.slices_Min_int h o n c x W (by omega) (by omega) (by omega) (fun j hj => ?_)).mono ?_
    · obtain ⟨ad, e, _, hc⟩ := (hz.bel hb).2 (by omega)
      cases e
      have h9 := hc j (by omega)
      have e2 : (⟨h, o, none⟩ : Addr).add j = ⟨h, o + j, none⟩ := by unfold Addr.add; split <;> simp_all
      rwa [e2] at h9
    · rintro e w' ⟨rfl, rfl⟩
      rw [List.take_of_length_le (by omega)]
      exact ⟨rfl, rfl⟩
  have HMX : Hid (∀ W, Bel w W → Calls Try.prog 44 #[.slice (some ⟨h, o, none⟩) n c] W fun e w' => e = .returned (.int .i64 (mx x)) ∧ W = w') := fun W hb => by
    refine (Try.slices_Max_int h o n c x W (by omega) (by omega) (by omega) (fun j hj => ?_)).mono ?_
    · obtain ⟨ad, e, _, hc⟩ := (hz.bel hb).2 (by omega)
      cases e
      have h9 := hc j (by omega)
      have e2 : (⟨h, o, none⟩ : Addr).add j = ⟨h, o + j, none⟩ := by unfold Addr.add; split <;> simp_all
      rwa [e2] at h9
    · rintro e w' ⟨rfl, rfl⟩
      rw [List.take_of_length_le (by omega)]
      exact ⟨rfl, rfl⟩
  have HZ := Lib.hid hz
  have HV := Lib.hid hv
  have HN := Lib.hid hn
  have HSM : Hid (∀ k, k ≤ n → -64000 ≤ (x.take k).sum ∧ (x.take k).sum ≤ 64000) := fun k hk => by
    have := sum_in (x.take k) (hv.2.2.take k)
    rw [List.length_take] at this
    omega
  have HSN : Hid (∀ k, k < n → (x.take (k + 1)).sum = (x.take k).sum + x.getD k 0) := fun k hk => by
    rw [take_next x k (by omega), List.sum_append]; simp
  have HSF : Hid ((x.take n).sum = x.sum) := by show _ = _; rw [List.take_of_length_le (by omega)]
  have HXA : Hid (∀ i, -1000 ≤ x.getD i 0 ∧ x.getD i 0 ≤ 1000) := fun i => hv.2.2.at i
  have KK : Hid (∀ W, _) := fun W => kinds_ok W
  have ni : (n : Int) ≤ 64 := by omega
  clear hz hv hn
  go_enter Try.func29, Try.ntmps29
  go_wp2_with (first
    | (go_at_call 43; refine (HMN.out _ (by repeat (first | exact Bel.rf | (with_reducible refine Bel.drwN ?_ _) | (with_reducible refine Bel.drw ?_) | (with_reducible refine Bel.al ?_ _)))).mono ?_; rintro e w' ⟨rfl, rfl⟩)
    | (go_at_call 44; refine (HMX.out _ (by repeat (first | exact Bel.rf | (with_reducible refine Bel.drwN ?_ _) | (with_reducible refine Bel.drw ?_) | (with_reducible refine Bel.al ?_ _)))).mono ?_; rintro e w' ⟨rfl, rfl⟩))
  go_loopw [22] (fun s22 wr => ∃ (k : Nat) (V : World), V = wr ∧ k ≤ n ∧ s22 = .int .i64 (k : Int) ∧ Bk wr (w.heap.size + 1) 34 (hcs 0 (n : Int) (mn x) (mx x) (x.take k).sum) ∧ Bk wr w.heap.size 34 (hcs 0 0 0 0 0) ∧ Bel w wr) (fun s22 _ => n - (intOf s22).toNat)
  case atStart => exact ⟨0, _, rfl, by omega, rfl, Bk.nq _ _ _ (by simp), (Bk.nw _ _ _).al _, (Bel.rf.al _).al _⟩
  case round =>
    clear HMN HMX
    obtain ⟨k, wr, hwr, hk, rfl, hb, hb0, hbe⟩ := hrel
    subst hwr
    have HB := Lib.hid hb
    have HB0 := Lib.hid hb0
    have HX := Lib.hid hbe
    have hl1 := hb.lt
    rcases Nat.lt_or_ge k n with hlt | hge
    · obtain ⟨ad, e, hab, hac⟩ := (HZ.out.bel hbe).2 (by omega)
      cases e
      have c1 := hac k hlt
      rw [show (⟨h, o, none⟩ : Addr).add k = ⟨h, o + k, none⟩ by unfold Addr.add; split <;> simp_all] at c1
      have c2 : wr.cell? ⟨w.heap.size + 1, 4, none⟩ = some (.int .i64 (x.take k).sum) := hb.cell 4
      have f1 := hb.fr 4
      have hs1 := HSM.out k hk
      have hs2 := HSM.out (k + 1) hlt
      have hs3 := HSN.out k hlt
      have hx := HXA.out k
      obtain ⟨y, hy⟩ : ∃ y, x.getD k 0 = y := ⟨_, rfl⟩
      obtain ⟨s, hs⟩ : ∃ s, (x.take k).sum = s := ⟨_, rfl⟩
      obtain ⟨s', hs'⟩ : ∃ s, (x.take (k + 1)).sum = s := ⟨_, rfl⟩
      rw [hy] at c1 hx hs3
      rw [hs] at c2 hs1 hs3
      rw [hs'] at hs2 hs3
      have e1 : s + y = s' := hs3.symm
      have HST : Hid (Bk (wr.setCell ⟨w.heap.size + 1, 4, none⟩ (.int .i64 s')) (w.heap.size + 1) 34 (hcs 0 (n : Int) (mn x) (mx x) (x.take (k + 1)).sum)) := by
        rw [hs']; exact hb.st 4 _
      have ki : (k : Int) < (n : Int) := by omega
      clear hb hb0 hbe hac hab hy hs hs' hs3
      go_wp2
      go_roundw
      case rel => exact ⟨k + 1, _, rfl, by omega, by go_num, HST.out, HB0.out.far (by show _ ≠ w.heap.size + 1; omega) _, HX.out.st (by show _ ≤ w.heap.size + 1; omega) _⟩
      case measure => simp [intOf]; omega
    · obtain rfl : k = n := by omega
      rw [HSF.out] at hb
      have HBB := Lib.hid hb
      clear hb hb0 hbe HB
      go_wp2_with (go_at_call 45; refine (KK.out _).mono ?_; rintro e w4 ⟨g, rfl, hg, hk4, hb4⟩; have HB4 := Lib.hid hb4; have HK4 := Lib.hid hk4; clear hb4 hk4)
      have HR0 : Hid (BRel x g k w (.slice none 0 0) (.bool false) (.int .i64 0) w4) :=
        ⟨0, none, 0, 0, _, rfl, by omega, rfl, rfl, rfl, rfl, Rd.nil _ _, fun _ => rfl, HBB.out.bel HB4.out, HB0.out.bel HB4.out, HK4.out, HX.out.tr HB4.out⟩
      go_loopw [7, 8, 34] (fun s7 s8 s34 wr => BRel x g k w s7 s8 s34 wr) (fun _ _ s34 _ => 3 - (intOf s34).toNat)
      case atStart => exact HR0.out
      have hgn : g ≠ w.heap.size + 1 := by omega
      case round =>
        clear HR0 HBB HB0 HX HB4 HK4 KK
        obtain ⟨q, A, N, c7, wq, hwq, hq, rfl, rfl, rfl, hDl, hrd, hAc, hbh, hb0, hbk, hbe⟩ := hrel
        subst hwq
        have HH := Lib.hid hbh
        have HB0 := Lib.hid hb0
        have HBK := Lib.hid hbk
        have HX := Lib.hid hbe
        have HRD := Lib.hid hrd
        have HAC := Lib.hid hAc
        have HDL := Lib.hid hDl
        have c0 := hbh.cell 0
        have c1 := hbh.cell 1
        have c2 := hbh.cell 2
        have c3 := hbh.cell 3
        have c4 := hbh.cell 4
        have f0 := hbh.fr 0
        obtain ⟨m, hm⟩ : ∃ m, mn x = m := ⟨_, rfl⟩
        obtain ⟨M, hM⟩ : ∃ m, mx x = m := ⟨_, rfl⟩
        obtain ⟨s, hs⟩ : ∃ m, x.sum = m := ⟨_, rfl⟩
        simp only [hcs, hm, hM, hs, List.getElem?_toArray, List.getElem?_cons_zero, List.getElem?_cons_succ] at c0 c1 c2 c3 c4
        have HMS := Lib.hid (And.intro hm (And.intro hM hs))
        rcases (show q = 0 ∨ q = 1 ∨ q = 2 ∨ q = 3 by omega) with rfl | rfl | rfl | rfl
        · have b0 : wq.cell? ⟨g, 0, none⟩ = some (.iface 99 (.agg #[])) := hbk.cell 0
          have hm0 := meth_e0 wq
          have KE : Hid (∀ K W, Bel wq W → _) := fun K W (_ : Bel wq W) => kenc0 (some ⟨h, o, none⟩) k c K (k : Int) m M s W
          have e8 : (stt x 0).2.2 = false := rfl
          have e9 : (stt x 0).1 = 0 := rfl
          rw [e8]
          rw [e9] at c0 HH
          obtain rfl : N = 0 := hDl.symm
          clear hbh hb0 hbk hbe hrd hAc hDl hs
          rcases Classical.em (m = M) with hmm | hmm
          · have hmb : (m == M) = true := by simpa using hmm
            have hst : Hid (stt x 1 = (0, [], true)) := by show _ = _; unfold stt; rw [if_neg (by omega), if_pos rfl, decide_eq_true (by rw [HMS.out.1, HMS.out.2.1]; exact hmm)]
            unfold hdv at KE
            simp only [hmb] at KE
            clear hmb hmm hm hM
            go_wp2_with (go_at_call 79; refine (KE.out _ wq Bel.rf).mono ?_; rintro e w4 ⟨rfl, hb4⟩; have HB4 := Lib.hid hb4; have HH4 := Lib.hid (HH.out.bel hb4); have f4 := HH4.out.fr 0; have g4 := HH4.out.cell 0; simp only [hcs, HMS.out.1, HMS.out.2.1, HMS.out.2.2, List.getElem?_toArray, List.getElem?_cons_zero] at g4; clear hb4)
            go_roundw
            case rel =>
              have h9 := brel_st (k' := 1) (by omega) (hst.out : stt x 1 = (0, [], true)) rfl (Rd.nil _ none) (fun _ => rfl) HH4.out (HB0.out.bel HB4.out) (HBK.out.bel HB4.out) (HX.out.tr HB4.out) hgn
              first | exact h9 | simpa using h9
            case measure => first | (simp [intOf]; done) | (simp [intOf]; omega)
          · have hmb : (m == M) = false := by simpa using hmm
            have hst : Hid (stt x 1 = (0, [], false)) := by show _ = _; unfold stt; rw [if_neg (by omega), if_pos rfl, decide_eq_false (by rw [HMS.out.1, HMS.out.2.1]; exact hmm)]
            unfold hdv at KE
            simp only [hmb] at KE
            clear hmb hmm hm hM
            go_wp2_with (go_at_call 79; refine (KE.out _ wq Bel.rf).mono ?_; rintro e w4 ⟨rfl, hb4⟩; have HB4 := Lib.hid hb4; have HH4 := Lib.hid (HH.out.bel hb4); have f4 := HH4.out.fr 0; have g4 := HH4.out.cell 0; simp only [hcs, HMS.out.1, HMS.out.2.1, HMS.out.2.2, List.getElem?_toArray, List.getElem?_cons_zero] at g4; clear hb4)
            go_roundw
            case rel =>
              have h9 := brel_no (k' := 1) (by omega) (hst.out : stt x 1 = (0, [], false)) rfl (Rd.nil _ A) HAC.out HH4.out (HB0.out.bel HB4.out) (HBK.out.bel HB4.out) (HX.out.tr HB4.out)
              first | exact h9 | simpa using h9
            case measure => first | (simp [intOf]; done) | (simp [intOf]; omega)
        · have b0 : wq.cell? ⟨g, 1, none⟩ = some (.iface 100 (.agg #[])) := hbk.cell 1
          have hm0 := meth_e1 wq
          have KE : Hid (∀ K W, Bel wq W → _) := fun K W hW => kenc1' (some ⟨h, o, none⟩) c k x HV.out HN.out K (k : Int) s W (HZ.out.bel (HX.out.tr hW))
          rw [hm, hM] at KE
          have e9 : (stt x 1).1 = 0 := rfl
          have eD : (stt x 1).2.1 = [] := rfl
          rw [e9] at c0 HH
          obtain rfl : N = 0 := by rw [← hDl, eD]; rfl
          clear hbh hb0 hbk hbe hrd hAc hDl hs eD
          rcases Classical.em (m = M) with hmm | hmm
          · have e8 : (stt x 1).2.2 = true := decide_eq_true (by rw [HMS.out.1, HMS.out.2.1]; exact hmm)
            rw [e8]
            have hst : Hid (stt x 2 = (0, [], true)) := by show _ = _; unfold stt; rw [if_neg (by omega), if_neg (by omega), if_pos rfl, if_pos (by rw [HMS.out.1, HMS.out.2.1]; exact hmm)]
            unfold hdv at KE
            clear e8 hmm hm hM
            go_wp2_with (go_at_call 81; refine (KE.out _ wq Bel.rf).mono ?_; rintro e w4 ⟨A4, N4, c4', rfl, hN4, hr4, hA4, hb4⟩; have HR4 := Lib.hid (And.intro hN4 (And.intro hr4 hA4)); clear hr4 hN4 hA4; have q4 : ¬ (N4 : Int) < 0 := (by omega); have HB4 := Lib.hid hb4; have HH4 := Lib.hid (HH.out.bel hb4); have f4 := HH4.out.fr 0; have g4 := HH4.out.cell 0; simp only [hcs, HMS.out.1, HMS.out.2.1, HMS.out.2.2, List.getElem?_toArray, List.getElem?_cons_zero] at g4; clear hb4)
            go_roundw
            case rel =>
              have h9 := brel_no (k' := 2) (by omega) (hst.out : stt x 2 = (0, [], true)) rfl (Rd.nil _ A) HAC.out HH4.out (HB0.out.bel HB4.out) (HBK.out.bel HB4.out) (HX.out.tr HB4.out)
              first | exact h9 | simpa using h9
            case measure => first | (simp [intOf]; done) | (simp [intOf]; omega)
          · have e8 : (stt x 1).2.2 = false := decide_eq_false (by rw [HMS.out.1, HMS.out.2.1]; exact hmm)
            rw [e8]
            have hst : Hid (stt x 2 = (1, pd x, true)) := by show _ = _; unfold stt; rw [if_neg (by omega), if_neg (by omega), if_pos rfl, if_neg (by rw [HMS.out.1, HMS.out.2.1]; exact hmm)]
            unfold hdv at KE
            clear e8 hmm hm hM
            go_wp2_with (go_at_call 81; refine (KE.out _ wq Bel.rf).mono ?_; rintro e w4 ⟨A4, N4, c4', rfl, hN4, hr4, hA4, hb4⟩; have HR4 := Lib.hid (And.intro hN4 (And.intro hr4 hA4)); clear hr4 hN4 hA4; have HB4 := Lib.hid hb4; have HH4 := Lib.hid (HH.out.bel hb4); have f4 := HH4.out.fr 0; have g4 := HH4.out.cell 0; simp only [hcs, HMS.out.1, HMS.out.2.1, HMS.out.2.2, List.getElem?_toArray, List.getElem?_cons_zero] at g4; clear hb4)
            go_roundw
            case rel =>
              have h9 := brel_st (k' := 2) (by omega) (hst.out : stt x 2 = (1, pd x, true)) HR4.out.1 HR4.out.2.1 HR4.out.2.2 HH4.out (HB0.out.bel HB4.out) (HBK.out.bel HB4.out) (HX.out.tr HB4.out) hgn
              first | exact h9 | simpa using h9
            case measure => first | (simp [intOf]; done) | (simp [intOf]; omega)
        · have b0 : wq.cell? ⟨g, 2, none⟩ = some (.iface 101 (.agg #[])) := hbk.cell 2
          have hm0 := meth_e2 wq
          have KE : Hid (∀ K W, Bel wq W → _) := fun K W hW => kenc2 (some ⟨h, o, none⟩) c k x HV.out HN.out K (k : Int) m M s W (HZ.out.bel (HX.out.tr hW))
          have e8 : (stt x 2).2.2 = true := by unfold stt; rw [if_neg (by omega), if_neg (by omega), if_pos rfl]; split <;> rfl
          rw [e8]
          rcases Classical.em (m = M) with hmm | hmm
          · have hs2 : stt x 2 = (0, [], true) := by unfold stt; rw [if_neg (by omega), if_neg (by omega), if_pos rfl, if_pos (by rw [HMS.out.1, HMS.out.2.1]; exact hmm)]
            have hst : Hid (stt x 3 = (0, [], true)) := by show _ = _; unfold stt kd dt; rw [if_neg (by omega), if_neg (by omega), if_neg (by omega), if_pos (by rw [HMS.out.1, HMS.out.2.1]; exact hmm), if_pos (by rw [HMS.out.1, HMS.out.2.1]; exact hmm)]
            rw [hs2] at c0 HH hDl HRD
            obtain rfl : N = 0 := hDl.symm
            unfold hdv at KE
            clear hbh hb0 hbk hbe hrd hAc hDl hs e8 hs2 hmm hm hM
            go_wp2_with (go_at_call 93; refine (KE.out _ wq Bel.rf).mono ?_; rintro e w4 ⟨A4, N4, c4', rfl, hN4, hr4, hA4, hb4⟩; have HR4 := Lib.hid (And.intro hN4 (And.intro hr4 hA4)); clear hr4 hA4; clear hN4; have q4 : ¬ (N4 : Int) < 0 := (by omega); have HB4 := Lib.hid hb4; have HH4 := Lib.hid (HH.out.bel hb4); have f4 := HH4.out.fr 0; have g4 := HH4.out.cell 0; simp only [hcs, HMS.out.1, HMS.out.2.1, HMS.out.2.2, List.getElem?_toArray, List.getElem?_cons_zero] at g4; clear hb4)
            go_roundw
            case rel =>
              have h9 := brel_no (k' := 3) (by omega) (hst.out : stt x 3 = (0, [], true)) rfl (Rd.nil _ A) HAC.out HH4.out (HB0.out.bel HB4.out) (HBK.out.bel HB4.out) (HX.out.tr HB4.out)
              first | exact h9 | simpa using h9
            case measure => first | (simp [intOf]; done) | (simp [intOf]; omega)
          · have hs2 : stt x 2 = (1, pd x, true) := by unfold stt; rw [if_neg (by omega), if_neg (by omega), if_pos rfl, if_neg (by rw [HMS.out.1, HMS.out.2.1]; exact hmm)]
            have hxm : ¬ mn x = mx x := by rw [HMS.out.1, HMS.out.2.1]; exact hmm
            rw [hs2] at c0 HH hDl HRD
            have HDN : Hid ((pd x).length = N) := hDl
            unfold hdv at KE
            clear hbh hb0 hbk hbe hrd hAc hs e8 hs2 hmm hm hM
            rcases Nat.lt_or_ge (dd x).length (pd x).length with hll | hll
            · have hst : Hid (stt x 3 = (2, dd x, true)) := by show _ = _; unfold stt kd dt; rw [if_neg (by omega), if_neg (by omega), if_neg (by omega), if_neg hxm, if_neg hxm, if_pos hll, if_pos hll]
              have hll2 : (dd x).length < N := by rw [← HDN.out]; exact hll
              clear hxm hll hDl
              go_wp2_with (go_at_call 93; refine (KE.out _ wq Bel.rf).mono ?_; rintro e w4 ⟨A4, N4, c4', rfl, hN4, hr4, hA4, hb4⟩; have HR4 := Lib.hid (And.intro hN4 (And.intro hr4 hA4)); clear hr4 hA4; have q4 : (N4 : Int) < (N : Int) := (by omega); clear hN4; have HB4 := Lib.hid hb4; have HH4 := Lib.hid (HH.out.bel hb4); have f4 := HH4.out.fr 0; have g4 := HH4.out.cell 0; simp only [hcs, HMS.out.1, HMS.out.2.1, HMS.out.2.2, List.getElem?_toArray, List.getElem?_cons_zero] at g4; clear hb4)
              go_roundw
              case rel =>
                have h9 := brel_st (k' := 3) (by omega) (hst.out : stt x 3 = (2, dd x, true)) HR4.out.1 HR4.out.2.1 HR4.out.2.2 HH4.out (HB0.out.bel HB4.out) (HBK.out.bel HB4.out) (HX.out.tr HB4.out) hgn
                first | exact h9 | simpa using h9
              case measure => first | (simp [intOf]; done) | (simp [intOf]; omega)
            · have hst : Hid (stt x 3 = (1, pd x, true)) := by show _ = _; unfold stt kd dt; rw [if_neg (by omega), if_neg (by omega), if_neg (by omega), if_neg hxm, if_neg hxm, if_neg (by omega), if_neg (by omega)]
              have hll2 : N ≤ (dd x).length := by rw [← HDN.out]; exact hll
              clear hxm hll hDl
              go_wp2_with (go_at_call 93; refine (KE.out _ wq Bel.rf).mono ?_; rintro e w4 ⟨A4, N4, c4', rfl, hN4, hr4, hA4, hb4⟩; have HR4 := Lib.hid (And.intro hN4 (And.intro hr4 hA4)); clear hr4 hA4; have q4 : ¬ (N4 : Int) < (N : Int) := (by omega); clear hN4; have HB4 := Lib.hid hb4; have HH4 := Lib.hid (HH.out.bel hb4); have f4 := HH4.out.fr 0; have g4 := HH4.out.cell 0; simp only [hcs, HMS.out.1, HMS.out.2.1, HMS.out.2.2, List.getElem?_toArray, List.getElem?_cons_zero] at g4; clear hb4)
              go_roundw
              case rel =>
                have h9 := brel_no (k' := 3) (by omega) (hst.out : stt x 3 = (1, pd x, true)) HDN.out (HRD.out.bel HB4.out) HAC.out HH4.out (HB0.out.bel HB4.out) (HBK.out.bel HB4.out) (HX.out.tr HB4.out)
                first | exact h9 | simpa using h9
              case measure => first | (simp [intOf]; done) | (simp [intOf]; omega)
        · have e9 : stt x 3 = (kd x, dt x, true) := rfl
          rw [e9] at c0 HH hDl HRD
          have d0 := hb0.cell 0
          have d1 := hb0.cell 1
          have d2 := hb0.cell 2
          have d3 := hb0.cell 3
          have d4 := hb0.cell 4
          have y0 := hb0.fr 0
          have y1 := hb0.fr 1
          have y2 := hb0.fr 2
          have y3 := hb0.fr 3
          have y4 := hb0.fr 4
          simp only [hcs, List.getElem?_toArray, List.getElem?_cons_zero, List.getElem?_cons_succ] at d0 d1 d2 d3 d4
          have HDN : Hid ((dt x).length = N) := hDl
          have HFN := Lib.hid (((((HB0.out.st 0 (.int .i64 (kd x : Int))).st 1 (.int .i64 (k : Int))).st 2 (.int .i64 m)).st 3 (.int .i64 M)).st 4 (.int .i64 s))
          have HFB := Lib.hid (((((HX.out.st (Nat.le_refl _) (.int .i64 (kd x : Int)) : Bel w (wq.setCell ⟨w.heap.size, 0, none⟩ _)).st (Nat.le_refl _) (.int .i64 (k : Int)) : Bel w (World.setCell _ ⟨w.heap.size, 1, none⟩ _)).st (Nat.le_refl _) (.int .i64 m) : Bel w (World.setCell _ ⟨w.heap.size, 2, none⟩ _)).st (Nat.le_refl _) (.int .i64 M) : Bel w (World.setCell _ ⟨w.heap.size, 3, none⟩ _)).st (Nat.le_refl _) (.int .i64 s) : Bel w (World.setCell _ ⟨w.heap.size, 4, none⟩ _))
          clear hbh hb0 hbk hbe hrd hAc hDl hs e9 hm hM
          go_wp2
          refine bodyPost_ret (v := .tuple #[hdv (kd x : Int) (k : Int) m M s, .slice A N c7]) (results_h Try.results29 _ _ w.heap.size (kd x : Int) (k : Int) m M s rfl HFN.out) rfl ?_
          have hr1 := rd_cs HRD.out HB0.out (i := 0) (z := 0) rfl (.int .i64 (kd x : Int))
          have hr2 := rd_cs hr1 (HB0.out.st 0 _) (i := 1) (z := 0) rfl (.int .i64 (k : Int))
          have hr3 := rd_cs hr2 ((HB0.out.st 0 _).st 1 _) (i := 2) (z := 0) rfl (.int .i64 m)
          have hr4 := rd_cs hr3 (((HB0.out.st 0 _).st 1 _).st 2 _) (i := 3) (z := 0) rfl (.int .i64 M)
          have hr5 := rd_cs hr4 ((((HB0.out.st 0 _).st 1 _).st 2 _).st 3 _) (i := 4) (z := 0) rfl (.int .i64 s)
          exact ⟨A, N, c7, by rw [HN.out, HMS.out.1, HMS.out.2.1, HMS.out.2.2], HDN.out, hr5, HAC.out, HFB.out⟩
end Go.Proofs.Ytaplbkfmedofcaa.Sg
