/- The contract of shapesearchlaw14.walk: some path within the band. -/
import Derived.Test.YtkjffielnmdpcaaWarp10
import Derived.Test.YtkjffielnmdpcaaWarpM3
import Derived.Deep.DeepCutAuto
import Derived.Deep.CutBlock
import Derived.Deep.CutRange
namespace Go.Proofs.Ytkjffielnmdpcaa.Wa
open Go.ChangeShapes Go.WideShapes Go.RowKit Wo Sr Wi Ed
set_option linter.unusedVariables false
def ln : Value → Nat
  | .slice _ k _ => k
  | _ => 0
/-- what stands in a round: the reader, the row of what has come, the pair -/
def Iw (q : Nat) (w : World) (pb : Nat) (g c : Nat) (l : List Pr) (W : World) : Prop := Ok W q ∧ Ch q w W ∧ W.ownsRow (pb + 1) 64 2 (.slice (some ⟨g, 0, none⟩) l.length c) l.length (ps l) ∧ pb + 2 ≤ W.heap.size
theorem Iw.st {q : Nat} {w : World} {pb g c : Nat} {l : List Pr} {W : World} (h : Iw q w pb g c l W) (hq : q < pb) (hw : w.heap.size ≤ pb) {b : Nat} (hb : pb ≤ b) (hg : g ≠ b) (i : Nat) (u : Value) : Iw q w pb g c l (W.setCell ⟨b, i, none⟩ u) :=
  ⟨h.1.st (by show q < b; omega) u, h.2.1.st2 (by show _ ≤ b; omega) u, own_far h.2.2.1 (fun e => hg (by injection e with e; exact e.symm)) u, by simp [World.setCell]; exact h.2.2.2⟩
theorem Iw.al {q : Nat} {w : World} {pb g c : Nat} {l : List Pr} {W : World} (h : Iw q w pb g c l W) (o : Obj) : Iw q w pb g c l (W.alloc o) :=
  ⟨h.1.bel (Bel.rf.al _), h.2.1.al o, h.2.2.1.alloc o, by simp; have := h.2.2.2; omega⟩
theorem Iw.ch {q : Nat} {w : World} {pb g c : Nat} {l : List Pr} {W W' : World} (h : Iw q w pb g c l W) (hk : Ok W' q) (hc : Ch q W W') (hq : q < pb) : Iw q w pb g c l W' :=
  ⟨hk, h.2.1.tr hc, own_ch h.2.2.1 hc (by omega), by have := hc.sz; have := h.2.2.2; omega⟩
theorem Iw.lo {q : Nat} {w : World} {pb g c : Nat} {l : List Pr} {W : World} (h : Iw q w pb g c l W) (hl : 1 ≤ l.length) : pb < g ∧ g < W.heap.size := by
  have := h.2.2.1.lt g rfl
  omega
def Pw (X : Unit) (b : Int) (i j : Nat) (l : List Pr) : Prop := ∀ L M : List Int, ∃ K, Pq L M b 0 0 l i j K
theorem Pw.snoc {b : Int} {i j p r : Nat} {l : List Pr} (h : Pw () b i j l) (hf : Fol i j p r) (hb : Bnd b p r) : Pw () b p r (l ++ [(p, r)]) := fun L M => by
  obtain ⟨K, hK⟩ := h L M
  exact ⟨_, Pq.snoc hK hf hb⟩
theorem Pw.len {b : Int} {i j : Nat} {l : List Pr} (h : Pw () b i j l) : 1 ≤ l.length ∧ l.length ≤ i + j + 1 ∧ Bnd b i j := by
  obtain ⟨K, hK⟩ := h [] []
  have := pq_info hK
  exact ⟨this.1, by have := this.2.1; omega, hK.bnd⟩
def Rw2 (q n m : Nat) (b : Int) (w : World) (s10 : Value) (wr : World) : Prop := ∃ (i j : Nat) (l : List Pr) (g c : Nat) (V : World), V = wr ∧ s10 = .slice (some ⟨g, 0, none⟩) l.length c ∧ i ≤ n - 1 ∧ j ≤ m - 1 ∧ Bk wr w.heap.size 64 #[.int .i64 (i : Int), .int .i64 (j : Int)] ∧ Pw () b i j l ∧ Iw q w w.heap.size g c l wr
def SomeW (q n m : Nat) (b : Int) (w : World) (e : Ending) (w' : World) : Prop := ∃ (g c : Nat) (l : List Pr), e = .returned (.slice (some ⟨g, 0, none⟩) l.length c) ∧ w'.ownsRow (w.heap.size + 1) 64 2 (.slice (some ⟨g, 0, none⟩) l.length c) l.length (ps l) ∧ Pw () b (n - 1) (m - 1) l ∧ Ok w' q ∧ Ch q w w'
/-- the step that closes a round -/
theorem rw_step {q n m i2 j2 g c pb : Nat} {b : Int} {w W w6 : World} {l : List Pr} {v' : Value} (hpb : w.heap.size = pb) (hq : q < pb) (hi : i2 ≤ n - 1) (hj : j2 ≤ m - 1) (hp : Bk W pb 64 #[.int .i64 (i2 : Int), .int .i64 (j2 : Int)]) (hw : Pw () b i2 j2 (l ++ [(i2, j2)])) (h : Iw q w pb g c l W)
    (ho : w6.ownsRow (pb + 1) 64 2 v' (l.length + 1) (ps l ++ [.int .i64 (i2 : Int), .int .i64 (j2 : Int)])) (hg : (W.alloc (.cells #[.int .i64 (i2 : Int), .int .i64 (j2 : Int)] 64)).grownBy w6 (some g)) (hl : 1 ≤ l.length) : Rw2 q n m b w v' w6 := by
  have hlo := h.lo hl
  have e : ps l ++ [.int .i64 (i2 : Int), .int .i64 (j2 : Int)] = ps (l ++ [(i2, j2)]) := by rw [ps_app]; rfl
  rw [e] at ho
  have e2 : l.length + 1 = (l ++ [(i2, j2)]).length := by simp
  rw [e2] at ho
  obtain ⟨g', c', rfl, _, hg'⟩ := prow_form ho (by simp)
  refine ⟨i2, j2, l ++ [(i2, j2)], g', c', _, rfl, rfl, hi, hj, ?_, hw, ?_⟩
  · rw [hpb]
    exact bk_gr (hp.al _) hg (fun e => by injection e with e; omega)
  · rw [hpb]
    refine ⟨ok_grown (h.1.bel (Bel.rf.al _)) hg (fun b e => by injection e with e; omega), ch_grown (h.2.1.al _) hg (fun b e => by injection e with e; omega), ho, ?_⟩
    have := hg.size
    have := h.2.2.2
    simp at *
    omega
set_option maxHeartbeats 4000000 in
set_option maxRecDepth 100000 in
theorem walk_any (q n m : Nat) (b : Int) (n1 : 2 ≤ n) (n2 : n ≤ 32) (m1 : 2 ≤ m) (m2 : m ≤ 32) (b0 : 0 ≤ b) (b32 : b ≤ 32) (b1 : (n : Int) - (m : Int) ≤ b) (b2 : (m : Int) - (n : Int) ≤ b) (w : World) (h : Ok w q) :
    Calls Try.prog 19 #[.pointer (some ⟨q, 0, none⟩), .int .i64 (n : Int), .int .i64 (m : Int), .int .i64 b] w (SomeW q n m b w) := by
  have hqw := h.lt
  have HR0 : Hid (Rw2 q n m b w (.slice (some ⟨w.heap.size + 1, 0, none⟩) 1 1) ((w.alloc (.cells #[.int .i64 0, .int .i64 0] 64)).alloc (.cells #[.int .i64 0, .int .i64 0] 64))) :=
    ⟨0, 0, [(0, 0)], w.heap.size + 1, 1, _, rfl, rfl, Nat.zero_le _, Nat.zero_le _, (Bk.nw _ _ _).al _, fun L M => ⟨_, Pq.one 0 0 ⟨by simpa using b0, by simpa using b0⟩⟩, (h.bel (Bel.rf.al _)).bel (Bel.rf.al _), (Ch.rf.al _).al _, ⟨rfl, .inr ⟨_, 1, _, rfl, Nat.le_refl _, Bk.nq _ _ _ (by simp), Nat.le_refl _, by unfold maxLen; omega, rfl, rfl⟩⟩, by simp⟩
  obtain ⟨pb, hpb⟩ : ∃ k, w.heap.size = k := ⟨_, rfl⟩
  obtain ⟨nl, hnl⟩ : ∃ k, n - 1 = k := ⟨_, rfl⟩
  obtain ⟨ml, hml⟩ : ∃ k, m - 1 = k := ⟨_, rfl⟩
  have hnli : (n : Int) - 1 = (nl : Int) := by omega
  have hmli : (m : Int) - 1 = (ml : Int) := by omega
  have HNL := Lib.hid (And.intro hnl (And.intro hml (And.intro hpb hqw)))
  have nl31 : nl ≤ 31 := by omega
  have ml31 : ml ≤ 31 := by omega
  have bnm : (nl : Int) - (ml : Int) ≤ b := by omega
  have bmn : (ml : Int) - (nl : Int) ≤ b := by omega
  clear h hnl hml hpb hqw
  go_enter Try.func19, Try.ntmps19
  go_wp2
  go_loopw [10] (fun s10 wr => Rw2 q n m b w s10 wr) (fun s10 _ => 70 - ln s10)
  case atStart => exact HR0.out
  case round =>
    clear HR0
    obtain ⟨i, j, l, g, c, wr, hwr, rfl, hi, hj, hp, hw, hiw⟩ := hrel
    subst hwr
    obtain ⟨l1, l2, hB⟩ := hw.len
    have hpb := HNL.out.2.2.1
    have hqp : q < pb := by rw [← hpb]; exact HNL.out.2.2.2
    rw [HNL.out.1] at hi
    rw [HNL.out.2.1] at hj
    rw [hpb] at hp hiw ⊢
    have lo := hiw.lo l1
    have HP := Lib.hid hp
    have HW := Lib.hid hw
    have HI := Lib.hid hiw
    have HB := Lib.hid hB
    have c0 := hp.cell 0
    have c1 := hp.cell 1
    simp only [List.getElem?_toArray, List.getElem?_cons_zero, List.getElem?_cons_succ] at c0 c1
    have pz := hp.lt
    rcases (show (i = nl ∧ j = ml) ∨ (i < nl ∨ j < ml) by omega) with ⟨rfl, rfl⟩ | hne
    · have s1 : ¬ i < i := by omega
      have s2 : ¬ j < j := by omega
      clear hp hw hiw hB
      go_wp2
      go_ret
      exact ⟨g, c, l, rfl, by rw [hpb]; exact HI.out.2.2.1, by rw [HNL.out.1, HNL.out.2.1]; exact HW.out, HI.out.1, HI.out.2.1⟩
    · have BQ : Hid (Bk (wr.alloc (.cells #[.int .i64 (i : Int), .int .i64 (j : Int)] 64)) wr.heap.size 64 #[.int .i64 (i : Int), .int .i64 (j : Int)]) := Bk.nw _ _ _
      have BP : Hid (Bk (wr.alloc (.cells #[.int .i64 (i : Int), .int .i64 (j : Int)] 64)) pb 64 #[.int .i64 (i : Int), .int .i64 (j : Int)]) := hp.al _
      have HIA : Hid (Iw q w pb g c l (wr.alloc (.cells #[.int .i64 (i : Int), .int .i64 (j : Int)] 64))) := hiw.al _
      obtain ⟨qb, hqb⟩ : ∃ k, wr.heap.size = k := ⟨_, rfl⟩
      rw [hqb] at BQ lo pz
      have hpq : pb ≠ qb := by omega
      have hgq : g ≠ qb := by omega
      have hgp : g ≠ pb := by omega
      clear hp hw hiw hB
      have HNE := Lib.hid hne
      rcases (show i < nl ∨ (¬ i < nl ∧ j < ml) by omega) with hin | ⟨hin, hjm⟩
      · clear hne
        go_wp2_with fail
        go_at_call 34
        refine (n_any q 3 (by decide) (by decide) _ HIA.out.1).mono ?_
        rintro e v ⟨x, rfl, x0, x1, ho, hc⟩
        have HV : Hid (Iw q w pb g c l v) := HIA.out.ch ho hc hqp
        have VP : Hid (Bk v pb 64 #[.int .i64 (i : Int), .int .i64 (j : Int)]) := hc.bk BP.out (by omega)
        have VQ : Hid (Bk v qb 64 #[.int .i64 (i : Int), .int .i64 (j : Int)]) := hc.bk BQ.out (by omega)
        have hx3 : x = 0 ∨ x = 1 ∨ x = 2 := by omega
        clear ho hc c0 c1 x0 x1 pz
        try simp only [hqb]
        have HQB := Lib.hid hqb
        clear hqb
        have i31 : i ≤ 31 := by omega
        have j31 : j ≤ 31 := by omega
        have HX3 := Lib.hid hx3
        clear hx3
        go_upto_block 2 with fail
        go_cut [11] from 15 to 96 (fun s11 wx => ∃ (V : World) (qi qj : Nat), V = wx ∧ s11 = .pointer (some ⟨qb, 0, none⟩) ∧ Iw q w pb g c l wx ∧ Bk wx pb 64 #[.int .i64 (i : Int), .int .i64 (j : Int)] ∧ Bk wx qb 64 #[.int .i64 (qi : Int), .int .i64 (qj : Int)] ∧ Fol i j qi qj)
        case first =>
          have p0 := VP.out.cell 0
          have p1 := VP.out.cell 1
          have r0 := VQ.out.cell 0
          have r1 := VQ.out.cell 1
          have fq0 := VQ.out.fr 0
          have fq1 := VQ.out.fr 1
          simp only [List.getElem?_toArray, List.getElem?_cons_zero, List.getElem?_cons_succ] at p0 p1 r0 r1
          obtain ⟨i', hi'⟩ : ∃ k, i + 1 = k := ⟨_, rfl⟩
          obtain ⟨j', hj'⟩ : ∃ k, j + 1 = k := ⟨_, rfl⟩
          have hii : (i : Int) + 1 = (i' : Int) := by omega
          have hji : (j : Int) + 1 = (j' : Int) := by omega
          have hs1' : ∀ u, (v.setCell ⟨qb, 0, none⟩ u).cell? ⟨qb, 1, none⟩ = some (.int .i64 (j : Int)) := fun u => kp_st r1 (by decide) u
          have ST : Hid (∀ (k : Nat) (u : Value) (W : World), Iw q w pb g c l W → Iw q w pb g c l (W.setCell ⟨qb, k, none⟩ u)) := fun k u W h => h.st hqp (by rw [hpb]; exact Nat.le_refl _) (by omega) hgq k u
          have SP : Hid (∀ (k : Nat) (u : Value) (W : World), Bk W pb 64 #[.int .i64 (i : Int), .int .i64 (j : Int)] → Bk (W.setCell ⟨qb, k, none⟩ u) pb 64 #[.int .i64 (i : Int), .int .i64 (j : Int)]) := fun k u W h => h.far (by show pb ≠ qb; exact hpq) u
          have hx3 := HX3.out
          rcases hx3 with rfl | rfl | rfl
          · go_wp2
            go_meet
            exact ⟨_, i', j', rfl, rfl, ST.out _ _ _ (ST.out _ _ _ HV.out), SP.out _ _ _ (SP.out _ _ _ VP.out), (VQ.out.st 0 _).st 1 _, .inl ⟨hi'.symm, hj'.symm⟩⟩
          · go_wp2
            go_meet
            exact ⟨_, i', j, rfl, rfl, ST.out _ _ _ HV.out, SP.out _ _ _ VP.out, VQ.out.st 0 _, .inr (.inl ⟨hi'.symm, rfl⟩)⟩
          · go_wp2
            go_meet
            exact ⟨_, i, j', rfl, rfl, ST.out _ _ _ HV.out, SP.out _ _ _ VP.out, VQ.out.st 1 _, .inr (.inr ⟨rfl, hj'.symm⟩)⟩
        case rest =>
          obtain ⟨V1, qi, qj, hV1, rfl, hiw1, hp1, hq1, hf1⟩ := hcut
          subst hV1
          have HV1 := Lib.hid hiw1
          have VP1 := Lib.hid hp1
          have VQ1 := Lib.hid hq1
          have HF1 := Lib.hid hf1
          clear VP VQ HV HX3 hiw1 hp1 hq1 hf1
          have p0 := VP1.out.cell 0
          have p1 := VP1.out.cell 1
          have r0 := VQ1.out.cell 0
          have r1 := VQ1.out.cell 1
          simp only [List.getElem?_toArray, List.getElem?_cons_zero, List.getElem?_cons_succ] at p0 p1 r0 r1
          have hs1 : ∀ k u, (V1.setCell ⟨qb, k, none⟩ u).cell? ⟨pb, 0, none⟩ = some (.int .i64 (i : Int)) := fun k u => kp_fb p0 hpq u
          have hs1' : ∀ k u, (V1.setCell ⟨qb, k, none⟩ u).cell? ⟨pb, 1, none⟩ = some (.int .i64 (j : Int)) := fun k u => kp_fb p1 hpq u
          have hs2 : ∀ k u k' u', ((V1.setCell ⟨qb, k, none⟩ u).setCell ⟨qb, k', none⟩ u').cell? ⟨pb, 0, none⟩ = some (.int .i64 (i : Int)) := fun k u k' u' => kp_fb (hs1 k u) hpq u'
          have hs2' : ∀ k u k' u', ((V1.setCell ⟨qb, k, none⟩ u).setCell ⟨qb, k', none⟩ u').cell? ⟨pb, 1, none⟩ = some (.int .i64 (j : Int)) := fun k u k' u' => kp_fb (hs1' k u) hpq u'
          have fp0 := VP1.out.fr 0
          have fp1 := VP1.out.fr 1
          have fq0 := VQ1.out.fr 0
          have fq1 := VQ1.out.fr 1
          obtain ⟨i', hi'⟩ : ∃ k, i + 1 = k := ⟨_, rfl⟩
          obtain ⟨j', hj'⟩ : ∃ k, j + 1 = k := ⟨_, rfl⟩
          have hii : (i : Int) + 1 = (i' : Int) := by omega
          have hji : (j : Int) + 1 = (j' : Int) := by omega
          have HI' := Lib.hid (And.intro hi' hj')
          have hf1 := HF1.out
          unfold Fol at hf1
          rcases (show (qi = i + 1 ∧ qj = j + 1) ∨ (qi = i + 1 ∧ qj = j) ∨ (qi = i ∧ qj = j + 1) by omega) with ⟨e1, e2⟩ | ⟨e1, e2⟩ | ⟨e1, e2⟩
          · obtain rfl : i' = qi := by have := HI'.out; omega
            obtain rfl : j' = qj := by have := HI'.out; omega
            clear HI' hf1
            clear e1 e2
            rcases (show j < ml ∨ j = ml by omega) with hjm | hjm
            · have q0 : ¬ nl < i' := by have := HB.out; unfold Bnd at this; omega
              have q0d : decide (nl < i') = false := decide_eq_false q0
              have q1 : ¬ ml < j' := by have := HB.out; unfold Bnd at this; omega
              have q1d : decide (ml < j') = false := decide_eq_false q1
              have q2 : ¬ b < (i' : Int) - (j' : Int) := by have := HB.out; unfold Bnd at this; omega
              have q2d : decide (b < (i' : Int) - (j' : Int)) = false := decide_eq_false q2
              have q3 : ¬ b < (j' : Int) - (i' : Int) := by have := HB.out; unfold Bnd at this; omega
              have q3d : decide (b < (j' : Int) - (i' : Int)) = false := decide_eq_false q3
              have HIW : Hid (Iw q w pb g c l ((V1.setCell ⟨pb, 0, none⟩ (.int .i64 (i' : Int))).setCell ⟨pb, 1, none⟩ (.int .i64 (j' : Int)))) := ((HV1.out.st hqp (by rw [hpb]; exact Nat.le_refl _) (Nat.le_refl _) hgp 0 _).st hqp (by rw [hpb]; exact Nat.le_refl _) (Nat.le_refl _) hgp 1 _)
              have HPW : Hid (Bk ((V1.setCell ⟨pb, 0, none⟩ (.int .i64 (i' : Int))).setCell ⟨pb, 1, none⟩ (.int .i64 (j' : Int))) pb 64 #[.int .i64 (i' : Int), .int .i64 (j' : Int)]) := ((VP1.out.st 0 _).st 1 _)
              have HNB : Hid (Bk (((V1.setCell ⟨pb, 0, none⟩ (.int .i64 (i' : Int))).setCell ⟨pb, 1, none⟩ (.int .i64 (j' : Int))).alloc (.cells #[.int .i64 (i' : Int), .int .i64 (j' : Int)] 64)) V1.heap.size 64 #[.int .i64 (i' : Int), .int .i64 (j' : Int)]) := Bk.nq _ _ _ (by simp [World.setCell])
              have HPN : Hid (Pw () b i' j' (l ++ [(i', j')])) := HW.out.snoc (by unfold Fol; omega) ⟨by have := HB.out; unfold Bnd at this; omega, by have := HB.out; unfold Bnd at this; omega⟩
              have HZ : Hid (pb + 1 ≤ (((V1.setCell ⟨pb, 0, none⟩ (.int .i64 (i' : Int))).setCell ⟨pb, 1, none⟩ (.int .i64 (j' : Int))).alloc (.cells #[.int .i64 (i' : Int), .int .i64 (j' : Int)] 64)).heap.size) := by show _ ≤ _; have := HIW.out.2.2.2; simp at *; omega
              have HL2 : Hid (i' ≤ n - 1 ∧ j' ≤ m - 1) := by show _ ∧ _; rw [HNL.out.1, HNL.out.2.1]; omega
              have l63 : l.length ≤ 63 := by omega
              clear l2 bnm bmn
              go_wp2_with (at_builtin; refine list_appg _ rfl (.tmp 93) (.tmp 95) 30 64 (.agg #[.int .i64 0, .int .i64 0]) 2 16 Try.underlying30 info_pair rfl (by decide) rfl (pb + 1) (.slice (some ⟨g, 0, none⟩) l.length c) l.length (ps l) rfl (HIW.out.2.2.1.alloc _) ⟨V1.heap.size, 0, none⟩ 1 1 [.int .i64 (i' : Int), .int .i64 (j' : Int)] rfl rfl (World.news_of_block (cs := #[.int .i64 (i' : Int), .int .i64 (j' : Int)]) (t := 64) (fr := (0, 0)) HNB.out) (by simp [Value.oneCell']) (by omega) (by decide) HZ.out ?_; intro v' w6 hown6 hgr6 hat6)
              have HST : Hid (Rw2 q n m b w v' w6) := rw_step hpb hqp HL2.out.1 HL2.out.2 HPW.out HPN.out HIW.out hown6 hgr6 l1
              obtain ⟨g', c', rfl, _, _⟩ := prow_form (l := l ++ [(i', j')]) (by rw [ps_app]; exact hown6) (by omega)
              clear hown6 hgr6 hat6
              go_wp2
              go_roundw
              case rel => exact HST.out
              case measure => simp [ln]; omega
            · subst hjm
              rcases Nat.lt_or_eq_of_le (show i' ≤ nl by omega) with hmnl | hmnl
              · have hmnli : (i' : Int) < (nl : Int) := by omega
                have q0 : ¬ nl < i' := by have := HB.out; unfold Bnd at this; omega
                have q0d : decide (nl < i') = false := decide_eq_false q0
                have q1 : j < j' := by have := HB.out; unfold Bnd at this; omega
                have q1d : decide (j < j') = true := decide_eq_true q1
                have q9 : (j : Int) < (j' : Int) := by omega
                have q9n : j < j' := by omega
                have HIW : Hid (Iw q w pb g c l ((((V1.setCell ⟨qb, 0, none⟩ (.int .i64 (i' : Int))).setCell ⟨qb, 1, none⟩ (.int .i64 (j : Int))).setCell ⟨pb, 0, none⟩ (.int .i64 (i' : Int))).setCell ⟨pb, 1, none⟩ (.int .i64 (j : Int)))) := ((((HV1.out.st hqp (by rw [hpb]; exact Nat.le_refl _) (by omega) hgq 0 _).st hqp (by rw [hpb]; exact Nat.le_refl _) (by omega) hgq 1 _).st hqp (by rw [hpb]; exact Nat.le_refl _) (Nat.le_refl _) hgp 0 _).st hqp (by rw [hpb]; exact Nat.le_refl _) (Nat.le_refl _) hgp 1 _)
                have HPW : Hid (Bk ((((V1.setCell ⟨qb, 0, none⟩ (.int .i64 (i' : Int))).setCell ⟨qb, 1, none⟩ (.int .i64 (j : Int))).setCell ⟨pb, 0, none⟩ (.int .i64 (i' : Int))).setCell ⟨pb, 1, none⟩ (.int .i64 (j : Int))) pb 64 #[.int .i64 (i' : Int), .int .i64 (j : Int)]) := ((((VP1.out.far (by show pb ≠ qb; exact hpq) _).far (by show pb ≠ qb; exact hpq) _).st 0 _).st 1 _)
                have HNB : Hid (Bk (((((V1.setCell ⟨qb, 0, none⟩ (.int .i64 (i' : Int))).setCell ⟨qb, 1, none⟩ (.int .i64 (j : Int))).setCell ⟨pb, 0, none⟩ (.int .i64 (i' : Int))).setCell ⟨pb, 1, none⟩ (.int .i64 (j : Int))).alloc (.cells #[.int .i64 (i' : Int), .int .i64 (j : Int)] 64)) V1.heap.size 64 #[.int .i64 (i' : Int), .int .i64 (j : Int)]) := Bk.nq _ _ _ (by simp [World.setCell])
                have HPN : Hid (Pw () b i' j (l ++ [(i', j)])) := HW.out.snoc (by unfold Fol; omega) ⟨by have := HB.out; unfold Bnd at this; omega, by have := HB.out; unfold Bnd at this; omega⟩
                have HZ : Hid (pb + 1 ≤ (((((V1.setCell ⟨qb, 0, none⟩ (.int .i64 (i' : Int))).setCell ⟨qb, 1, none⟩ (.int .i64 (j : Int))).setCell ⟨pb, 0, none⟩ (.int .i64 (i' : Int))).setCell ⟨pb, 1, none⟩ (.int .i64 (j : Int))).alloc (.cells #[.int .i64 (i' : Int), .int .i64 (j : Int)] 64)).heap.size) := by show _ ≤ _; have := HIW.out.2.2.2; simp at *; omega
                have HL2 : Hid (i' ≤ n - 1 ∧ j ≤ m - 1) := by show _ ∧ _; rw [HNL.out.1, HNL.out.2.1]; omega
                have l63 : l.length ≤ 63 := by omega
                clear l2 bnm bmn
                go_wp2_with (at_builtin; refine list_appg _ rfl (.tmp 93) (.tmp 95) 30 64 (.agg #[.int .i64 0, .int .i64 0]) 2 16 Try.underlying30 info_pair rfl (by decide) rfl (pb + 1) (.slice (some ⟨g, 0, none⟩) l.length c) l.length (ps l) rfl (HIW.out.2.2.1.alloc _) ⟨V1.heap.size, 0, none⟩ 1 1 [.int .i64 (i' : Int), .int .i64 (j : Int)] rfl rfl (World.news_of_block (cs := #[.int .i64 (i' : Int), .int .i64 (j : Int)]) (t := 64) (fr := (0, 0)) HNB.out) (by simp [Value.oneCell']) (by omega) (by decide) HZ.out ?_; intro v' w6 hown6 hgr6 hat6)
                have HST : Hid (Rw2 q n m b w v' w6) := rw_step hpb hqp HL2.out.1 HL2.out.2 HPW.out HPN.out HIW.out hown6 hgr6 l1
                obtain ⟨g', c', rfl, _, _⟩ := prow_form (l := l ++ [(i', j)]) (by rw [ps_app]; exact hown6) (by omega)
                clear hown6 hgr6 hat6
                go_wp2
                go_roundw
                case rel => exact HST.out
                case measure => simp [ln]; omega
              · subst hmnl
                have q0 : ¬ i' < i' := by have := HB.out; unfold Bnd at this; omega
                have q0d : decide (i' < i') = false := decide_eq_false q0
                have q1 : j < j' := by have := HB.out; unfold Bnd at this; omega
                have q1d : decide (j < j') = true := decide_eq_true q1
                have q9 : (j : Int) < (j' : Int) := by omega
                have q9n : j < j' := by omega
                have HIW : Hid (Iw q w pb g c l ((((V1.setCell ⟨qb, 0, none⟩ (.int .i64 (i' : Int))).setCell ⟨qb, 1, none⟩ (.int .i64 (j : Int))).setCell ⟨pb, 0, none⟩ (.int .i64 (i' : Int))).setCell ⟨pb, 1, none⟩ (.int .i64 (j : Int)))) := ((((HV1.out.st hqp (by rw [hpb]; exact Nat.le_refl _) (by omega) hgq 0 _).st hqp (by rw [hpb]; exact Nat.le_refl _) (by omega) hgq 1 _).st hqp (by rw [hpb]; exact Nat.le_refl _) (Nat.le_refl _) hgp 0 _).st hqp (by rw [hpb]; exact Nat.le_refl _) (Nat.le_refl _) hgp 1 _)
                have HPW : Hid (Bk ((((V1.setCell ⟨qb, 0, none⟩ (.int .i64 (i' : Int))).setCell ⟨qb, 1, none⟩ (.int .i64 (j : Int))).setCell ⟨pb, 0, none⟩ (.int .i64 (i' : Int))).setCell ⟨pb, 1, none⟩ (.int .i64 (j : Int))) pb 64 #[.int .i64 (i' : Int), .int .i64 (j : Int)]) := ((((VP1.out.far (by show pb ≠ qb; exact hpq) _).far (by show pb ≠ qb; exact hpq) _).st 0 _).st 1 _)
                have HNB : Hid (Bk (((((V1.setCell ⟨qb, 0, none⟩ (.int .i64 (i' : Int))).setCell ⟨qb, 1, none⟩ (.int .i64 (j : Int))).setCell ⟨pb, 0, none⟩ (.int .i64 (i' : Int))).setCell ⟨pb, 1, none⟩ (.int .i64 (j : Int))).alloc (.cells #[.int .i64 (i' : Int), .int .i64 (j : Int)] 64)) V1.heap.size 64 #[.int .i64 (i' : Int), .int .i64 (j : Int)]) := Bk.nq _ _ _ (by simp [World.setCell])
                have HPN : Hid (Pw () b i' j (l ++ [(i', j)])) := HW.out.snoc (by unfold Fol; omega) ⟨by have := HB.out; unfold Bnd at this; omega, by have := HB.out; unfold Bnd at this; omega⟩
                have HZ : Hid (pb + 1 ≤ (((((V1.setCell ⟨qb, 0, none⟩ (.int .i64 (i' : Int))).setCell ⟨qb, 1, none⟩ (.int .i64 (j : Int))).setCell ⟨pb, 0, none⟩ (.int .i64 (i' : Int))).setCell ⟨pb, 1, none⟩ (.int .i64 (j : Int))).alloc (.cells #[.int .i64 (i' : Int), .int .i64 (j : Int)] 64)).heap.size) := by show _ ≤ _; have := HIW.out.2.2.2; simp at *; omega
                have HL2 : Hid (i' ≤ n - 1 ∧ j ≤ m - 1) := by show _ ∧ _; rw [HNL.out.1, HNL.out.2.1]; omega
                have l63 : l.length ≤ 63 := by omega
                clear l2 bnm bmn
                go_wp2_with (at_builtin; refine list_appg _ rfl (.tmp 93) (.tmp 95) 30 64 (.agg #[.int .i64 0, .int .i64 0]) 2 16 Try.underlying30 info_pair rfl (by decide) rfl (pb + 1) (.slice (some ⟨g, 0, none⟩) l.length c) l.length (ps l) rfl (HIW.out.2.2.1.alloc _) ⟨V1.heap.size, 0, none⟩ 1 1 [.int .i64 (i' : Int), .int .i64 (j : Int)] rfl rfl (World.news_of_block (cs := #[.int .i64 (i' : Int), .int .i64 (j : Int)]) (t := 64) (fr := (0, 0)) HNB.out) (by simp [Value.oneCell']) (by omega) (by decide) HZ.out ?_; intro v' w6 hown6 hgr6 hat6)
                have HST : Hid (Rw2 q n m b w v' w6) := rw_step hpb hqp HL2.out.1 HL2.out.2 HPW.out HPN.out HIW.out hown6 hgr6 l1
                obtain ⟨g', c', rfl, _, _⟩ := prow_form (l := l ++ [(i', j)]) (by rw [ps_app]; exact hown6) (by omega)
                clear hown6 hgr6 hat6
                go_wp2
                go_roundw
                case rel => exact HST.out
                case measure => simp [ln]; omega
          · obtain rfl : i' = qi := by have := HI'.out; omega
            obtain rfl : j = qj := by have := HI'.out; omega
            clear HI' hf1
            clear e1 e2
            rcases Int.lt_or_le b ((i' : Int) - (j : Int)) with hbd | hbd
            · have hjm : j < ml := by omega
              rcases Nat.lt_or_eq_of_le (show i' ≤ nl by omega) with hmnl | hmnl
              · have hmnli : (i' : Int) < (nl : Int) := by omega
                rcases Nat.lt_or_eq_of_le (show j' ≤ ml by omega) with hmml | hmml
                · have hmmli : (j' : Int) < (ml : Int) := by omega
                  have q0 : ¬ nl < i' := by have := HB.out; unfold Bnd at this; omega
                  have q0d : decide (nl < i') = false := decide_eq_false q0
                  have q1 : ¬ ml < j := by have := HB.out; unfold Bnd at this; omega
                  have q1d : decide (ml < j) = false := decide_eq_false q1
                  have q2 : b < (i' : Int) - (j : Int) := by have := HB.out; unfold Bnd at this; omega
                  have q2d : decide (b < (i' : Int) - (j : Int)) = true := decide_eq_true q2
                  have HIW : Hid (Iw q w pb g c l ((((V1.setCell ⟨qb, 0, none⟩ (.int .i64 (i' : Int))).setCell ⟨qb, 1, none⟩ (.int .i64 (j' : Int))).setCell ⟨pb, 0, none⟩ (.int .i64 (i' : Int))).setCell ⟨pb, 1, none⟩ (.int .i64 (j' : Int)))) := ((((HV1.out.st hqp (by rw [hpb]; exact Nat.le_refl _) (by omega) hgq 0 _).st hqp (by rw [hpb]; exact Nat.le_refl _) (by omega) hgq 1 _).st hqp (by rw [hpb]; exact Nat.le_refl _) (Nat.le_refl _) hgp 0 _).st hqp (by rw [hpb]; exact Nat.le_refl _) (Nat.le_refl _) hgp 1 _)
                  have HPW : Hid (Bk ((((V1.setCell ⟨qb, 0, none⟩ (.int .i64 (i' : Int))).setCell ⟨qb, 1, none⟩ (.int .i64 (j' : Int))).setCell ⟨pb, 0, none⟩ (.int .i64 (i' : Int))).setCell ⟨pb, 1, none⟩ (.int .i64 (j' : Int))) pb 64 #[.int .i64 (i' : Int), .int .i64 (j' : Int)]) := ((((VP1.out.far (by show pb ≠ qb; exact hpq) _).far (by show pb ≠ qb; exact hpq) _).st 0 _).st 1 _)
                  have HNB : Hid (Bk (((((V1.setCell ⟨qb, 0, none⟩ (.int .i64 (i' : Int))).setCell ⟨qb, 1, none⟩ (.int .i64 (j' : Int))).setCell ⟨pb, 0, none⟩ (.int .i64 (i' : Int))).setCell ⟨pb, 1, none⟩ (.int .i64 (j' : Int))).alloc (.cells #[.int .i64 (i' : Int), .int .i64 (j' : Int)] 64)) V1.heap.size 64 #[.int .i64 (i' : Int), .int .i64 (j' : Int)]) := Bk.nq _ _ _ (by simp [World.setCell])
                  have HPN : Hid (Pw () b i' j' (l ++ [(i', j')])) := HW.out.snoc (by unfold Fol; omega) ⟨by have := HB.out; unfold Bnd at this; omega, by have := HB.out; unfold Bnd at this; omega⟩
                  have HZ : Hid (pb + 1 ≤ (((((V1.setCell ⟨qb, 0, none⟩ (.int .i64 (i' : Int))).setCell ⟨qb, 1, none⟩ (.int .i64 (j' : Int))).setCell ⟨pb, 0, none⟩ (.int .i64 (i' : Int))).setCell ⟨pb, 1, none⟩ (.int .i64 (j' : Int))).alloc (.cells #[.int .i64 (i' : Int), .int .i64 (j' : Int)] 64)).heap.size) := by show _ ≤ _; have := HIW.out.2.2.2; simp at *; omega
                  have HL2 : Hid (i' ≤ n - 1 ∧ j' ≤ m - 1) := by show _ ∧ _; rw [HNL.out.1, HNL.out.2.1]; omega
                  have l63 : l.length ≤ 63 := by omega
                  clear l2 bnm bmn
                  go_wp2_with (at_builtin; refine list_appg _ rfl (.tmp 93) (.tmp 95) 30 64 (.agg #[.int .i64 0, .int .i64 0]) 2 16 Try.underlying30 info_pair rfl (by decide) rfl (pb + 1) (.slice (some ⟨g, 0, none⟩) l.length c) l.length (ps l) rfl (HIW.out.2.2.1.alloc _) ⟨V1.heap.size, 0, none⟩ 1 1 [.int .i64 (i' : Int), .int .i64 (j' : Int)] rfl rfl (World.news_of_block (cs := #[.int .i64 (i' : Int), .int .i64 (j' : Int)]) (t := 64) (fr := (0, 0)) HNB.out) (by simp [Value.oneCell']) (by omega) (by decide) HZ.out ?_; intro v' w6 hown6 hgr6 hat6)
                  have HST : Hid (Rw2 q n m b w v' w6) := rw_step hpb hqp HL2.out.1 HL2.out.2 HPW.out HPN.out HIW.out hown6 hgr6 l1
                  obtain ⟨g', c', rfl, _, _⟩ := prow_form (l := l ++ [(i', j')]) (by rw [ps_app]; exact hown6) (by omega)
                  clear hown6 hgr6 hat6
                  go_wp2
                  go_roundw
                  case rel => exact HST.out
                  case measure => simp [ln]; omega
                · subst hmml
                  have q0 : ¬ nl < i' := by have := HB.out; unfold Bnd at this; omega
                  have q0d : decide (nl < i') = false := decide_eq_false q0
                  have q1 : ¬ j' < j := by have := HB.out; unfold Bnd at this; omega
                  have q1d : decide (j' < j) = false := decide_eq_false q1
                  have q2 : b < (i' : Int) - (j : Int) := by have := HB.out; unfold Bnd at this; omega
                  have q2d : decide (b < (i' : Int) - (j : Int)) = true := decide_eq_true q2
                  exfalso
                  omega
              · subst hmnl
                rcases Nat.lt_or_eq_of_le (show j' ≤ ml by omega) with hmml | hmml
                · have hmmli : (j' : Int) < (ml : Int) := by omega
                  have q0 : ¬ i' < i' := by have := HB.out; unfold Bnd at this; omega
                  have q0d : decide (i' < i') = false := decide_eq_false q0
                  have q1 : ¬ ml < j := by have := HB.out; unfold Bnd at this; omega
                  have q1d : decide (ml < j) = false := decide_eq_false q1
                  have q2 : b < (i' : Int) - (j : Int) := by have := HB.out; unfold Bnd at this; omega
                  have q2d : decide (b < (i' : Int) - (j : Int)) = true := decide_eq_true q2
                  have HIW : Hid (Iw q w pb g c l ((((V1.setCell ⟨qb, 0, none⟩ (.int .i64 (i' : Int))).setCell ⟨qb, 1, none⟩ (.int .i64 (j' : Int))).setCell ⟨pb, 0, none⟩ (.int .i64 (i' : Int))).setCell ⟨pb, 1, none⟩ (.int .i64 (j' : Int)))) := ((((HV1.out.st hqp (by rw [hpb]; exact Nat.le_refl _) (by omega) hgq 0 _).st hqp (by rw [hpb]; exact Nat.le_refl _) (by omega) hgq 1 _).st hqp (by rw [hpb]; exact Nat.le_refl _) (Nat.le_refl _) hgp 0 _).st hqp (by rw [hpb]; exact Nat.le_refl _) (Nat.le_refl _) hgp 1 _)
                  have HPW : Hid (Bk ((((V1.setCell ⟨qb, 0, none⟩ (.int .i64 (i' : Int))).setCell ⟨qb, 1, none⟩ (.int .i64 (j' : Int))).setCell ⟨pb, 0, none⟩ (.int .i64 (i' : Int))).setCell ⟨pb, 1, none⟩ (.int .i64 (j' : Int))) pb 64 #[.int .i64 (i' : Int), .int .i64 (j' : Int)]) := ((((VP1.out.far (by show pb ≠ qb; exact hpq) _).far (by show pb ≠ qb; exact hpq) _).st 0 _).st 1 _)
                  have HNB : Hid (Bk (((((V1.setCell ⟨qb, 0, none⟩ (.int .i64 (i' : Int))).setCell ⟨qb, 1, none⟩ (.int .i64 (j' : Int))).setCell ⟨pb, 0, none⟩ (.int .i64 (i' : Int))).setCell ⟨pb, 1, none⟩ (.int .i64 (j' : Int))).alloc (.cells #[.int .i64 (i' : Int), .int .i64 (j' : Int)] 64)) V1.heap.size 64 #[.int .i64 (i' : Int), .int .i64 (j' : Int)]) := Bk.nq _ _ _ (by simp [World.setCell])
                  have HPN : Hid (Pw () b i' j' (l ++ [(i', j')])) := HW.out.snoc (by unfold Fol; omega) ⟨by have := HB.out; unfold Bnd at this; omega, by have := HB.out; unfold Bnd at this; omega⟩
                  have HZ : Hid (pb + 1 ≤ (((((V1.setCell ⟨qb, 0, none⟩ (.int .i64 (i' : Int))).setCell ⟨qb, 1, none⟩ (.int .i64 (j' : Int))).setCell ⟨pb, 0, none⟩ (.int .i64 (i' : Int))).setCell ⟨pb, 1, none⟩ (.int .i64 (j' : Int))).alloc (.cells #[.int .i64 (i' : Int), .int .i64 (j' : Int)] 64)).heap.size) := by show _ ≤ _; have := HIW.out.2.2.2; simp at *; omega
                  have HL2 : Hid (i' ≤ n - 1 ∧ j' ≤ m - 1) := by show _ ∧ _; rw [HNL.out.1, HNL.out.2.1]; omega
                  have l63 : l.length ≤ 63 := by omega
                  clear l2 bnm bmn
                  go_wp2_with (at_builtin; refine list_appg _ rfl (.tmp 93) (.tmp 95) 30 64 (.agg #[.int .i64 0, .int .i64 0]) 2 16 Try.underlying30 info_pair rfl (by decide) rfl (pb + 1) (.slice (some ⟨g, 0, none⟩) l.length c) l.length (ps l) rfl (HIW.out.2.2.1.alloc _) ⟨V1.heap.size, 0, none⟩ 1 1 [.int .i64 (i' : Int), .int .i64 (j' : Int)] rfl rfl (World.news_of_block (cs := #[.int .i64 (i' : Int), .int .i64 (j' : Int)]) (t := 64) (fr := (0, 0)) HNB.out) (by simp [Value.oneCell']) (by omega) (by decide) HZ.out ?_; intro v' w6 hown6 hgr6 hat6)
                  have HST : Hid (Rw2 q n m b w v' w6) := rw_step hpb hqp HL2.out.1 HL2.out.2 HPW.out HPN.out HIW.out hown6 hgr6 l1
                  obtain ⟨g', c', rfl, _, _⟩ := prow_form (l := l ++ [(i', j')]) (by rw [ps_app]; exact hown6) (by omega)
                  clear hown6 hgr6 hat6
                  go_wp2
                  go_roundw
                  case rel => exact HST.out
                  case measure => simp [ln]; omega
                · subst hmml
                  have q0 : ¬ i' < i' := by have := HB.out; unfold Bnd at this; omega
                  have q0d : decide (i' < i') = false := decide_eq_false q0
                  have q1 : ¬ j' < j := by have := HB.out; unfold Bnd at this; omega
                  have q1d : decide (j' < j) = false := decide_eq_false q1
                  have q2 : b < (i' : Int) - (j : Int) := by have := HB.out; unfold Bnd at this; omega
                  have q2d : decide (b < (i' : Int) - (j : Int)) = true := decide_eq_true q2
                  have HIW : Hid (Iw q w pb g c l ((((V1.setCell ⟨qb, 0, none⟩ (.int .i64 (i' : Int))).setCell ⟨qb, 1, none⟩ (.int .i64 (j' : Int))).setCell ⟨pb, 0, none⟩ (.int .i64 (i' : Int))).setCell ⟨pb, 1, none⟩ (.int .i64 (j' : Int)))) := ((((HV1.out.st hqp (by rw [hpb]; exact Nat.le_refl _) (by omega) hgq 0 _).st hqp (by rw [hpb]; exact Nat.le_refl _) (by omega) hgq 1 _).st hqp (by rw [hpb]; exact Nat.le_refl _) (Nat.le_refl _) hgp 0 _).st hqp (by rw [hpb]; exact Nat.le_refl _) (Nat.le_refl _) hgp 1 _)
                  have HPW : Hid (Bk ((((V1.setCell ⟨qb, 0, none⟩ (.int .i64 (i' : Int))).setCell ⟨qb, 1, none⟩ (.int .i64 (j' : Int))).setCell ⟨pb, 0, none⟩ (.int .i64 (i' : Int))).setCell ⟨pb, 1, none⟩ (.int .i64 (j' : Int))) pb 64 #[.int .i64 (i' : Int), .int .i64 (j' : Int)]) := ((((VP1.out.far (by show pb ≠ qb; exact hpq) _).far (by show pb ≠ qb; exact hpq) _).st 0 _).st 1 _)
                  have HNB : Hid (Bk (((((V1.setCell ⟨qb, 0, none⟩ (.int .i64 (i' : Int))).setCell ⟨qb, 1, none⟩ (.int .i64 (j' : Int))).setCell ⟨pb, 0, none⟩ (.int .i64 (i' : Int))).setCell ⟨pb, 1, none⟩ (.int .i64 (j' : Int))).alloc (.cells #[.int .i64 (i' : Int), .int .i64 (j' : Int)] 64)) V1.heap.size 64 #[.int .i64 (i' : Int), .int .i64 (j' : Int)]) := Bk.nq _ _ _ (by simp [World.setCell])
                  have HPN : Hid (Pw () b i' j' (l ++ [(i', j')])) := HW.out.snoc (by unfold Fol; omega) ⟨by have := HB.out; unfold Bnd at this; omega, by have := HB.out; unfold Bnd at this; omega⟩
                  have HZ : Hid (pb + 1 ≤ (((((V1.setCell ⟨qb, 0, none⟩ (.int .i64 (i' : Int))).setCell ⟨qb, 1, none⟩ (.int .i64 (j' : Int))).setCell ⟨pb, 0, none⟩ (.int .i64 (i' : Int))).setCell ⟨pb, 1, none⟩ (.int .i64 (j' : Int))).alloc (.cells #[.int .i64 (i' : Int), .int .i64 (j' : Int)] 64)).heap.size) := by show _ ≤ _; have := HIW.out.2.2.2; simp at *; omega
                  have HL2 : Hid (i' ≤ n - 1 ∧ j' ≤ m - 1) := by show _ ∧ _; rw [HNL.out.1, HNL.out.2.1]; omega
                  have l63 : l.length ≤ 63 := by omega
                  clear l2 bnm bmn
                  go_wp2_with (at_builtin; refine list_appg _ rfl (.tmp 93) (.tmp 95) 30 64 (.agg #[.int .i64 0, .int .i64 0]) 2 16 Try.underlying30 info_pair rfl (by decide) rfl (pb + 1) (.slice (some ⟨g, 0, none⟩) l.length c) l.length (ps l) rfl (HIW.out.2.2.1.alloc _) ⟨V1.heap.size, 0, none⟩ 1 1 [.int .i64 (i' : Int), .int .i64 (j' : Int)] rfl rfl (World.news_of_block (cs := #[.int .i64 (i' : Int), .int .i64 (j' : Int)]) (t := 64) (fr := (0, 0)) HNB.out) (by simp [Value.oneCell']) (by omega) (by decide) HZ.out ?_; intro v' w6 hown6 hgr6 hat6)
                  have HST : Hid (Rw2 q n m b w v' w6) := rw_step hpb hqp HL2.out.1 HL2.out.2 HPW.out HPN.out HIW.out hown6 hgr6 l1
                  obtain ⟨g', c', rfl, _, _⟩ := prow_form (l := l ++ [(i', j')]) (by rw [ps_app]; exact hown6) (by omega)
                  clear hown6 hgr6 hat6
                  go_wp2
                  go_roundw
                  case rel => exact HST.out
                  case measure => simp [ln]; omega
            · have q0 : ¬ nl < i' := by have := HB.out; unfold Bnd at this; omega
              have q0d : decide (nl < i') = false := decide_eq_false q0
              have q1 : ¬ ml < j := by have := HB.out; unfold Bnd at this; omega
              have q1d : decide (ml < j) = false := decide_eq_false q1
              have q2 : ¬ b < (i' : Int) - (j : Int) := by have := HB.out; unfold Bnd at this; omega
              have q2d : decide (b < (i' : Int) - (j : Int)) = false := decide_eq_false q2
              have q3 : ¬ b < (j : Int) - (i' : Int) := by have := HB.out; unfold Bnd at this; omega
              have q3d : decide (b < (j : Int) - (i' : Int)) = false := decide_eq_false q3
              have HIW : Hid (Iw q w pb g c l ((V1.setCell ⟨pb, 0, none⟩ (.int .i64 (i' : Int))).setCell ⟨pb, 1, none⟩ (.int .i64 (j : Int)))) := ((HV1.out.st hqp (by rw [hpb]; exact Nat.le_refl _) (Nat.le_refl _) hgp 0 _).st hqp (by rw [hpb]; exact Nat.le_refl _) (Nat.le_refl _) hgp 1 _)
              have HPW : Hid (Bk ((V1.setCell ⟨pb, 0, none⟩ (.int .i64 (i' : Int))).setCell ⟨pb, 1, none⟩ (.int .i64 (j : Int))) pb 64 #[.int .i64 (i' : Int), .int .i64 (j : Int)]) := ((VP1.out.st 0 _).st 1 _)
              have HNB : Hid (Bk (((V1.setCell ⟨pb, 0, none⟩ (.int .i64 (i' : Int))).setCell ⟨pb, 1, none⟩ (.int .i64 (j : Int))).alloc (.cells #[.int .i64 (i' : Int), .int .i64 (j : Int)] 64)) V1.heap.size 64 #[.int .i64 (i' : Int), .int .i64 (j : Int)]) := Bk.nq _ _ _ (by simp [World.setCell])
              have HPN : Hid (Pw () b i' j (l ++ [(i', j)])) := HW.out.snoc (by unfold Fol; omega) ⟨by have := HB.out; unfold Bnd at this; omega, by have := HB.out; unfold Bnd at this; omega⟩
              have HZ : Hid (pb + 1 ≤ (((V1.setCell ⟨pb, 0, none⟩ (.int .i64 (i' : Int))).setCell ⟨pb, 1, none⟩ (.int .i64 (j : Int))).alloc (.cells #[.int .i64 (i' : Int), .int .i64 (j : Int)] 64)).heap.size) := by show _ ≤ _; have := HIW.out.2.2.2; simp at *; omega
              have HL2 : Hid (i' ≤ n - 1 ∧ j ≤ m - 1) := by show _ ∧ _; rw [HNL.out.1, HNL.out.2.1]; omega
              have l63 : l.length ≤ 63 := by omega
              clear l2 bnm bmn
              go_wp2_with (at_builtin; refine list_appg _ rfl (.tmp 93) (.tmp 95) 30 64 (.agg #[.int .i64 0, .int .i64 0]) 2 16 Try.underlying30 info_pair rfl (by decide) rfl (pb + 1) (.slice (some ⟨g, 0, none⟩) l.length c) l.length (ps l) rfl (HIW.out.2.2.1.alloc _) ⟨V1.heap.size, 0, none⟩ 1 1 [.int .i64 (i' : Int), .int .i64 (j : Int)] rfl rfl (World.news_of_block (cs := #[.int .i64 (i' : Int), .int .i64 (j : Int)]) (t := 64) (fr := (0, 0)) HNB.out) (by simp [Value.oneCell']) (by omega) (by decide) HZ.out ?_; intro v' w6 hown6 hgr6 hat6)
              have HST : Hid (Rw2 q n m b w v' w6) := rw_step hpb hqp HL2.out.1 HL2.out.2 HPW.out HPN.out HIW.out hown6 hgr6 l1
              obtain ⟨g', c', rfl, _, _⟩ := prow_form (l := l ++ [(i', j)]) (by rw [ps_app]; exact hown6) (by omega)
              clear hown6 hgr6 hat6
              go_wp2
              go_roundw
              case rel => exact HST.out
              case measure => simp [ln]; omega
          · obtain rfl : i = qi := by have := HI'.out; omega
            obtain rfl : j' = qj := by have := HI'.out; omega
            clear HI' hf1
            clear e1 e2
            rcases (show j < ml ∨ j = ml by omega) with hjm | hjm
            · rcases Int.lt_or_le b ((j' : Int) - (i : Int)) with hbd | hbd
              · rcases Nat.lt_or_eq_of_le (show i' ≤ nl by omega) with hmnl | hmnl
                · have hmnli : (i' : Int) < (nl : Int) := by omega
                  rcases Nat.lt_or_eq_of_le (show j' ≤ ml by omega) with hmml | hmml
                  · have hmmli : (j' : Int) < (ml : Int) := by omega
                    have q0 : ¬ nl < i := by have := HB.out; unfold Bnd at this; omega
                    have q0d : decide (nl < i) = false := decide_eq_false q0
                    have q1 : ¬ ml < j' := by have := HB.out; unfold Bnd at this; omega
                    have q1d : decide (ml < j') = false := decide_eq_false q1
                    have q2 : ¬ b < (i : Int) - (j' : Int) := by have := HB.out; unfold Bnd at this; omega
                    have q2d : decide (b < (i : Int) - (j' : Int)) = false := decide_eq_false q2
                    have q3 : b < (j' : Int) - (i : Int) := by have := HB.out; unfold Bnd at this; omega
                    have q3d : decide (b < (j' : Int) - (i : Int)) = true := decide_eq_true q3
                    have HIW : Hid (Iw q w pb g c l ((((V1.setCell ⟨qb, 0, none⟩ (.int .i64 (i' : Int))).setCell ⟨qb, 1, none⟩ (.int .i64 (j' : Int))).setCell ⟨pb, 0, none⟩ (.int .i64 (i' : Int))).setCell ⟨pb, 1, none⟩ (.int .i64 (j' : Int)))) := ((((HV1.out.st hqp (by rw [hpb]; exact Nat.le_refl _) (by omega) hgq 0 _).st hqp (by rw [hpb]; exact Nat.le_refl _) (by omega) hgq 1 _).st hqp (by rw [hpb]; exact Nat.le_refl _) (Nat.le_refl _) hgp 0 _).st hqp (by rw [hpb]; exact Nat.le_refl _) (Nat.le_refl _) hgp 1 _)
                    have HPW : Hid (Bk ((((V1.setCell ⟨qb, 0, none⟩ (.int .i64 (i' : Int))).setCell ⟨qb, 1, none⟩ (.int .i64 (j' : Int))).setCell ⟨pb, 0, none⟩ (.int .i64 (i' : Int))).setCell ⟨pb, 1, none⟩ (.int .i64 (j' : Int))) pb 64 #[.int .i64 (i' : Int), .int .i64 (j' : Int)]) := ((((VP1.out.far (by show pb ≠ qb; exact hpq) _).far (by show pb ≠ qb; exact hpq) _).st 0 _).st 1 _)
                    have HNB : Hid (Bk (((((V1.setCell ⟨qb, 0, none⟩ (.int .i64 (i' : Int))).setCell ⟨qb, 1, none⟩ (.int .i64 (j' : Int))).setCell ⟨pb, 0, none⟩ (.int .i64 (i' : Int))).setCell ⟨pb, 1, none⟩ (.int .i64 (j' : Int))).alloc (.cells #[.int .i64 (i' : Int), .int .i64 (j' : Int)] 64)) V1.heap.size 64 #[.int .i64 (i' : Int), .int .i64 (j' : Int)]) := Bk.nq _ _ _ (by simp [World.setCell])
                    have HPN : Hid (Pw () b i' j' (l ++ [(i', j')])) := HW.out.snoc (by unfold Fol; omega) ⟨by have := HB.out; unfold Bnd at this; omega, by have := HB.out; unfold Bnd at this; omega⟩
                    have HZ : Hid (pb + 1 ≤ (((((V1.setCell ⟨qb, 0, none⟩ (.int .i64 (i' : Int))).setCell ⟨qb, 1, none⟩ (.int .i64 (j' : Int))).setCell ⟨pb, 0, none⟩ (.int .i64 (i' : Int))).setCell ⟨pb, 1, none⟩ (.int .i64 (j' : Int))).alloc (.cells #[.int .i64 (i' : Int), .int .i64 (j' : Int)] 64)).heap.size) := by show _ ≤ _; have := HIW.out.2.2.2; simp at *; omega
                    have HL2 : Hid (i' ≤ n - 1 ∧ j' ≤ m - 1) := by show _ ∧ _; rw [HNL.out.1, HNL.out.2.1]; omega
                    have l63 : l.length ≤ 63 := by omega
                    clear l2 bnm bmn
                    go_wp2_with (at_builtin; refine list_appg _ rfl (.tmp 93) (.tmp 95) 30 64 (.agg #[.int .i64 0, .int .i64 0]) 2 16 Try.underlying30 info_pair rfl (by decide) rfl (pb + 1) (.slice (some ⟨g, 0, none⟩) l.length c) l.length (ps l) rfl (HIW.out.2.2.1.alloc _) ⟨V1.heap.size, 0, none⟩ 1 1 [.int .i64 (i' : Int), .int .i64 (j' : Int)] rfl rfl (World.news_of_block (cs := #[.int .i64 (i' : Int), .int .i64 (j' : Int)]) (t := 64) (fr := (0, 0)) HNB.out) (by simp [Value.oneCell']) (by omega) (by decide) HZ.out ?_; intro v' w6 hown6 hgr6 hat6)
                    have HST : Hid (Rw2 q n m b w v' w6) := rw_step hpb hqp HL2.out.1 HL2.out.2 HPW.out HPN.out HIW.out hown6 hgr6 l1
                    obtain ⟨g', c', rfl, _, _⟩ := prow_form (l := l ++ [(i', j')]) (by rw [ps_app]; exact hown6) (by omega)
                    clear hown6 hgr6 hat6
                    go_wp2
                    go_roundw
                    case rel => exact HST.out
                    case measure => simp [ln]; omega
                  · subst hmml
                    have q0 : ¬ nl < i := by have := HB.out; unfold Bnd at this; omega
                    have q0d : decide (nl < i) = false := decide_eq_false q0
                    have q1 : ¬ j' < j' := by have := HB.out; unfold Bnd at this; omega
                    have q1d : decide (j' < j') = false := decide_eq_false q1
                    have q2 : ¬ b < (i : Int) - (j' : Int) := by have := HB.out; unfold Bnd at this; omega
                    have q2d : decide (b < (i : Int) - (j' : Int)) = false := decide_eq_false q2
                    have q3 : b < (j' : Int) - (i : Int) := by have := HB.out; unfold Bnd at this; omega
                    have q3d : decide (b < (j' : Int) - (i : Int)) = true := decide_eq_true q3
                    have HIW : Hid (Iw q w pb g c l ((((V1.setCell ⟨qb, 0, none⟩ (.int .i64 (i' : Int))).setCell ⟨qb, 1, none⟩ (.int .i64 (j' : Int))).setCell ⟨pb, 0, none⟩ (.int .i64 (i' : Int))).setCell ⟨pb, 1, none⟩ (.int .i64 (j' : Int)))) := ((((HV1.out.st hqp (by rw [hpb]; exact Nat.le_refl _) (by omega) hgq 0 _).st hqp (by rw [hpb]; exact Nat.le_refl _) (by omega) hgq 1 _).st hqp (by rw [hpb]; exact Nat.le_refl _) (Nat.le_refl _) hgp 0 _).st hqp (by rw [hpb]; exact Nat.le_refl _) (Nat.le_refl _) hgp 1 _)
                    have HPW : Hid (Bk ((((V1.setCell ⟨qb, 0, none⟩ (.int .i64 (i' : Int))).setCell ⟨qb, 1, none⟩ (.int .i64 (j' : Int))).setCell ⟨pb, 0, none⟩ (.int .i64 (i' : Int))).setCell ⟨pb, 1, none⟩ (.int .i64 (j' : Int))) pb 64 #[.int .i64 (i' : Int), .int .i64 (j' : Int)]) := ((((VP1.out.far (by show pb ≠ qb; exact hpq) _).far (by show pb ≠ qb; exact hpq) _).st 0 _).st 1 _)
                    have HNB : Hid (Bk (((((V1.setCell ⟨qb, 0, none⟩ (.int .i64 (i' : Int))).setCell ⟨qb, 1, none⟩ (.int .i64 (j' : Int))).setCell ⟨pb, 0, none⟩ (.int .i64 (i' : Int))).setCell ⟨pb, 1, none⟩ (.int .i64 (j' : Int))).alloc (.cells #[.int .i64 (i' : Int), .int .i64 (j' : Int)] 64)) V1.heap.size 64 #[.int .i64 (i' : Int), .int .i64 (j' : Int)]) := Bk.nq _ _ _ (by simp [World.setCell])
                    have HPN : Hid (Pw () b i' j' (l ++ [(i', j')])) := HW.out.snoc (by unfold Fol; omega) ⟨by have := HB.out; unfold Bnd at this; omega, by have := HB.out; unfold Bnd at this; omega⟩
                    have HZ : Hid (pb + 1 ≤ (((((V1.setCell ⟨qb, 0, none⟩ (.int .i64 (i' : Int))).setCell ⟨qb, 1, none⟩ (.int .i64 (j' : Int))).setCell ⟨pb, 0, none⟩ (.int .i64 (i' : Int))).setCell ⟨pb, 1, none⟩ (.int .i64 (j' : Int))).alloc (.cells #[.int .i64 (i' : Int), .int .i64 (j' : Int)] 64)).heap.size) := by show _ ≤ _; have := HIW.out.2.2.2; simp at *; omega
                    have HL2 : Hid (i' ≤ n - 1 ∧ j' ≤ m - 1) := by show _ ∧ _; rw [HNL.out.1, HNL.out.2.1]; omega
                    have l63 : l.length ≤ 63 := by omega
                    clear l2 bnm bmn
                    go_wp2_with (at_builtin; refine list_appg _ rfl (.tmp 93) (.tmp 95) 30 64 (.agg #[.int .i64 0, .int .i64 0]) 2 16 Try.underlying30 info_pair rfl (by decide) rfl (pb + 1) (.slice (some ⟨g, 0, none⟩) l.length c) l.length (ps l) rfl (HIW.out.2.2.1.alloc _) ⟨V1.heap.size, 0, none⟩ 1 1 [.int .i64 (i' : Int), .int .i64 (j' : Int)] rfl rfl (World.news_of_block (cs := #[.int .i64 (i' : Int), .int .i64 (j' : Int)]) (t := 64) (fr := (0, 0)) HNB.out) (by simp [Value.oneCell']) (by omega) (by decide) HZ.out ?_; intro v' w6 hown6 hgr6 hat6)
                    have HST : Hid (Rw2 q n m b w v' w6) := rw_step hpb hqp HL2.out.1 HL2.out.2 HPW.out HPN.out HIW.out hown6 hgr6 l1
                    obtain ⟨g', c', rfl, _, _⟩ := prow_form (l := l ++ [(i', j')]) (by rw [ps_app]; exact hown6) (by omega)
                    clear hown6 hgr6 hat6
                    go_wp2
                    go_roundw
                    case rel => exact HST.out
                    case measure => simp [ln]; omega
                · subst hmnl
                  rcases Nat.lt_or_eq_of_le (show j' ≤ ml by omega) with hmml | hmml
                  · have hmmli : (j' : Int) < (ml : Int) := by omega
                    have q0 : ¬ i' < i := by have := HB.out; unfold Bnd at this; omega
                    have q0d : decide (i' < i) = false := decide_eq_false q0
                    have q1 : ¬ ml < j' := by have := HB.out; unfold Bnd at this; omega
                    have q1d : decide (ml < j') = false := decide_eq_false q1
                    have q2 : ¬ b < (i : Int) - (j' : Int) := by have := HB.out; unfold Bnd at this; omega
                    have q2d : decide (b < (i : Int) - (j' : Int)) = false := decide_eq_false q2
                    have q3 : b < (j' : Int) - (i : Int) := by have := HB.out; unfold Bnd at this; omega
                    have q3d : decide (b < (j' : Int) - (i : Int)) = true := decide_eq_true q3
                    exfalso
                    omega
                  · subst hmml
                    have q0 : ¬ i' < i := by have := HB.out; unfold Bnd at this; omega
                    have q0d : decide (i' < i) = false := decide_eq_false q0
                    have q1 : ¬ j' < j' := by have := HB.out; unfold Bnd at this; omega
                    have q1d : decide (j' < j') = false := decide_eq_false q1
                    have q2 : ¬ b < (i : Int) - (j' : Int) := by have := HB.out; unfold Bnd at this; omega
                    have q2d : decide (b < (i : Int) - (j' : Int)) = false := decide_eq_false q2
                    have q3 : b < (j' : Int) - (i : Int) := by have := HB.out; unfold Bnd at this; omega
                    have q3d : decide (b < (j' : Int) - (i : Int)) = true := decide_eq_true q3
                    have HIW : Hid (Iw q w pb g c l ((((V1.setCell ⟨qb, 0, none⟩ (.int .i64 (i' : Int))).setCell ⟨qb, 1, none⟩ (.int .i64 (j' : Int))).setCell ⟨pb, 0, none⟩ (.int .i64 (i' : Int))).setCell ⟨pb, 1, none⟩ (.int .i64 (j' : Int)))) := ((((HV1.out.st hqp (by rw [hpb]; exact Nat.le_refl _) (by omega) hgq 0 _).st hqp (by rw [hpb]; exact Nat.le_refl _) (by omega) hgq 1 _).st hqp (by rw [hpb]; exact Nat.le_refl _) (Nat.le_refl _) hgp 0 _).st hqp (by rw [hpb]; exact Nat.le_refl _) (Nat.le_refl _) hgp 1 _)
                    have HPW : Hid (Bk ((((V1.setCell ⟨qb, 0, none⟩ (.int .i64 (i' : Int))).setCell ⟨qb, 1, none⟩ (.int .i64 (j' : Int))).setCell ⟨pb, 0, none⟩ (.int .i64 (i' : Int))).setCell ⟨pb, 1, none⟩ (.int .i64 (j' : Int))) pb 64 #[.int .i64 (i' : Int), .int .i64 (j' : Int)]) := ((((VP1.out.far (by show pb ≠ qb; exact hpq) _).far (by show pb ≠ qb; exact hpq) _).st 0 _).st 1 _)
                    have HNB : Hid (Bk (((((V1.setCell ⟨qb, 0, none⟩ (.int .i64 (i' : Int))).setCell ⟨qb, 1, none⟩ (.int .i64 (j' : Int))).setCell ⟨pb, 0, none⟩ (.int .i64 (i' : Int))).setCell ⟨pb, 1, none⟩ (.int .i64 (j' : Int))).alloc (.cells #[.int .i64 (i' : Int), .int .i64 (j' : Int)] 64)) V1.heap.size 64 #[.int .i64 (i' : Int), .int .i64 (j' : Int)]) := Bk.nq _ _ _ (by simp [World.setCell])
                    have HPN : Hid (Pw () b i' j' (l ++ [(i', j')])) := HW.out.snoc (by unfold Fol; omega) ⟨by have := HB.out; unfold Bnd at this; omega, by have := HB.out; unfold Bnd at this; omega⟩
                    have HZ : Hid (pb + 1 ≤ (((((V1.setCell ⟨qb, 0, none⟩ (.int .i64 (i' : Int))).setCell ⟨qb, 1, none⟩ (.int .i64 (j' : Int))).setCell ⟨pb, 0, none⟩ (.int .i64 (i' : Int))).setCell ⟨pb, 1, none⟩ (.int .i64 (j' : Int))).alloc (.cells #[.int .i64 (i' : Int), .int .i64 (j' : Int)] 64)).heap.size) := by show _ ≤ _; have := HIW.out.2.2.2; simp at *; omega
                    have HL2 : Hid (i' ≤ n - 1 ∧ j' ≤ m - 1) := by show _ ∧ _; rw [HNL.out.1, HNL.out.2.1]; omega
                    have l63 : l.length ≤ 63 := by omega
                    clear l2 bnm bmn
                    go_wp2_with (at_builtin; refine list_appg _ rfl (.tmp 93) (.tmp 95) 30 64 (.agg #[.int .i64 0, .int .i64 0]) 2 16 Try.underlying30 info_pair rfl (by decide) rfl (pb + 1) (.slice (some ⟨g, 0, none⟩) l.length c) l.length (ps l) rfl (HIW.out.2.2.1.alloc _) ⟨V1.heap.size, 0, none⟩ 1 1 [.int .i64 (i' : Int), .int .i64 (j' : Int)] rfl rfl (World.news_of_block (cs := #[.int .i64 (i' : Int), .int .i64 (j' : Int)]) (t := 64) (fr := (0, 0)) HNB.out) (by simp [Value.oneCell']) (by omega) (by decide) HZ.out ?_; intro v' w6 hown6 hgr6 hat6)
                    have HST : Hid (Rw2 q n m b w v' w6) := rw_step hpb hqp HL2.out.1 HL2.out.2 HPW.out HPN.out HIW.out hown6 hgr6 l1
                    obtain ⟨g', c', rfl, _, _⟩ := prow_form (l := l ++ [(i', j')]) (by rw [ps_app]; exact hown6) (by omega)
                    clear hown6 hgr6 hat6
                    go_wp2
                    go_roundw
                    case rel => exact HST.out
                    case measure => simp [ln]; omega
              · have q0 : ¬ nl < i := by have := HB.out; unfold Bnd at this; omega
                have q0d : decide (nl < i) = false := decide_eq_false q0
                have q1 : ¬ ml < j' := by have := HB.out; unfold Bnd at this; omega
                have q1d : decide (ml < j') = false := decide_eq_false q1
                have q2 : ¬ b < (i : Int) - (j' : Int) := by have := HB.out; unfold Bnd at this; omega
                have q2d : decide (b < (i : Int) - (j' : Int)) = false := decide_eq_false q2
                have q3 : ¬ b < (j' : Int) - (i : Int) := by have := HB.out; unfold Bnd at this; omega
                have q3d : decide (b < (j' : Int) - (i : Int)) = false := decide_eq_false q3
                have HIW : Hid (Iw q w pb g c l ((V1.setCell ⟨pb, 0, none⟩ (.int .i64 (i : Int))).setCell ⟨pb, 1, none⟩ (.int .i64 (j' : Int)))) := ((HV1.out.st hqp (by rw [hpb]; exact Nat.le_refl _) (Nat.le_refl _) hgp 0 _).st hqp (by rw [hpb]; exact Nat.le_refl _) (Nat.le_refl _) hgp 1 _)
                have HPW : Hid (Bk ((V1.setCell ⟨pb, 0, none⟩ (.int .i64 (i : Int))).setCell ⟨pb, 1, none⟩ (.int .i64 (j' : Int))) pb 64 #[.int .i64 (i : Int), .int .i64 (j' : Int)]) := ((VP1.out.st 0 _).st 1 _)
                have HNB : Hid (Bk (((V1.setCell ⟨pb, 0, none⟩ (.int .i64 (i : Int))).setCell ⟨pb, 1, none⟩ (.int .i64 (j' : Int))).alloc (.cells #[.int .i64 (i : Int), .int .i64 (j' : Int)] 64)) V1.heap.size 64 #[.int .i64 (i : Int), .int .i64 (j' : Int)]) := Bk.nq _ _ _ (by simp [World.setCell])
                have HPN : Hid (Pw () b i j' (l ++ [(i, j')])) := HW.out.snoc (by unfold Fol; omega) ⟨by have := HB.out; unfold Bnd at this; omega, by have := HB.out; unfold Bnd at this; omega⟩
                have HZ : Hid (pb + 1 ≤ (((V1.setCell ⟨pb, 0, none⟩ (.int .i64 (i : Int))).setCell ⟨pb, 1, none⟩ (.int .i64 (j' : Int))).alloc (.cells #[.int .i64 (i : Int), .int .i64 (j' : Int)] 64)).heap.size) := by show _ ≤ _; have := HIW.out.2.2.2; simp at *; omega
                have HL2 : Hid (i ≤ n - 1 ∧ j' ≤ m - 1) := by show _ ∧ _; rw [HNL.out.1, HNL.out.2.1]; omega
                have l63 : l.length ≤ 63 := by omega
                clear l2 bnm bmn
                go_wp2_with (at_builtin; refine list_appg _ rfl (.tmp 93) (.tmp 95) 30 64 (.agg #[.int .i64 0, .int .i64 0]) 2 16 Try.underlying30 info_pair rfl (by decide) rfl (pb + 1) (.slice (some ⟨g, 0, none⟩) l.length c) l.length (ps l) rfl (HIW.out.2.2.1.alloc _) ⟨V1.heap.size, 0, none⟩ 1 1 [.int .i64 (i : Int), .int .i64 (j' : Int)] rfl rfl (World.news_of_block (cs := #[.int .i64 (i : Int), .int .i64 (j' : Int)]) (t := 64) (fr := (0, 0)) HNB.out) (by simp [Value.oneCell']) (by omega) (by decide) HZ.out ?_; intro v' w6 hown6 hgr6 hat6)
                have HST : Hid (Rw2 q n m b w v' w6) := rw_step hpb hqp HL2.out.1 HL2.out.2 HPW.out HPN.out HIW.out hown6 hgr6 l1
                obtain ⟨g', c', rfl, _, _⟩ := prow_form (l := l ++ [(i, j')]) (by rw [ps_app]; exact hown6) (by omega)
                clear hown6 hgr6 hat6
                go_wp2
                go_roundw
                case rel => exact HST.out
                case measure => simp [ln]; omega
            · subst hjm
              rcases Nat.lt_or_eq_of_le (show i' ≤ nl by omega) with hmnl | hmnl
              · have hmnli : (i' : Int) < (nl : Int) := by omega
                have q0 : ¬ nl < i := by have := HB.out; unfold Bnd at this; omega
                have q0d : decide (nl < i) = false := decide_eq_false q0
                have q1 : j < j' := by have := HB.out; unfold Bnd at this; omega
                have q1d : decide (j < j') = true := decide_eq_true q1
                have q9 : (j : Int) < (j' : Int) := by omega
                have q9n : j < j' := by omega
                have HIW : Hid (Iw q w pb g c l ((((V1.setCell ⟨qb, 0, none⟩ (.int .i64 (i' : Int))).setCell ⟨qb, 1, none⟩ (.int .i64 (j : Int))).setCell ⟨pb, 0, none⟩ (.int .i64 (i' : Int))).setCell ⟨pb, 1, none⟩ (.int .i64 (j : Int)))) := ((((HV1.out.st hqp (by rw [hpb]; exact Nat.le_refl _) (by omega) hgq 0 _).st hqp (by rw [hpb]; exact Nat.le_refl _) (by omega) hgq 1 _).st hqp (by rw [hpb]; exact Nat.le_refl _) (Nat.le_refl _) hgp 0 _).st hqp (by rw [hpb]; exact Nat.le_refl _) (Nat.le_refl _) hgp 1 _)
                have HPW : Hid (Bk ((((V1.setCell ⟨qb, 0, none⟩ (.int .i64 (i' : Int))).setCell ⟨qb, 1, none⟩ (.int .i64 (j : Int))).setCell ⟨pb, 0, none⟩ (.int .i64 (i' : Int))).setCell ⟨pb, 1, none⟩ (.int .i64 (j : Int))) pb 64 #[.int .i64 (i' : Int), .int .i64 (j : Int)]) := ((((VP1.out.far (by show pb ≠ qb; exact hpq) _).far (by show pb ≠ qb; exact hpq) _).st 0 _).st 1 _)
                have HNB : Hid (Bk (((((V1.setCell ⟨qb, 0, none⟩ (.int .i64 (i' : Int))).setCell ⟨qb, 1, none⟩ (.int .i64 (j : Int))).setCell ⟨pb, 0, none⟩ (.int .i64 (i' : Int))).setCell ⟨pb, 1, none⟩ (.int .i64 (j : Int))).alloc (.cells #[.int .i64 (i' : Int), .int .i64 (j : Int)] 64)) V1.heap.size 64 #[.int .i64 (i' : Int), .int .i64 (j : Int)]) := Bk.nq _ _ _ (by simp [World.setCell])
                have HPN : Hid (Pw () b i' j (l ++ [(i', j)])) := HW.out.snoc (by unfold Fol; omega) ⟨by have := HB.out; unfold Bnd at this; omega, by have := HB.out; unfold Bnd at this; omega⟩
                have HZ : Hid (pb + 1 ≤ (((((V1.setCell ⟨qb, 0, none⟩ (.int .i64 (i' : Int))).setCell ⟨qb, 1, none⟩ (.int .i64 (j : Int))).setCell ⟨pb, 0, none⟩ (.int .i64 (i' : Int))).setCell ⟨pb, 1, none⟩ (.int .i64 (j : Int))).alloc (.cells #[.int .i64 (i' : Int), .int .i64 (j : Int)] 64)).heap.size) := by show _ ≤ _; have := HIW.out.2.2.2; simp at *; omega
                have HL2 : Hid (i' ≤ n - 1 ∧ j ≤ m - 1) := by show _ ∧ _; rw [HNL.out.1, HNL.out.2.1]; omega
                have l63 : l.length ≤ 63 := by omega
                clear l2 bnm bmn
                go_wp2_with (at_builtin; refine list_appg _ rfl (.tmp 93) (.tmp 95) 30 64 (.agg #[.int .i64 0, .int .i64 0]) 2 16 Try.underlying30 info_pair rfl (by decide) rfl (pb + 1) (.slice (some ⟨g, 0, none⟩) l.length c) l.length (ps l) rfl (HIW.out.2.2.1.alloc _) ⟨V1.heap.size, 0, none⟩ 1 1 [.int .i64 (i' : Int), .int .i64 (j : Int)] rfl rfl (World.news_of_block (cs := #[.int .i64 (i' : Int), .int .i64 (j : Int)]) (t := 64) (fr := (0, 0)) HNB.out) (by simp [Value.oneCell']) (by omega) (by decide) HZ.out ?_; intro v' w6 hown6 hgr6 hat6)
                have HST : Hid (Rw2 q n m b w v' w6) := rw_step hpb hqp HL2.out.1 HL2.out.2 HPW.out HPN.out HIW.out hown6 hgr6 l1
                obtain ⟨g', c', rfl, _, _⟩ := prow_form (l := l ++ [(i', j)]) (by rw [ps_app]; exact hown6) (by omega)
                clear hown6 hgr6 hat6
                go_wp2
                go_roundw
                case rel => exact HST.out
                case measure => simp [ln]; omega
              · subst hmnl
                have q0 : ¬ i' < i := by have := HB.out; unfold Bnd at this; omega
                have q0d : decide (i' < i) = false := decide_eq_false q0
                have q1 : j < j' := by have := HB.out; unfold Bnd at this; omega
                have q1d : decide (j < j') = true := decide_eq_true q1
                have q9 : (j : Int) < (j' : Int) := by omega
                have q9n : j < j' := by omega
                have HIW : Hid (Iw q w pb g c l ((((V1.setCell ⟨qb, 0, none⟩ (.int .i64 (i' : Int))).setCell ⟨qb, 1, none⟩ (.int .i64 (j : Int))).setCell ⟨pb, 0, none⟩ (.int .i64 (i' : Int))).setCell ⟨pb, 1, none⟩ (.int .i64 (j : Int)))) := ((((HV1.out.st hqp (by rw [hpb]; exact Nat.le_refl _) (by omega) hgq 0 _).st hqp (by rw [hpb]; exact Nat.le_refl _) (by omega) hgq 1 _).st hqp (by rw [hpb]; exact Nat.le_refl _) (Nat.le_refl _) hgp 0 _).st hqp (by rw [hpb]; exact Nat.le_refl _) (Nat.le_refl _) hgp 1 _)
                have HPW : Hid (Bk ((((V1.setCell ⟨qb, 0, none⟩ (.int .i64 (i' : Int))).setCell ⟨qb, 1, none⟩ (.int .i64 (j : Int))).setCell ⟨pb, 0, none⟩ (.int .i64 (i' : Int))).setCell ⟨pb, 1, none⟩ (.int .i64 (j : Int))) pb 64 #[.int .i64 (i' : Int), .int .i64 (j : Int)]) := ((((VP1.out.far (by show pb ≠ qb; exact hpq) _).far (by show pb ≠ qb; exact hpq) _).st 0 _).st 1 _)
                have HNB : Hid (Bk (((((V1.setCell ⟨qb, 0, none⟩ (.int .i64 (i' : Int))).setCell ⟨qb, 1, none⟩ (.int .i64 (j : Int))).setCell ⟨pb, 0, none⟩ (.int .i64 (i' : Int))).setCell ⟨pb, 1, none⟩ (.int .i64 (j : Int))).alloc (.cells #[.int .i64 (i' : Int), .int .i64 (j : Int)] 64)) V1.heap.size 64 #[.int .i64 (i' : Int), .int .i64 (j : Int)]) := Bk.nq _ _ _ (by simp [World.setCell])
                have HPN : Hid (Pw () b i' j (l ++ [(i', j)])) := HW.out.snoc (by unfold Fol; omega) ⟨by have := HB.out; unfold Bnd at this; omega, by have := HB.out; unfold Bnd at this; omega⟩
                have HZ : Hid (pb + 1 ≤ (((((V1.setCell ⟨qb, 0, none⟩ (.int .i64 (i' : Int))).setCell ⟨qb, 1, none⟩ (.int .i64 (j : Int))).setCell ⟨pb, 0, none⟩ (.int .i64 (i' : Int))).setCell ⟨pb, 1, none⟩ (.int .i64 (j : Int))).alloc (.cells #[.int .i64 (i' : Int), .int .i64 (j : Int)] 64)).heap.size) := by show _ ≤ _; have := HIW.out.2.2.2; simp at *; omega
                have HL2 : Hid (i' ≤ n - 1 ∧ j ≤ m - 1) := by show _ ∧ _; rw [HNL.out.1, HNL.out.2.1]; omega
                have l63 : l.length ≤ 63 := by omega
                clear l2 bnm bmn
                go_wp2_with (at_builtin; refine list_appg _ rfl (.tmp 93) (.tmp 95) 30 64 (.agg #[.int .i64 0, .int .i64 0]) 2 16 Try.underlying30 info_pair rfl (by decide) rfl (pb + 1) (.slice (some ⟨g, 0, none⟩) l.length c) l.length (ps l) rfl (HIW.out.2.2.1.alloc _) ⟨V1.heap.size, 0, none⟩ 1 1 [.int .i64 (i' : Int), .int .i64 (j : Int)] rfl rfl (World.news_of_block (cs := #[.int .i64 (i' : Int), .int .i64 (j : Int)]) (t := 64) (fr := (0, 0)) HNB.out) (by simp [Value.oneCell']) (by omega) (by decide) HZ.out ?_; intro v' w6 hown6 hgr6 hat6)
                have HST : Hid (Rw2 q n m b w v' w6) := rw_step hpb hqp HL2.out.1 HL2.out.2 HPW.out HPN.out HIW.out hown6 hgr6 l1
                obtain ⟨g', c', rfl, _, _⟩ := prow_form (l := l ++ [(i', j)]) (by rw [ps_app]; exact hown6) (by omega)
                clear hown6 hgr6 hat6
                go_wp2
                go_roundw
                case rel => exact HST.out
                case measure => simp [ln]; omega
      · clear hne
        go_wp2_with fail
        go_at_call 34
        refine (n_any q 3 (by decide) (by decide) _ HIA.out.1).mono ?_
        rintro e v ⟨x, rfl, x0, x1, ho, hc⟩
        have HV : Hid (Iw q w pb g c l v) := HIA.out.ch ho hc hqp
        have VP : Hid (Bk v pb 64 #[.int .i64 (i : Int), .int .i64 (j : Int)]) := hc.bk BP.out (by omega)
        have VQ : Hid (Bk v qb 64 #[.int .i64 (i : Int), .int .i64 (j : Int)]) := hc.bk BQ.out (by omega)
        have hx3 : x = 0 ∨ x = 1 ∨ x = 2 := by omega
        clear ho hc c0 c1 x0 x1 pz
        try simp only [hqb]
        have HQB := Lib.hid hqb
        clear hqb
        have i31 : i ≤ 31 := by omega
        have j31 : j ≤ 31 := by omega
        have HX3 := Lib.hid hx3
        clear hx3
        go_upto_block 2 with fail
        go_cut [11] from 15 to 96 (fun s11 wx => ∃ (V : World) (qi qj : Nat), V = wx ∧ s11 = .pointer (some ⟨qb, 0, none⟩) ∧ Iw q w pb g c l wx ∧ Bk wx pb 64 #[.int .i64 (i : Int), .int .i64 (j : Int)] ∧ Bk wx qb 64 #[.int .i64 (qi : Int), .int .i64 (qj : Int)] ∧ Fol i j qi qj)
        case first =>
          have p0 := VP.out.cell 0
          have p1 := VP.out.cell 1
          have r0 := VQ.out.cell 0
          have r1 := VQ.out.cell 1
          have fq0 := VQ.out.fr 0
          have fq1 := VQ.out.fr 1
          simp only [List.getElem?_toArray, List.getElem?_cons_zero, List.getElem?_cons_succ] at p0 p1 r0 r1
          obtain ⟨i', hi'⟩ : ∃ k, i + 1 = k := ⟨_, rfl⟩
          obtain ⟨j', hj'⟩ : ∃ k, j + 1 = k := ⟨_, rfl⟩
          have hii : (i : Int) + 1 = (i' : Int) := by omega
          have hji : (j : Int) + 1 = (j' : Int) := by omega
          have hs1' : ∀ u, (v.setCell ⟨qb, 0, none⟩ u).cell? ⟨qb, 1, none⟩ = some (.int .i64 (j : Int)) := fun u => kp_st r1 (by decide) u
          have ST : Hid (∀ (k : Nat) (u : Value) (W : World), Iw q w pb g c l W → Iw q w pb g c l (W.setCell ⟨qb, k, none⟩ u)) := fun k u W h => h.st hqp (by rw [hpb]; exact Nat.le_refl _) (by omega) hgq k u
          have SP : Hid (∀ (k : Nat) (u : Value) (W : World), Bk W pb 64 #[.int .i64 (i : Int), .int .i64 (j : Int)] → Bk (W.setCell ⟨qb, k, none⟩ u) pb 64 #[.int .i64 (i : Int), .int .i64 (j : Int)]) := fun k u W h => h.far (by show pb ≠ qb; exact hpq) u
          have hx3 := HX3.out
          rcases hx3 with rfl | rfl | rfl
          · go_wp2
            go_meet
            exact ⟨_, i', j', rfl, rfl, ST.out _ _ _ (ST.out _ _ _ HV.out), SP.out _ _ _ (SP.out _ _ _ VP.out), (VQ.out.st 0 _).st 1 _, .inl ⟨hi'.symm, hj'.symm⟩⟩
          · go_wp2
            go_meet
            exact ⟨_, i', j, rfl, rfl, ST.out _ _ _ HV.out, SP.out _ _ _ VP.out, VQ.out.st 0 _, .inr (.inl ⟨hi'.symm, rfl⟩)⟩
          · go_wp2
            go_meet
            exact ⟨_, i, j', rfl, rfl, ST.out _ _ _ HV.out, SP.out _ _ _ VP.out, VQ.out.st 1 _, .inr (.inr ⟨rfl, hj'.symm⟩)⟩
        case rest =>
          obtain ⟨V1, qi, qj, hV1, rfl, hiw1, hp1, hq1, hf1⟩ := hcut
          subst hV1
          have HV1 := Lib.hid hiw1
          have VP1 := Lib.hid hp1
          have VQ1 := Lib.hid hq1
          have HF1 := Lib.hid hf1
          clear VP VQ HV HX3 hiw1 hp1 hq1 hf1
          obtain rfl : i = nl := by omega
          have p0 := VP1.out.cell 0
          have p1 := VP1.out.cell 1
          have r0 := VQ1.out.cell 0
          have r1 := VQ1.out.cell 1
          simp only [List.getElem?_toArray, List.getElem?_cons_zero, List.getElem?_cons_succ] at p0 p1 r0 r1
          have hs1 : ∀ k u, (V1.setCell ⟨qb, k, none⟩ u).cell? ⟨pb, 0, none⟩ = some (.int .i64 (i : Int)) := fun k u => kp_fb p0 hpq u
          have hs1' : ∀ k u, (V1.setCell ⟨qb, k, none⟩ u).cell? ⟨pb, 1, none⟩ = some (.int .i64 (j : Int)) := fun k u => kp_fb p1 hpq u
          have hs2 : ∀ k u k' u', ((V1.setCell ⟨qb, k, none⟩ u).setCell ⟨qb, k', none⟩ u').cell? ⟨pb, 0, none⟩ = some (.int .i64 (i : Int)) := fun k u k' u' => kp_fb (hs1 k u) hpq u'
          have hs2' : ∀ k u k' u', ((V1.setCell ⟨qb, k, none⟩ u).setCell ⟨qb, k', none⟩ u').cell? ⟨pb, 1, none⟩ = some (.int .i64 (j : Int)) := fun k u k' u' => kp_fb (hs1' k u) hpq u'
          have fp0 := VP1.out.fr 0
          have fp1 := VP1.out.fr 1
          have fq0 := VQ1.out.fr 0
          have fq1 := VQ1.out.fr 1
          obtain ⟨i', hi'⟩ : ∃ k, i + 1 = k := ⟨_, rfl⟩
          obtain ⟨j', hj'⟩ : ∃ k, j + 1 = k := ⟨_, rfl⟩
          have hii : (i : Int) + 1 = (i' : Int) := by omega
          have hji : (j : Int) + 1 = (j' : Int) := by omega
          have HI' := Lib.hid (And.intro hi' hj')
          have hf1 := HF1.out
          unfold Fol at hf1
          rcases (show (qi = i + 1 ∧ qj = j + 1) ∨ (qi = i + 1 ∧ qj = j) ∨ (qi = i ∧ qj = j + 1) by omega) with ⟨e1, e2⟩ | ⟨e1, e2⟩ | ⟨e1, e2⟩
          · obtain rfl : i' = qi := by have := HI'.out; omega
            obtain rfl : j' = qj := by have := HI'.out; omega
            clear HI' hf1
            clear e1 e2
            rcases Nat.lt_or_eq_of_le (show j' ≤ ml by omega) with hmml | hmml
            · have hmmli : (j' : Int) < (ml : Int) := by omega
              have q0 : i < i' := by have := HB.out; unfold Bnd at this; omega
              have q0d : decide (i < i') = true := decide_eq_true q0
              have q9 : (i : Int) < (i' : Int) := by omega
              have q9n : i < i' := by omega
              have HIW : Hid (Iw q w pb g c l ((((V1.setCell ⟨qb, 0, none⟩ (.int .i64 (i : Int))).setCell ⟨qb, 1, none⟩ (.int .i64 (j' : Int))).setCell ⟨pb, 0, none⟩ (.int .i64 (i : Int))).setCell ⟨pb, 1, none⟩ (.int .i64 (j' : Int)))) := ((((HV1.out.st hqp (by rw [hpb]; exact Nat.le_refl _) (by omega) hgq 0 _).st hqp (by rw [hpb]; exact Nat.le_refl _) (by omega) hgq 1 _).st hqp (by rw [hpb]; exact Nat.le_refl _) (Nat.le_refl _) hgp 0 _).st hqp (by rw [hpb]; exact Nat.le_refl _) (Nat.le_refl _) hgp 1 _)
              have HPW : Hid (Bk ((((V1.setCell ⟨qb, 0, none⟩ (.int .i64 (i : Int))).setCell ⟨qb, 1, none⟩ (.int .i64 (j' : Int))).setCell ⟨pb, 0, none⟩ (.int .i64 (i : Int))).setCell ⟨pb, 1, none⟩ (.int .i64 (j' : Int))) pb 64 #[.int .i64 (i : Int), .int .i64 (j' : Int)]) := ((((VP1.out.far (by show pb ≠ qb; exact hpq) _).far (by show pb ≠ qb; exact hpq) _).st 0 _).st 1 _)
              have HNB : Hid (Bk (((((V1.setCell ⟨qb, 0, none⟩ (.int .i64 (i : Int))).setCell ⟨qb, 1, none⟩ (.int .i64 (j' : Int))).setCell ⟨pb, 0, none⟩ (.int .i64 (i : Int))).setCell ⟨pb, 1, none⟩ (.int .i64 (j' : Int))).alloc (.cells #[.int .i64 (i : Int), .int .i64 (j' : Int)] 64)) V1.heap.size 64 #[.int .i64 (i : Int), .int .i64 (j' : Int)]) := Bk.nq _ _ _ (by simp [World.setCell])
              have HPN : Hid (Pw () b i j' (l ++ [(i, j')])) := HW.out.snoc (by unfold Fol; omega) ⟨by have := HB.out; unfold Bnd at this; omega, by have := HB.out; unfold Bnd at this; omega⟩
              have HZ : Hid (pb + 1 ≤ (((((V1.setCell ⟨qb, 0, none⟩ (.int .i64 (i : Int))).setCell ⟨qb, 1, none⟩ (.int .i64 (j' : Int))).setCell ⟨pb, 0, none⟩ (.int .i64 (i : Int))).setCell ⟨pb, 1, none⟩ (.int .i64 (j' : Int))).alloc (.cells #[.int .i64 (i : Int), .int .i64 (j' : Int)] 64)).heap.size) := by show _ ≤ _; have := HIW.out.2.2.2; simp at *; omega
              have HL2 : Hid (i ≤ n - 1 ∧ j' ≤ m - 1) := by show _ ∧ _; rw [HNL.out.1, HNL.out.2.1]; omega
              have l63 : l.length ≤ 63 := by omega
              clear l2 bnm bmn
              go_wp2_with (at_builtin; refine list_appg _ rfl (.tmp 93) (.tmp 95) 30 64 (.agg #[.int .i64 0, .int .i64 0]) 2 16 Try.underlying30 info_pair rfl (by decide) rfl (pb + 1) (.slice (some ⟨g, 0, none⟩) l.length c) l.length (ps l) rfl (HIW.out.2.2.1.alloc _) ⟨V1.heap.size, 0, none⟩ 1 1 [.int .i64 (i : Int), .int .i64 (j' : Int)] rfl rfl (World.news_of_block (cs := #[.int .i64 (i : Int), .int .i64 (j' : Int)]) (t := 64) (fr := (0, 0)) HNB.out) (by simp [Value.oneCell']) (by omega) (by decide) HZ.out ?_; intro v' w6 hown6 hgr6 hat6)
              have HST : Hid (Rw2 q n m b w v' w6) := rw_step hpb hqp HL2.out.1 HL2.out.2 HPW.out HPN.out HIW.out hown6 hgr6 l1
              obtain ⟨g', c', rfl, _, _⟩ := prow_form (l := l ++ [(i, j')]) (by rw [ps_app]; exact hown6) (by omega)
              clear hown6 hgr6 hat6
              go_wp2
              go_roundw
              case rel => exact HST.out
              case measure => simp [ln]; omega
            · subst hmml
              have q0 : i < i' := by have := HB.out; unfold Bnd at this; omega
              have q0d : decide (i < i') = true := decide_eq_true q0
              have q9 : (i : Int) < (i' : Int) := by omega
              have q9n : i < i' := by omega
              have HIW : Hid (Iw q w pb g c l ((((V1.setCell ⟨qb, 0, none⟩ (.int .i64 (i : Int))).setCell ⟨qb, 1, none⟩ (.int .i64 (j' : Int))).setCell ⟨pb, 0, none⟩ (.int .i64 (i : Int))).setCell ⟨pb, 1, none⟩ (.int .i64 (j' : Int)))) := ((((HV1.out.st hqp (by rw [hpb]; exact Nat.le_refl _) (by omega) hgq 0 _).st hqp (by rw [hpb]; exact Nat.le_refl _) (by omega) hgq 1 _).st hqp (by rw [hpb]; exact Nat.le_refl _) (Nat.le_refl _) hgp 0 _).st hqp (by rw [hpb]; exact Nat.le_refl _) (Nat.le_refl _) hgp 1 _)
              have HPW : Hid (Bk ((((V1.setCell ⟨qb, 0, none⟩ (.int .i64 (i : Int))).setCell ⟨qb, 1, none⟩ (.int .i64 (j' : Int))).setCell ⟨pb, 0, none⟩ (.int .i64 (i : Int))).setCell ⟨pb, 1, none⟩ (.int .i64 (j' : Int))) pb 64 #[.int .i64 (i : Int), .int .i64 (j' : Int)]) := ((((VP1.out.far (by show pb ≠ qb; exact hpq) _).far (by show pb ≠ qb; exact hpq) _).st 0 _).st 1 _)
              have HNB : Hid (Bk (((((V1.setCell ⟨qb, 0, none⟩ (.int .i64 (i : Int))).setCell ⟨qb, 1, none⟩ (.int .i64 (j' : Int))).setCell ⟨pb, 0, none⟩ (.int .i64 (i : Int))).setCell ⟨pb, 1, none⟩ (.int .i64 (j' : Int))).alloc (.cells #[.int .i64 (i : Int), .int .i64 (j' : Int)] 64)) V1.heap.size 64 #[.int .i64 (i : Int), .int .i64 (j' : Int)]) := Bk.nq _ _ _ (by simp [World.setCell])
              have HPN : Hid (Pw () b i j' (l ++ [(i, j')])) := HW.out.snoc (by unfold Fol; omega) ⟨by have := HB.out; unfold Bnd at this; omega, by have := HB.out; unfold Bnd at this; omega⟩
              have HZ : Hid (pb + 1 ≤ (((((V1.setCell ⟨qb, 0, none⟩ (.int .i64 (i : Int))).setCell ⟨qb, 1, none⟩ (.int .i64 (j' : Int))).setCell ⟨pb, 0, none⟩ (.int .i64 (i : Int))).setCell ⟨pb, 1, none⟩ (.int .i64 (j' : Int))).alloc (.cells #[.int .i64 (i : Int), .int .i64 (j' : Int)] 64)).heap.size) := by show _ ≤ _; have := HIW.out.2.2.2; simp at *; omega
              have HL2 : Hid (i ≤ n - 1 ∧ j' ≤ m - 1) := by show _ ∧ _; rw [HNL.out.1, HNL.out.2.1]; omega
              have l63 : l.length ≤ 63 := by omega
              clear l2 bnm bmn
              go_wp2_with (at_builtin; refine list_appg _ rfl (.tmp 93) (.tmp 95) 30 64 (.agg #[.int .i64 0, .int .i64 0]) 2 16 Try.underlying30 info_pair rfl (by decide) rfl (pb + 1) (.slice (some ⟨g, 0, none⟩) l.length c) l.length (ps l) rfl (HIW.out.2.2.1.alloc _) ⟨V1.heap.size, 0, none⟩ 1 1 [.int .i64 (i : Int), .int .i64 (j' : Int)] rfl rfl (World.news_of_block (cs := #[.int .i64 (i : Int), .int .i64 (j' : Int)]) (t := 64) (fr := (0, 0)) HNB.out) (by simp [Value.oneCell']) (by omega) (by decide) HZ.out ?_; intro v' w6 hown6 hgr6 hat6)
              have HST : Hid (Rw2 q n m b w v' w6) := rw_step hpb hqp HL2.out.1 HL2.out.2 HPW.out HPN.out HIW.out hown6 hgr6 l1
              obtain ⟨g', c', rfl, _, _⟩ := prow_form (l := l ++ [(i, j')]) (by rw [ps_app]; exact hown6) (by omega)
              clear hown6 hgr6 hat6
              go_wp2
              go_roundw
              case rel => exact HST.out
              case measure => simp [ln]; omega
          · obtain rfl : i' = qi := by have := HI'.out; omega
            obtain rfl : j = qj := by have := HI'.out; omega
            clear HI' hf1
            clear e1 e2
            rcases Nat.lt_or_eq_of_le (show j' ≤ ml by omega) with hmml | hmml
            · have hmmli : (j' : Int) < (ml : Int) := by omega
              have q0 : i < i' := by have := HB.out; unfold Bnd at this; omega
              have q0d : decide (i < i') = true := decide_eq_true q0
              have q9 : (i : Int) < (i' : Int) := by omega
              have q9n : i < i' := by omega
              have HIW : Hid (Iw q w pb g c l ((((V1.setCell ⟨qb, 0, none⟩ (.int .i64 (i : Int))).setCell ⟨qb, 1, none⟩ (.int .i64 (j' : Int))).setCell ⟨pb, 0, none⟩ (.int .i64 (i : Int))).setCell ⟨pb, 1, none⟩ (.int .i64 (j' : Int)))) := ((((HV1.out.st hqp (by rw [hpb]; exact Nat.le_refl _) (by omega) hgq 0 _).st hqp (by rw [hpb]; exact Nat.le_refl _) (by omega) hgq 1 _).st hqp (by rw [hpb]; exact Nat.le_refl _) (Nat.le_refl _) hgp 0 _).st hqp (by rw [hpb]; exact Nat.le_refl _) (Nat.le_refl _) hgp 1 _)
              have HPW : Hid (Bk ((((V1.setCell ⟨qb, 0, none⟩ (.int .i64 (i : Int))).setCell ⟨qb, 1, none⟩ (.int .i64 (j' : Int))).setCell ⟨pb, 0, none⟩ (.int .i64 (i : Int))).setCell ⟨pb, 1, none⟩ (.int .i64 (j' : Int))) pb 64 #[.int .i64 (i : Int), .int .i64 (j' : Int)]) := ((((VP1.out.far (by show pb ≠ qb; exact hpq) _).far (by show pb ≠ qb; exact hpq) _).st 0 _).st 1 _)
              have HNB : Hid (Bk (((((V1.setCell ⟨qb, 0, none⟩ (.int .i64 (i : Int))).setCell ⟨qb, 1, none⟩ (.int .i64 (j' : Int))).setCell ⟨pb, 0, none⟩ (.int .i64 (i : Int))).setCell ⟨pb, 1, none⟩ (.int .i64 (j' : Int))).alloc (.cells #[.int .i64 (i : Int), .int .i64 (j' : Int)] 64)) V1.heap.size 64 #[.int .i64 (i : Int), .int .i64 (j' : Int)]) := Bk.nq _ _ _ (by simp [World.setCell])
              have HPN : Hid (Pw () b i j' (l ++ [(i, j')])) := HW.out.snoc (by unfold Fol; omega) ⟨by have := HB.out; unfold Bnd at this; omega, by have := HB.out; unfold Bnd at this; omega⟩
              have HZ : Hid (pb + 1 ≤ (((((V1.setCell ⟨qb, 0, none⟩ (.int .i64 (i : Int))).setCell ⟨qb, 1, none⟩ (.int .i64 (j' : Int))).setCell ⟨pb, 0, none⟩ (.int .i64 (i : Int))).setCell ⟨pb, 1, none⟩ (.int .i64 (j' : Int))).alloc (.cells #[.int .i64 (i : Int), .int .i64 (j' : Int)] 64)).heap.size) := by show _ ≤ _; have := HIW.out.2.2.2; simp at *; omega
              have HL2 : Hid (i ≤ n - 1 ∧ j' ≤ m - 1) := by show _ ∧ _; rw [HNL.out.1, HNL.out.2.1]; omega
              have l63 : l.length ≤ 63 := by omega
              clear l2 bnm bmn
              go_wp2_with (at_builtin; refine list_appg _ rfl (.tmp 93) (.tmp 95) 30 64 (.agg #[.int .i64 0, .int .i64 0]) 2 16 Try.underlying30 info_pair rfl (by decide) rfl (pb + 1) (.slice (some ⟨g, 0, none⟩) l.length c) l.length (ps l) rfl (HIW.out.2.2.1.alloc _) ⟨V1.heap.size, 0, none⟩ 1 1 [.int .i64 (i : Int), .int .i64 (j' : Int)] rfl rfl (World.news_of_block (cs := #[.int .i64 (i : Int), .int .i64 (j' : Int)]) (t := 64) (fr := (0, 0)) HNB.out) (by simp [Value.oneCell']) (by omega) (by decide) HZ.out ?_; intro v' w6 hown6 hgr6 hat6)
              have HST : Hid (Rw2 q n m b w v' w6) := rw_step hpb hqp HL2.out.1 HL2.out.2 HPW.out HPN.out HIW.out hown6 hgr6 l1
              obtain ⟨g', c', rfl, _, _⟩ := prow_form (l := l ++ [(i, j')]) (by rw [ps_app]; exact hown6) (by omega)
              clear hown6 hgr6 hat6
              go_wp2
              go_roundw
              case rel => exact HST.out
              case measure => simp [ln]; omega
            · subst hmml
              have q0 : i < i' := by have := HB.out; unfold Bnd at this; omega
              have q0d : decide (i < i') = true := decide_eq_true q0
              have q9 : (i : Int) < (i' : Int) := by omega
              have q9n : i < i' := by omega
              have HIW : Hid (Iw q w pb g c l ((((V1.setCell ⟨qb, 0, none⟩ (.int .i64 (i : Int))).setCell ⟨qb, 1, none⟩ (.int .i64 (j' : Int))).setCell ⟨pb, 0, none⟩ (.int .i64 (i : Int))).setCell ⟨pb, 1, none⟩ (.int .i64 (j' : Int)))) := ((((HV1.out.st hqp (by rw [hpb]; exact Nat.le_refl _) (by omega) hgq 0 _).st hqp (by rw [hpb]; exact Nat.le_refl _) (by omega) hgq 1 _).st hqp (by rw [hpb]; exact Nat.le_refl _) (Nat.le_refl _) hgp 0 _).st hqp (by rw [hpb]; exact Nat.le_refl _) (Nat.le_refl _) hgp 1 _)
              have HPW : Hid (Bk ((((V1.setCell ⟨qb, 0, none⟩ (.int .i64 (i : Int))).setCell ⟨qb, 1, none⟩ (.int .i64 (j' : Int))).setCell ⟨pb, 0, none⟩ (.int .i64 (i : Int))).setCell ⟨pb, 1, none⟩ (.int .i64 (j' : Int))) pb 64 #[.int .i64 (i : Int), .int .i64 (j' : Int)]) := ((((VP1.out.far (by show pb ≠ qb; exact hpq) _).far (by show pb ≠ qb; exact hpq) _).st 0 _).st 1 _)
              have HNB : Hid (Bk (((((V1.setCell ⟨qb, 0, none⟩ (.int .i64 (i : Int))).setCell ⟨qb, 1, none⟩ (.int .i64 (j' : Int))).setCell ⟨pb, 0, none⟩ (.int .i64 (i : Int))).setCell ⟨pb, 1, none⟩ (.int .i64 (j' : Int))).alloc (.cells #[.int .i64 (i : Int), .int .i64 (j' : Int)] 64)) V1.heap.size 64 #[.int .i64 (i : Int), .int .i64 (j' : Int)]) := Bk.nq _ _ _ (by simp [World.setCell])
              have HPN : Hid (Pw () b i j' (l ++ [(i, j')])) := HW.out.snoc (by unfold Fol; omega) ⟨by have := HB.out; unfold Bnd at this; omega, by have := HB.out; unfold Bnd at this; omega⟩
              have HZ : Hid (pb + 1 ≤ (((((V1.setCell ⟨qb, 0, none⟩ (.int .i64 (i : Int))).setCell ⟨qb, 1, none⟩ (.int .i64 (j' : Int))).setCell ⟨pb, 0, none⟩ (.int .i64 (i : Int))).setCell ⟨pb, 1, none⟩ (.int .i64 (j' : Int))).alloc (.cells #[.int .i64 (i : Int), .int .i64 (j' : Int)] 64)).heap.size) := by show _ ≤ _; have := HIW.out.2.2.2; simp at *; omega
              have HL2 : Hid (i ≤ n - 1 ∧ j' ≤ m - 1) := by show _ ∧ _; rw [HNL.out.1, HNL.out.2.1]; omega
              have l63 : l.length ≤ 63 := by omega
              clear l2 bnm bmn
              go_wp2_with (at_builtin; refine list_appg _ rfl (.tmp 93) (.tmp 95) 30 64 (.agg #[.int .i64 0, .int .i64 0]) 2 16 Try.underlying30 info_pair rfl (by decide) rfl (pb + 1) (.slice (some ⟨g, 0, none⟩) l.length c) l.length (ps l) rfl (HIW.out.2.2.1.alloc _) ⟨V1.heap.size, 0, none⟩ 1 1 [.int .i64 (i : Int), .int .i64 (j' : Int)] rfl rfl (World.news_of_block (cs := #[.int .i64 (i : Int), .int .i64 (j' : Int)]) (t := 64) (fr := (0, 0)) HNB.out) (by simp [Value.oneCell']) (by omega) (by decide) HZ.out ?_; intro v' w6 hown6 hgr6 hat6)
              have HST : Hid (Rw2 q n m b w v' w6) := rw_step hpb hqp HL2.out.1 HL2.out.2 HPW.out HPN.out HIW.out hown6 hgr6 l1
              obtain ⟨g', c', rfl, _, _⟩ := prow_form (l := l ++ [(i, j')]) (by rw [ps_app]; exact hown6) (by omega)
              clear hown6 hgr6 hat6
              go_wp2
              go_roundw
              case rel => exact HST.out
              case measure => simp [ln]; omega
          · obtain rfl : i = qi := by have := HI'.out; omega
            obtain rfl : j' = qj := by have := HI'.out; omega
            clear HI' hf1
            clear e1 e2
            have q0 : ¬ i < i := by have := HB.out; unfold Bnd at this; omega
            have q0d : decide (i < i) = false := decide_eq_false q0
            have q1 : ¬ ml < j' := by have := HB.out; unfold Bnd at this; omega
            have q1d : decide (ml < j') = false := decide_eq_false q1
            have q2 : ¬ b < (i : Int) - (j' : Int) := by have := HB.out; unfold Bnd at this; omega
            have q2d : decide (b < (i : Int) - (j' : Int)) = false := decide_eq_false q2
            have q3 : ¬ b < (j' : Int) - (i : Int) := by have := HB.out; unfold Bnd at this; omega
            have q3d : decide (b < (j' : Int) - (i : Int)) = false := decide_eq_false q3
            have HIW : Hid (Iw q w pb g c l ((V1.setCell ⟨pb, 0, none⟩ (.int .i64 (i : Int))).setCell ⟨pb, 1, none⟩ (.int .i64 (j' : Int)))) := ((HV1.out.st hqp (by rw [hpb]; exact Nat.le_refl _) (Nat.le_refl _) hgp 0 _).st hqp (by rw [hpb]; exact Nat.le_refl _) (Nat.le_refl _) hgp 1 _)
            have HPW : Hid (Bk ((V1.setCell ⟨pb, 0, none⟩ (.int .i64 (i : Int))).setCell ⟨pb, 1, none⟩ (.int .i64 (j' : Int))) pb 64 #[.int .i64 (i : Int), .int .i64 (j' : Int)]) := ((VP1.out.st 0 _).st 1 _)
            have HNB : Hid (Bk (((V1.setCell ⟨pb, 0, none⟩ (.int .i64 (i : Int))).setCell ⟨pb, 1, none⟩ (.int .i64 (j' : Int))).alloc (.cells #[.int .i64 (i : Int), .int .i64 (j' : Int)] 64)) V1.heap.size 64 #[.int .i64 (i : Int), .int .i64 (j' : Int)]) := Bk.nq _ _ _ (by simp [World.setCell])
            have HPN : Hid (Pw () b i j' (l ++ [(i, j')])) := HW.out.snoc (by unfold Fol; omega) ⟨by have := HB.out; unfold Bnd at this; omega, by have := HB.out; unfold Bnd at this; omega⟩
            have HZ : Hid (pb + 1 ≤ (((V1.setCell ⟨pb, 0, none⟩ (.int .i64 (i : Int))).setCell ⟨pb, 1, none⟩ (.int .i64 (j' : Int))).alloc (.cells #[.int .i64 (i : Int), .int .i64 (j' : Int)] 64)).heap.size) := by show _ ≤ _; have := HIW.out.2.2.2; simp at *; omega
            have HL2 : Hid (i ≤ n - 1 ∧ j' ≤ m - 1) := by show _ ∧ _; rw [HNL.out.1, HNL.out.2.1]; omega
            have l63 : l.length ≤ 63 := by omega
            clear l2 bnm bmn
            go_wp2_with (at_builtin; refine list_appg _ rfl (.tmp 93) (.tmp 95) 30 64 (.agg #[.int .i64 0, .int .i64 0]) 2 16 Try.underlying30 info_pair rfl (by decide) rfl (pb + 1) (.slice (some ⟨g, 0, none⟩) l.length c) l.length (ps l) rfl (HIW.out.2.2.1.alloc _) ⟨V1.heap.size, 0, none⟩ 1 1 [.int .i64 (i : Int), .int .i64 (j' : Int)] rfl rfl (World.news_of_block (cs := #[.int .i64 (i : Int), .int .i64 (j' : Int)]) (t := 64) (fr := (0, 0)) HNB.out) (by simp [Value.oneCell']) (by omega) (by decide) HZ.out ?_; intro v' w6 hown6 hgr6 hat6)
            have HST : Hid (Rw2 q n m b w v' w6) := rw_step hpb hqp HL2.out.1 HL2.out.2 HPW.out HPN.out HIW.out hown6 hgr6 l1
            obtain ⟨g', c', rfl, _, _⟩ := prow_form (l := l ++ [(i, j')]) (by rw [ps_app]; exact hown6) (by omega)
            clear hown6 hgr6 hat6
            go_wp2
            go_roundw
            case rel => exact HST.out
            case measure => simp [ln]; omega
end Go.Proofs.Ytkjffielnmdpcaa.Wa
