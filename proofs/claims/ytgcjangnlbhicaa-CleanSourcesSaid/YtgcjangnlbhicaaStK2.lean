/- clean.Clean that refuses: some time has two readings. -/
import Derived.Test.YtgcjangnlbhicaaStK
namespace Go.Proofs.Ytgcjangnlbhicaa.St
open Go.ChangeShapes Go.WideShapes Go.RowKit Wo Sr Wi Rm Rg
set_option linter.unusedVariables false
def SomeTw (w : World) (e : Ending) (w' : World) : Prop := e = .returned (.tuple #[.slice none 0 0, .int .i64 14]) ∧ Bel w w'
set_option maxHeartbeats 8000000 in
set_option maxRecDepth 100000 in
theorem clean_twice (A : Option Addr) (c n : Nat) (l : List Rp) (hn : n ≤ 2000) (hv : Vrs l) (w : World) (hz : Zo w A n l) (hA : Nz A n c) (hr : ∃ i, i < (grs l).length ∧ 1 < ((grs l).getD i []).length) :
    Calls Try.prog 10 #[.slice A n c, .int .i64 6] w (SomeTw w) := by
  have hl := hz.1
  have HP : Hid (Pol 28 6) := pf_ok 6 (by decide) (by decide)
  have HLK : Hid (∀ (w : World) (h : Nat), w.heap[h]? = some (.map fns 6) → (Instr.lookup 49 (.map (some h)) (.int .i64 6) true).run Try.prog w = .ok (.tuple #[.func (.func 28) #[] #[], .bool true]) w) := fun w h hb => look_pf hb 6 (by decide) (by decide)
  have HRD : Hid (∀ W, Bel w W → Calls Try.prog 22 #[.slice A n c] W fun e w' => e = .returned (.int .i64 0) ∧ Bel W w') := fun W hW => readings_zo A c n l hn hv W (Zo.bel hz hW)
  have HGR : Hid (∀ W, Bel w W → Calls Try.prog 23 #[.slice A n c] W (SomeGr l W)) := fun W hW => groups_ok A c n l (by omega) W (Zo.bel hz hW) hA
  have HV := Lib.hid hv
  have HR6 := Lib.hid hr
  have HGL : Hid ((grs l).length ≤ 2000) := by have := uts_le l; rw [← uts_len] at this; show _ ≤ _; omega
  clear hz hA hv hr
  go_enter Try.func10, Try.ntmps10
  go_wp2_with fail
  go_at_call 21
  refine (policies_ok _).mono ?_
  rintro e w1 ⟨h, rfl, hm, hb1⟩
  have hlk := HLK.out w1 h hm
  have HB1 : Hid (Bel w w1) := by first | exact hb1 | exact (Bel.rf.drwN _).tr hb1
  clear hb1 hm HLK
  go_wp2_with fail
  go_at_call 22
  refine (HRD.out _ (by first | exact HB1.out | exact HB1.out.drwN _)).mono ?_
  rintro e w2 ⟨rfl, hb2⟩
  have HB2 : Hid (Bel w w2) := by first | exact HB1.out.tr hb2 | exact (HB1.out.drwN _).tr hb2
  clear hb2 hlk HRD
  go_wp2_with fail
  go_at_call 23
  refine (HGR.out _ (by first | exact HB2.out | exact HB2.out.drwN _)).mono ?_
  rintro e w3 ⟨AG, cG, k, rfl, hzg, hb3⟩
  have HB3 : Hid (Bel w w3) := by first | exact HB2.out.tr hb3 | exact (HB2.out.drwN _).tr hb3
  have HZ := Lib.hid hzg
  have hk : (grs l).length = k := hzg.1
  have kn : k ≤ 2000 := by have := HGL.out; omega
  have ki : (k : Int) ≤ 2000 := by omega
  have HK := Lib.hid hk
  clear hb3 hzg HGR hk
  go_wp2
  go_loopw [9, 28] (fun s9 s28 wr => ∃ (i : Nat) (V : World) (u : Value), V = wr ∧ u = s9 ∧ i ≤ k ∧ s28 = .int .i64 (i : Int) ∧ wr.ownsRow w3.heap.size 28 2 s9 i (rs ((cln 6 l).take i)) ∧ Bel w3 wr ∧ ∀ j, j < i → ((grs l).getD j []).length ≤ 1) (fun _ s28 _ => k - (intOf s28).toNat)
  case atStart => exact ⟨0, _, _, rfl, rfl, by omega, rfl, World.ownsRow_nil _ _ _ _, by first | exact Bel.rf | exact Bel.rf.drwN _, fun j hj => by omega⟩
  case round =>
    obtain ⟨i, wr, u, hwr, hu, hik, rfl, ho, hb, hon⟩ := hrel
    subst hwr
    subst hu
    have HO := Lib.hid ho
    have HB := Lib.hid hb
    have HON := Lib.hid hon
    clear ho hb hon
    rcases Nat.lt_or_ge i k with hlt | hge
    · obtain ⟨q0, e, hq0, hc⟩ := (HZ.out.bel HB.out).2 (by omega)
      subst e
      obtain ⟨ad, m, c0, hm, hzo⟩ := hc i hlt
      obtain ⟨q, hq⟩ : ∃ q, (grs l).getD i [] = q := ⟨_, rfl⟩
      have hin : q ∈ grs l := by rw [← hq]; exact grs_at (by rw [HK.out]; exact hlt)
      obtain ⟨hvl, hql⟩ := grs_vls HV.out hin
      have HNX := Lib.hid (cln_next 6 l i (by rw [HK.out]; exact hlt))
      rw [hq] at hzo HNX
      have hqm : q.length = m := hzo.1
      have HQ : Hid (((grs l).getD i []).length = m) := by show _ = _; rw [hq]; exact hqm
      obtain ⟨g, o, e, hg, hcc⟩ := hzo.2 hm
      cases e
      obtain ⟨c1, _⟩ := hcc 0 hm
      simp only [Nat.zero_mul, Nat.add_zero] at c1
      obtain ⟨vv, hvv⟩ : ∃ x, val 6 q = x := ⟨_, rfl⟩
      obtain ⟨t0, ht0⟩ : ∃ x, tm q 0 = x := ⟨_, rfl⟩
      rw [hvv, ht0] at HNX
      rw [ht0] at c1
      have HCA : Hid (∀ W, Bel wr W → Calls Try.prog 28 #[.slice (some ⟨g, o, none⟩) m m] W fun e w' => e = .returned (.int .i64 vv) ∧ Bel W w') := fun W hW => by
        have h := HP.out ⟨g, o, none⟩ m m q W (hzo.bel hW) hm (by omega) hvl
        rw [hvv] at h
        exact h
      have m0 : (0 : Int) < (m : Int) := by omega
      have mi : (m : Int) ≤ 2000 := by omega
      have ii : (i : Int) < (k : Int) := by omega
      have sz : w3.heap.size ≤ wr.heap.size := HB.out.size
      clear hc hzo hin hvl hql hcc hvv ht0 hq hqm
      rcases Nat.lt_or_ge 1 m with hm1 | hm1
      · have m1 : (m : Int) > 1 := by omega
        have m1' : decide ((m : Int) > 1) = true := decide_eq_true m1
        go_wp2
        go_ret2
        exact ⟨rfl, by first | exact HB3.out.tr HB.out | exact (HB3.out.tr HB.out).drwN _⟩
      · have m1 : ¬ (m : Int) > 1 := by omega
        have m1' : decide ((m : Int) > 1) = false := decide_eq_false m1
        go_wp2
        go_region_law (first
          | (go_simp; go_at_call 28; refine (HCA.out _ (by repeat (first | exact Bel.rf | (with_reducible refine Bel.drwN ?_ _) | (with_reducible refine Bel.drw ?_)))).mono ?_; rintro e w4 ⟨rfl, hb4⟩; have c4 := hb4.kp (p := ⟨g, o, none⟩) c1)
          | (refine step_appr _ rfl (.tmp 39) (.tmp 48) rfl w3.heap.size u i ((cln 6 l).take i) rfl (own_bel HO.out (Bel.al (Bel.tr (by repeat (first | exact Bel.rf | (with_reducible refine Bel.drwN ?_ _) | (with_reducible refine Bel.drw ?_))) hb4) _)) w4.heap.size 1 (t0, vv) rfl (by first | exact Bk.nw _ _ _ | exact Bk.nq _ _ _ (by simp)) (by omega) (by have := hb4.size; simp at *; omega) ?_; intro v' w5 h5 hg5 hat5))
        all_goals
          have HBW4 : Hid (Bel wr w4) := Bel.tr (by repeat (first | exact Bel.rf | (with_reducible refine Bel.drwN ?_ _) | (with_reducible refine Bel.drw ?_))) hb4
          have HO5 : Hid (w5.ownsRow w3.heap.size 28 2 v' (i + 1) (rs ((cln 6 l).take (i + 1)))) := by rw [HNX.out]; exact h5
          have HB5 : Hid (Bel w3 w5) := Below.grown ((HB.out.tr HBW4.out).al _) hg5 ((HB.out.tr HBW4.out).al _).size (fun b e => (HO.out.lt b e).1)
          clear h5 hg5 hat5 hb4
          go_wp2
          go_roundw
          case rel => exact ⟨i + 1, _, _, rfl, rfl, by omega, by go_num, HO5.out, (by first | exact HB5.out | exact HB5.out.drwN _), fun j hj => (by rcases Nat.lt_or_ge j i with h | h; exact HON.out j h; (rw [show j = i by omega, HQ.out]; omega))⟩
          case measure => simp [intOf]; omega
    · exfalso
      obtain ⟨j, hj, h⟩ := HR6.out
      have := HON.out j (by have := HK.out; omega)
      omega
end Go.Proofs.Ytgcjangnlbhicaa.St
