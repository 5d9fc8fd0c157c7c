/- clean.Clean with a known policy. -/
import Derived.Test.YtgcjangnlbhicaaStO
import Derived.Test.YtgcjangnlbhicaaStQ
import Derived.Deep.RegionLaw
namespace Go.Proofs.Ytgcjangnlbhicaa.St
open Go.ChangeShapes Go.WideShapes Go.RowKit Wo Sr Wi Rm Rg
set_option linter.unusedVariables false
/-- the cleaned readings -/
def cln (p : Int) (l : List Rp) : List Rp := (grs l).map fun q => (tm q 0, val p q)
theorem cln_len (p : Int) (l : List Rp) : (cln p l).length = (grs l).length := by unfold cln; rw [List.length_map]
theorem cln_next (p : Int) (l : List Rp) (i : Nat) (h : i < (grs l).length) : (cln p l).take (i + 1) = (cln p l).take i ++ [(tm ((grs l).getD i []) 0, val p ((grs l).getD i []))] := by
  have e : (cln p l)[i]? = some (tm ((grs l).getD i []) 0, val p ((grs l).getD i [])) := by
    unfold cln
    rw [List.getElem?_map, List.getElem?_eq_getElem h, List.getD_eq_getElem?_getD, List.getElem?_eq_getElem h]
    rfl
  rw [List.take_add_one, e]
  rfl
theorem grs_vls {l : List Rp} (hv : Vrs l) {q : List Rp} (hq : q ∈ grs l) : Vls q ∧ q.length ≤ l.length := by
  obtain ⟨t, ht, rfl⟩ := List.mem_map.1 hq
  refine ⟨fun j hj => ?_, List.length_filter_le _ _⟩
  have hm : rd (fl l t) j ∈ fl l t := at_mem hj
  obtain ⟨h1, _⟩ := List.mem_filter.1 hm
  obtain ⟨k, hk, e⟩ := mem_at h1
  have := hv k hk
  rw [vl_rd] at this ⊢
  rw [e] at this
  exact this.2.2
theorem grs_at {l : List Rp} {i : Nat} (h : i < (grs l).length) : (grs l).getD i [] ∈ grs l := by
  rw [List.getD_eq_getElem?_getD, List.getElem?_eq_getElem h]; exact List.getElem_mem h
theorem uts_len (l : List Rp) : (grs l).length = (uts l).length := by unfold grs; rw [List.length_map]
theorem ins_len (t : Int) : ∀ L : List Int, (ins t L).length ≤ L.length + 1
  | [] => by simp [ins]
  | a :: L => by
    unfold ins
    split
    · simp
    · split
      · simp
      · have := ins_len t L; simp; exact this
theorem uts_le (l : List Rp) : (uts l).length ≤ l.length := by
  induction l with
  | nil => simp [uts]
  | cons p l ih => show (ins p.1 (uts l)).length ≤ _; have := ins_len p.1 (uts l); simp; omega
theorem own_mono {w : World} {a b size n : Nat} {e : TypeId} {v : Value} {xs : List Value} (h : w.ownsRow b e size v n xs) (hab : a ≤ b) : w.ownsRow a e size v n xs :=
  ⟨h.1, h.2.imp id fun ⟨g, c, cur, h1, h2, h3⟩ => ⟨g, c, cur, h1, Nat.le_trans hab h2, h3⟩⟩
def SomeCl (p : Int) (l : List Rp) (w : World) (e : Ending) (w' : World) : Prop := ∃ v, e = .returned (.tuple #[v, .int .i64 0]) ∧ w'.ownsRow w.heap.size 28 2 v (cln p l).length (rs (cln p l)) ∧ Bel w w'
set_option maxHeartbeats 8000000 in
set_option maxRecDepth 100000 in
theorem clean_ok1 (A : Option Addr) (c n : Nat) (l : List Rp) (hn : n ≤ 2000) (hv : Vrs l) (w : World) (hz : Zo w A n l) (hA : Nz A n c) (hr : (1 : Int) = 6 → ∀ q ∈ grs l, q.length ≤ 1) :
    Calls Try.prog 10 #[.slice A n c, .int .i64 1] w (SomeCl 1 l w) := by
  have hl := hz.1
  have HP : Hid (Pol 28 1) := pf_ok 1 (by decide) (by decide)
  have HLK : Hid (∀ (w : World) (h : Nat), w.heap[h]? = some (.map fns 6) → (Instr.lookup 49 (.map (some h)) (.int .i64 1) true).run Try.prog w = .ok (.tuple #[.func (.func 28) #[] #[], .bool true]) w) := fun w h hb => look_pf hb 1 (by decide) (by decide)
  have HRD : Hid (∀ W, Bel w W → Calls Try.prog 22 #[.slice A n c] W fun e w' => e = .returned (.int .i64 0) ∧ Bel W w') := fun W hW => readings_zo A c n l hn hv W (Zo.bel hz hW)
  have HGR : Hid (∀ W, Bel w W → Calls Try.prog 23 #[.slice A n c] W (SomeGr l W)) := fun W hW => groups_ok A c n l (by omega) W (Zo.bel hz hW) hA
  have HV := Lib.hid hv
  have HGL : Hid ((grs l).length ≤ 2000) := by have := uts_le l; rw [← uts_len] at this; show _ ≤ _; omega
  clear hz hA hv hr
  go_enter Try.func10, Try.ntmps10
  go_wp2_with fail
  go_at_call 21
  refine (policies_ok _).mono ?_
  rintro e w1 ⟨h, rfl, hm, hb1⟩
  have hlk := HLK.out w1 h hm
  have HB1 : Hid (Bel w w1) := by first | exact hb1 | exact (Bel.rf.drwN _).tr hb1
  clear hb1 hm HLK
  go_wp2_with fail
  go_at_call 22
  refine (HRD.out _ (by first | exact HB1.out | exact HB1.out.drwN _)).mono ?_
  rintro e w2 ⟨rfl, hb2⟩
  have HB2 : Hid (Bel w w2) := by first | exact HB1.out.tr hb2 | exact (HB1.out.drwN _).tr hb2
  clear hb2 hlk HRD
  go_wp2_with fail
  go_at_call 23
  refine (HGR.out _ (by first | exact HB2.out | exact HB2.out.drwN _)).mono ?_
  rintro e w3 ⟨AG, cG, k, rfl, hzg, hb3⟩
  have HB3 : Hid (Bel w w3) := by first | exact HB2.out.tr hb3 | exact (HB2.out.drwN _).tr hb3
  have HZ := Lib.hid hzg
  have hk : (grs l).length = k := hzg.1
  have kn : k ≤ 2000 := by have := HGL.out; omega
  have ki : (k : Int) ≤ 2000 := by omega
  have HK := Lib.hid hk
  clear hb3 hzg HGR hk
  go_wp2
  go_loopw [9, 28] (fun s9 s28 wr => ∃ (i : Nat) (V : World) (u : Value), V = wr ∧ u = s9 ∧ i ≤ k ∧ s28 = .int .i64 (i : Int) ∧ wr.ownsRow w3.heap.size 28 2 s9 i (rs ((cln 1 l).take i)) ∧ Bel w3 wr) (fun _ s28 _ => k - (intOf s28).toNat)
  case atStart => exact ⟨0, _, _, rfl, rfl, by omega, rfl, World.ownsRow_nil _ _ _ _, by first | exact Bel.rf | exact Bel.rf.drwN _⟩
  case round =>
    obtain ⟨i, wr, u, hwr, hu, hik, rfl, ho, hb⟩ := hrel
    subst hwr
    subst hu
    have HO := Lib.hid ho
    have HB := Lib.hid hb
    clear ho hb
    rcases Nat.lt_or_ge i k with hlt | hge
    · obtain ⟨q0, e, hq0, hc⟩ := (HZ.out.bel HB.out).2 (by omega)
      subst e
      obtain ⟨ad, m, c0, hm, hzo⟩ := hc i hlt
      obtain ⟨q, hq⟩ : ∃ q, (grs l).getD i [] = q := ⟨_, rfl⟩
      have hin : q ∈ grs l := by rw [← hq]; exact grs_at (by rw [HK.out]; exact hlt)
      obtain ⟨hvl, hql⟩ := grs_vls HV.out hin
      have HNX := Lib.hid (cln_next 1 l i (by rw [HK.out]; exact hlt))
      rw [hq] at hzo HNX
      have hqm : q.length = m := hzo.1
      obtain ⟨g, o, e, hg, hcc⟩ := hzo.2 hm
      cases e
      obtain ⟨c1, _⟩ := hcc 0 hm
      simp only [Nat.zero_mul, Nat.add_zero] at c1
      obtain ⟨vv, hvv⟩ : ∃ x, val 1 q = x := ⟨_, rfl⟩
      obtain ⟨t0, ht0⟩ : ∃ x, tm q 0 = x := ⟨_, rfl⟩
      rw [hvv, ht0] at HNX
      rw [ht0] at c1
      have HCA : Hid (∀ W, Bel wr W → Calls Try.prog 28 #[.slice (some ⟨g, o, none⟩) m m] W fun e w' => e = .returned (.int .i64 vv) ∧ Bel W w') := fun W hW => by
        have h := HP.out ⟨g, o, none⟩ m m q W (hzo.bel hW) hm (by omega) hvl
        rw [hvv] at h
        exact h
      have m0 : (0 : Int) < (m : Int) := by omega
      have mi : (m : Int) ≤ 2000 := by omega
      have ii : (i : Int) < (k : Int) := by omega
      have sz : w3.heap.size ≤ wr.heap.size := HB.out.size
      clear hc hzo hin hvl hql hcc hvv ht0 hq hqm
      go_wp2
      go_region_law (first
        | (go_simp; go_at_call 28; refine (HCA.out _ (by repeat (first | exact Bel.rf | (with_reducible refine Bel.drwN ?_ _) | (with_reducible refine Bel.drw ?_)))).mono ?_; rintro e w4 ⟨rfl, hb4⟩; have c4 := hb4.kp (p := ⟨g, o, none⟩) c1)
        | (refine step_appr _ rfl (.tmp 39) (.tmp 48) rfl w3.heap.size u i ((cln 1 l).take i) rfl (own_bel HO.out (Bel.al (Bel.tr (by repeat (first | exact Bel.rf | (with_reducible refine Bel.drwN ?_ _) | (with_reducible refine Bel.drw ?_))) hb4) _)) w4.heap.size 1 (t0, vv) rfl (by first | exact Bk.nw _ _ _ | exact Bk.nq _ _ _ (by simp)) (by omega) (by have := hb4.size; simp at *; omega) ?_; intro v' w5 h5 hg5 hat5))
      all_goals
        have HBW4 : Hid (Bel wr w4) := Bel.tr (by repeat (first | exact Bel.rf | (with_reducible refine Bel.drwN ?_ _) | (with_reducible refine Bel.drw ?_))) hb4
        have HO5 : Hid (w5.ownsRow w3.heap.size 28 2 v' (i + 1) (rs ((cln 1 l).take (i + 1)))) := by rw [HNX.out]; exact h5
        have HB5 : Hid (Bel w3 w5) := Below.grown ((HB.out.tr HBW4.out).al _) hg5 ((HB.out.tr HBW4.out).al _).size (fun b e => (HO.out.lt b e).1)
        clear h5 hg5 hat5 hb4
        go_wp2
        go_roundw
        case rel => exact ⟨i + 1, _, _, rfl, rfl, by omega, by go_num, HO5.out, by first | exact HB5.out | exact HB5.out.drwN _⟩
        case measure => simp [intOf]; omega
    · obtain rfl : i = k := by omega
      have HO2 := HO.out
      rw [List.take_of_length_le (by rw [cln_len, HK.out]; exact Nat.le_refl _)] at HO2
      have HO3 : Hid (wr.ownsRow w.heap.size 28 2 u (cln 1 l).length (rs (cln 1 l))) := by
        rw [cln_len, HK.out]
        exact own_mono HO2 HB3.out.size
      clear HO2
      go_wp2
      go_ret2
      exact ⟨u, rfl, HO3.out, by first | exact HB3.out.tr HB.out | exact (HB3.out.tr HB.out).drwN _⟩
set_option maxHeartbeats 8000000 in
set_option maxRecDepth 100000 in
theorem clean_ok2 (A : Option Addr) (c n : Nat) (l : List Rp) (hn : n ≤ 2000) (hv : Vrs l) (w : World) (hz : Zo w A n l) (hA : Nz A n c) (hr : (2 : Int) = 6 → ∀ q ∈ grs l, q.length ≤ 1) :
    Calls Try.prog 10 #[.slice A n c, .int .i64 2] w (SomeCl 2 l w) := by
  have hl := hz.1
  have HP : Hid (Pol 29 2) := pf_ok 2 (by decide) (by decide)
  have HLK : Hid (∀ (w : World) (h : Nat), w.heap[h]? = some (.map fns 6) → (Instr.lookup 49 (.map (some h)) (.int .i64 2) true).run Try.prog w = .ok (.tuple #[.func (.func 29) #[] #[], .bool true]) w) := fun w h hb => look_pf hb 2 (by decide) (by decide)
  have HRD : Hid (∀ W, Bel w W → Calls Try.prog 22 #[.slice A n c] W fun e w' => e = .returned (.int .i64 0) ∧ Bel W w') := fun W hW => readings_zo A c n l hn hv W (Zo.bel hz hW)
  have HGR : Hid (∀ W, Bel w W → Calls Try.prog 23 #[.slice A n c] W (SomeGr l W)) := fun W hW => groups_ok A c n l (by omega) W (Zo.bel hz hW) hA
  have HV := Lib.hid hv
  have HGL : Hid ((grs l).length ≤ 2000) := by have := uts_le l; rw [← uts_len] at this; show _ ≤ _; omega
  clear hz hA hv hr
  go_enter Try.func10, Try.ntmps10
  go_wp2_with fail
  go_at_call 21
  refine (policies_ok _).mono ?_
  rintro e w1 ⟨h, rfl, hm, hb1⟩
  have hlk := HLK.out w1 h hm
  have HB1 : Hid (Bel w w1) := by first | exact hb1 | exact (Bel.rf.drwN _).tr hb1
  clear hb1 hm HLK
  go_wp2_with fail
  go_at_call 22
  refine (HRD.out _ (by first | exact HB1.out | exact HB1.out.drwN _)).mono ?_
  rintro e w2 ⟨rfl, hb2⟩
  have HB2 : Hid (Bel w w2) := by first | exact HB1.out.tr hb2 | exact (HB1.out.drwN _).tr hb2
  clear hb2 hlk HRD
  go_wp2_with fail
  go_at_call 23
  refine (HGR.out _ (by first | exact HB2.out | exact HB2.out.drwN _)).mono ?_
  rintro e w3 ⟨AG, cG, k, rfl, hzg, hb3⟩
  have HB3 : Hid (Bel w w3) := by first | exact HB2.out.tr hb3 | exact (HB2.out.drwN _).tr hb3
  have HZ := Lib.hid hzg
  have hk : (grs l).length = k := hzg.1
  have kn : k ≤ 2000 := by have := HGL.out; omega
  have ki : (k : Int) ≤ 2000 := by omega
  have HK := Lib.hid hk
  clear hb3 hzg HGR hk
  go_wp2
  go_loopw [9, 28] (fun s9 s28 wr => ∃ (i : Nat) (V : World) (u : Value), V = wr ∧ u = s9 ∧ i ≤ k ∧ s28 = .int .i64 (i : Int) ∧ wr.ownsRow w3.heap.size 28 2 s9 i (rs ((cln 2 l).take i)) ∧ Bel w3 wr) (fun _ s28 _ => k - (intOf s28).toNat)
  case atStart => exact ⟨0, _, _, rfl, rfl, by omega, rfl, World.ownsRow_nil _ _ _ _, by first | exact Bel.rf | exact Bel.rf.drwN _⟩
  case round =>
    obtain ⟨i, wr, u, hwr, hu, hik, rfl, ho, hb⟩ := hrel
    subst hwr
    subst hu
    have HO := Lib.hid ho
    have HB := Lib.hid hb
    clear ho hb
    rcases Nat.lt_or_ge i k with hlt | hge
    · obtain ⟨q0, e, hq0, hc⟩ := (HZ.out.bel HB.out).2 (by omega)
      subst e
      obtain ⟨ad, m, c0, hm, hzo⟩ := hc i hlt
      obtain ⟨q, hq⟩ : ∃ q, (grs l).getD i [] = q := ⟨_, rfl⟩
      have hin : q ∈ grs l := by rw [← hq]; exact grs_at (by rw [HK.out]; exact hlt)
      obtain ⟨hvl, hql⟩ := grs_vls HV.out hin
      have HNX := Lib.hid (cln_next 2 l i (by rw [HK.out]; exact hlt))
      rw [hq] at hzo HNX
      have hqm : q.length = m := hzo.1
      obtain ⟨g, o, e, hg, hcc⟩ := hzo.2 hm
      cases e
      obtain ⟨c1, _⟩ := hcc 0 hm
      simp only [Nat.zero_mul, Nat.add_zero] at c1
      obtain ⟨vv, hvv⟩ : ∃ x, val 2 q = x := ⟨_, rfl⟩
      obtain ⟨t0, ht0⟩ : ∃ x, tm q 0 = x := ⟨_, rfl⟩
      rw [hvv, ht0] at HNX
      rw [ht0] at c1
      have HCA : Hid (∀ W, Bel wr W → Calls Try.prog 29 #[.slice (some ⟨g, o, none⟩) m m] W fun e w' => e = .returned (.int .i64 vv) ∧ Bel W w') := fun W hW => by
        have h := HP.out ⟨g, o, none⟩ m m q W (hzo.bel hW) hm (by omega) hvl
        rw [hvv] at h
        exact h
      have m0 : (0 : Int) < (m : Int) := by omega
      have mi : (m : Int) ≤ 2000 := by omega
      have ii : (i : Int) < (k : Int) := by omega
      have sz : w3.heap.size ≤ wr.heap.size := HB.out.size
      clear hc hzo hin hvl hql hcc hvv ht0 hq hqm
      go_wp2
      go_region_law (first
        | (go_simp; go_at_call 29; refine (HCA.out _ (by repeat (first | exact Bel.rf | (with_reducible refine Bel.drwN ?_ _) | (with_reducible refine Bel.drw ?_)))).mono ?_; rintro e w4 ⟨rfl, hb4⟩; have c4 := hb4.kp (p := ⟨g, o, none⟩) c1)
        | (refine step_appr _ rfl (.tmp 39) (.tmp 48) rfl w3.heap.size u i ((cln 2 l).take i) rfl (own_bel HO.out (Bel.al (Bel.tr (by repeat (first | exact Bel.rf | (with_reducible refine Bel.drwN ?_ _) | (with_reducible refine Bel.drw ?_))) hb4) _)) w4.heap.size 1 (t0, vv) rfl (by first | exact Bk.nw _ _ _ | exact Bk.nq _ _ _ (by simp)) (by omega) (by have := hb4.size; simp at *; omega) ?_; intro v' w5 h5 hg5 hat5))
      all_goals
        have HBW4 : Hid (Bel wr w4) := Bel.tr (by repeat (first | exact Bel.rf | (with_reducible refine Bel.drwN ?_ _) | (with_reducible refine Bel.drw ?_))) hb4
        have HO5 : Hid (w5.ownsRow w3.heap.size 28 2 v' (i + 1) (rs ((cln 2 l).take (i + 1)))) := by rw [HNX.out]; exact h5
        have HB5 : Hid (Bel w3 w5) := Below.grown ((HB.out.tr HBW4.out).al _) hg5 ((HB.out.tr HBW4.out).al _).size (fun b e => (HO.out.lt b e).1)
        clear h5 hg5 hat5 hb4
        go_wp2
        go_roundw
        case rel => exact ⟨i + 1, _, _, rfl, rfl, by omega, by go_num, HO5.out, by first | exact HB5.out | exact HB5.out.drwN _⟩
        case measure => simp [intOf]; omega
    · obtain rfl : i = k := by omega
      have HO2 := HO.out
      rw [List.take_of_length_le (by rw [cln_len, HK.out]; exact Nat.le_refl _)] at HO2
      have HO3 : Hid (wr.ownsRow w.heap.size 28 2 u (cln 2 l).length (rs (cln 2 l))) := by
        rw [cln_len, HK.out]
        exact own_mono HO2 HB3.out.size
      clear HO2
      go_wp2
      go_ret2
      exact ⟨u, rfl, HO3.out, by first | exact HB3.out.tr HB.out | exact (HB3.out.tr HB.out).drwN _⟩
set_option maxHeartbeats 8000000 in
set_option maxRecDepth 100000 in
theorem clean_ok3 (A : Option Addr) (c n : Nat) (l : List Rp) (hn : n ≤ 2000) (hv : Vrs l) (w : World) (hz : Zo w A n l) (hA : Nz A n c) (hr : (3 : Int) = 6 → ∀ q ∈ grs l, q.length ≤ 1) :
    Calls Try.prog 10 #[.slice A n c, .int .i64 3] w (SomeCl 3 l w) := by
  have hl := hz.1
  have HP : Hid (Pol 30 3) := pf_ok 3 (by decide) (by decide)
  have HLK : Hid (∀ (w : World) (h : Nat), w.heap[h]? = some (.map fns 6) → (Instr.lookup 49 (.map (some h)) (.int .i64 3) true).run Try.prog w = .ok (.tuple #[.func (.func 30) #[] #[], .bool true]) w) := fun w h hb => look_pf hb 3 (by decide) (by decide)
  have HRD : Hid (∀ W, Bel w W → Calls Try.prog 22 #[.slice A n c] W fun e w' => e = .returned (.int .i64 0) ∧ Bel W w') := fun W hW => readings_zo A c n l hn hv W (Zo.bel hz hW)
  have HGR : Hid (∀ W, Bel w W → Calls Try.prog 23 #[.slice A n c] W (SomeGr l W)) := fun W hW => groups_ok A c n l (by omega) W (Zo.bel hz hW) hA
  have HV := Lib.hid hv
  have HGL : Hid ((grs l).length ≤ 2000) := by have := uts_le l; rw [← uts_len] at this; show _ ≤ _; omega
  clear hz hA hv hr
  go_enter Try.func10, Try.ntmps10
  go_wp2_with fail
  go_at_call 21
  refine (policies_ok _).mono ?_
  rintro e w1 ⟨h, rfl, hm, hb1⟩
  have hlk := HLK.out w1 h hm
  have HB1 : Hid (Bel w w1) := by first | exact hb1 | exact (Bel.rf.drwN _).tr hb1
  clear hb1 hm HLK
  go_wp2_with fail
  go_at_call 22
  refine (HRD.out _ (by first | exact HB1.out | exact HB1.out.drwN _)).mono ?_
  rintro e w2 ⟨rfl, hb2⟩
  have HB2 : Hid (Bel w w2) := by first | exact HB1.out.tr hb2 | exact (HB1.out.drwN _).tr hb2
  clear hb2 hlk HRD
  go_wp2_with fail
  go_at_call 23
  refine (HGR.out _ (by first | exact HB2.out | exact HB2.out.drwN _)).mono ?_
  rintro e w3 ⟨AG, cG, k, rfl, hzg, hb3⟩
  have HB3 : Hid (Bel w w3) := by first | exact HB2.out.tr hb3 | exact (HB2.out.drwN _).tr hb3
  have HZ := Lib.hid hzg
  have hk : (grs l).length = k := hzg.1
  have kn : k ≤ 2000 := by have := HGL.out; omega
  have ki : (k : Int) ≤ 2000 := by omega
  have HK := Lib.hid hk
  clear hb3 hzg HGR hk
  go_wp2
  go_loopw [9, 28] (fun s9 s28 wr => ∃ (i : Nat) (V : World) (u : Value), V = wr ∧ u = s9 ∧ i ≤ k ∧ s28 = .int .i64 (i : Int) ∧ wr.ownsRow w3.heap.size 28 2 s9 i (rs ((cln 3 l).take i)) ∧ Bel w3 wr) (fun _ s28 _ => k - (intOf s28).toNat)
  case atStart => exact ⟨0, _, _, rfl, rfl, by omega, rfl, World.ownsRow_nil _ _ _ _, by first | exact Bel.rf | exact Bel.rf.drwN _⟩
  case round =>
    obtain ⟨i, wr, u, hwr, hu, hik, rfl, ho, hb⟩ := hrel
    subst hwr
    subst hu
    have HO := Lib.hid ho
    have HB := Lib.hid hb
    clear ho hb
    rcases Nat.lt_or_ge i k with hlt | hge
    · obtain ⟨q0, e, hq0, hc⟩ := (HZ.out.bel HB.out).2 (by omega)
      subst e
      obtain ⟨ad, m, c0, hm, hzo⟩ := hc i hlt
      obtain ⟨q, hq⟩ : ∃ q, (grs l).getD i [] = q := ⟨_, rfl⟩
      have hin : q ∈ grs l := by rw [← hq]; exact grs_at (by rw [HK.out]; exact hlt)
      obtain ⟨hvl, hql⟩ := grs_vls HV.out hin
      have HNX := Lib.hid (cln_next 3 l i (by rw [HK.out]; exact hlt))
      rw [hq] at hzo HNX
      have hqm : q.length = m := hzo.1
      obtain ⟨g, o, e, hg, hcc⟩ := hzo.2 hm
      cases e
      obtain ⟨c1, _⟩ := hcc 0 hm
      simp only [Nat.zero_mul, Nat.add_zero] at c1
      obtain ⟨vv, hvv⟩ : ∃ x, val 3 q = x := ⟨_, rfl⟩
      obtain ⟨t0, ht0⟩ : ∃ x, tm q 0 = x := ⟨_, rfl⟩
      rw [hvv, ht0] at HNX
      rw [ht0] at c1
      have HCA : Hid (∀ W, Bel wr W → Calls Try.prog 30 #[.slice (some ⟨g, o, none⟩) m m] W fun e w' => e = .returned (.int .i64 vv) ∧ Bel W w') := fun W hW => by
        have h := HP.out ⟨g, o, none⟩ m m q W (hzo.bel hW) hm (by omega) hvl
        rw [hvv] at h
        exact h
      have m0 : (0 : Int) < (m : Int) := by omega
      have mi : (m : Int) ≤ 2000 := by omega
      have ii : (i : Int) < (k : Int) := by omega
      have sz : w3.heap.size ≤ wr.heap.size := HB.out.size
      clear hc hzo hin hvl hql hcc hvv ht0 hq hqm
      go_wp2
      go_region_law (first
        | (go_simp; go_at_call 30; refine (HCA.out _ (by repeat (first | exact Bel.rf | (with_reducible refine Bel.drwN ?_ _) | (with_reducible refine Bel.drw ?_)))).mono ?_; rintro e w4 ⟨rfl, hb4⟩; have c4 := hb4.kp (p := ⟨g, o, none⟩) c1)
        | (refine step_appr _ rfl (.tmp 39) (.tmp 48) rfl w3.heap.size u i ((cln 3 l).take i) rfl (own_bel HO.out (Bel.al (Bel.tr (by repeat (first | exact Bel.rf | (with_reducible refine Bel.drwN ?_ _) | (with_reducible refine Bel.drw ?_))) hb4) _)) w4.heap.size 1 (t0, vv) rfl (by first | exact Bk.nw _ _ _ | exact Bk.nq _ _ _ (by simp)) (by omega) (by have := hb4.size; simp at *; omega) ?_; intro v' w5 h5 hg5 hat5))
      all_goals
        have HBW4 : Hid (Bel wr w4) := Bel.tr (by repeat (first | exact Bel.rf | (with_reducible refine Bel.drwN ?_ _) | (with_reducible refine Bel.drw ?_))) hb4
        have HO5 : Hid (w5.ownsRow w3.heap.size 28 2 v' (i + 1) (rs ((cln 3 l).take (i + 1)))) := by rw [HNX.out]; exact h5
        have HB5 : Hid (Bel w3 w5) := Below.grown ((HB.out.tr HBW4.out).al _) hg5 ((HB.out.tr HBW4.out).al _).size (fun b e => (HO.out.lt b e).1)
        clear h5 hg5 hat5 hb4
        go_wp2
        go_roundw
        case rel => exact ⟨i + 1, _, _, rfl, rfl, by omega, by go_num, HO5.out, by first | exact HB5.out | exact HB5.out.drwN _⟩
        case measure => simp [intOf]; omega
    · obtain rfl : i = k := by omega
      have HO2 := HO.out
      rw [List.take_of_length_le (by rw [cln_len, HK.out]; exact Nat.le_refl _)] at HO2
      have HO3 : Hid (wr.ownsRow w.heap.size 28 2 u (cln 3 l).length (rs (cln 3 l))) := by
        rw [cln_len, HK.out]
        exact own_mono HO2 HB3.out.size
      clear HO2
      go_wp2
      go_ret2
      exact ⟨u, rfl, HO3.out, by first | exact HB3.out.tr HB.out | exact (HB3.out.tr HB.out).drwN _⟩
set_option maxHeartbeats 8000000 in
set_option maxRecDepth 100000 in
theorem clean_ok4 (A : Option Addr) (c n : Nat) (l : List Rp) (hn : n ≤ 2000) (hv : Vrs l) (w : World) (hz : Zo w A n l) (hA : Nz A n c) (hr : (4 : Int) = 6 → ∀ q ∈ grs l, q.length ≤ 1) :
    Calls Try.prog 10 #[.slice A n c, .int .i64 4] w (SomeCl 4 l w) := by
  have hl := hz.1
  have HP : Hid (Pol 33 4) := pf_ok 4 (by decide) (by decide)
  have HLK : Hid (∀ (w : World) (h : Nat), w.heap[h]? = some (.map fns 6) → (Instr.lookup 49 (.map (some h)) (.int .i64 4) true).run Try.prog w = .ok (.tuple #[.func (.func 33) #[] #[], .bool true]) w) := fun w h hb => look_pf hb 4 (by decide) (by decide)
  have HRD : Hid (∀ W, Bel w W → Calls Try.prog 22 #[.slice A n c] W fun e w' => e = .returned (.int .i64 0) ∧ Bel W w') := fun W hW => readings_zo A c n l hn hv W (Zo.bel hz hW)
  have HGR : Hid (∀ W, Bel w W → Calls Try.prog 23 #[.slice A n c] W (SomeGr l W)) := fun W hW => groups_ok A c n l (by omega) W (Zo.bel hz hW) hA
  have HV := Lib.hid hv
  have HGL : Hid ((grs l).length ≤ 2000) := by have := uts_le l; rw [← uts_len] at this; show _ ≤ _; omega
  clear hz hA hv hr
  go_enter Try.func10, Try.ntmps10
  go_wp2_with fail
  go_at_call 21
  refine (policies_ok _).mono ?_
  rintro e w1 ⟨h, rfl, hm, hb1⟩
  have hlk := HLK.out w1 h hm
  have HB1 : Hid (Bel w w1) := by first | exact hb1 | exact (Bel.rf.drwN _).tr hb1
  clear hb1 hm HLK
  go_wp2_with fail
  go_at_call 22
  refine (HRD.out _ (by first | exact HB1.out | exact HB1.out.drwN _)).mono ?_
  rintro e w2 ⟨rfl, hb2⟩
  have HB2 : Hid (Bel w w2) := by first | exact HB1.out.tr hb2 | exact (HB1.out.drwN _).tr hb2
  clear hb2 hlk HRD
  go_wp2_with fail
  go_at_call 23
  refine (HGR.out _ (by first | exact HB2.out | exact HB2.out.drwN _)).mono ?_
  rintro e w3 ⟨AG, cG, k, rfl, hzg, hb3⟩
  have HB3 : Hid (Bel w w3) := by first | exact HB2.out.tr hb3 | exact (HB2.out.drwN _).tr hb3
  have HZ := Lib.hid hzg
  have hk : (grs l).length = k := hzg.1
  have kn : k ≤ 2000 := by have := HGL.out; omega
  have ki : (k : Int) ≤ 2000 := by omega
  have HK := Lib.hid hk
  clear hb3 hzg HGR hk
  go_wp2
  go_loopw [9, 28] (fun s9 s28 wr => ∃ (i : Nat) (V : World) (u : Value), V = wr ∧ u = s9 ∧ i ≤ k ∧ s28 = .int .i64 (i : Int) ∧ wr.ownsRow w3.heap.size 28 2 s9 i (rs ((cln 4 l).take i)) ∧ Bel w3 wr) (fun _ s28 _ => k - (intOf s28).toNat)
  case atStart => exact ⟨0, _, _, rfl, rfl, by omega, rfl, World.ownsRow_nil _ _ _ _, by first | exact Bel.rf | exact Bel.rf.drwN _⟩
  case round =>
    obtain ⟨i, wr, u, hwr, hu, hik, rfl, ho, hb⟩ := hrel
    subst hwr
    subst hu
    have HO := Lib.hid ho
    have HB := Lib.hid hb
    clear ho hb
    rcases Nat.lt_or_ge i k with hlt | hge
    · obtain ⟨q0, e, hq0, hc⟩ := (HZ.out.bel HB.out).2 (by omega)
      subst e
      obtain ⟨ad, m, c0, hm, hzo⟩ := hc i hlt
      obtain ⟨q, hq⟩ : ∃ q, (grs l).getD i [] = q := ⟨_, rfl⟩
      have hin : q ∈ grs l := by rw [← hq]; exact grs_at (by rw [HK.out]; exact hlt)
      obtain ⟨hvl, hql⟩ := grs_vls HV.out hin
      have HNX := Lib.hid (cln_next 4 l i (by rw [HK.out]; exact hlt))
      rw [hq] at hzo HNX
      have hqm : q.length = m := hzo.1
      obtain ⟨g, o, e, hg, hcc⟩ := hzo.2 hm
      cases e
      obtain ⟨c1, _⟩ := hcc 0 hm
      simp only [Nat.zero_mul, Nat.add_zero] at c1
      obtain ⟨vv, hvv⟩ : ∃ x, val 4 q = x := ⟨_, rfl⟩
      obtain ⟨t0, ht0⟩ : ∃ x, tm q 0 = x := ⟨_, rfl⟩
      rw [hvv, ht0] at HNX
      rw [ht0] at c1
      have HCA : Hid (∀ W, Bel wr W → Calls Try.prog 33 #[.slice (some ⟨g, o, none⟩) m m] W fun e w' => e = .returned (.int .i64 vv) ∧ Bel W w') := fun W hW => by
        have h := HP.out ⟨g, o, none⟩ m m q W (hzo.bel hW) hm (by omega) hvl
        rw [hvv] at h
        exact h
      have m0 : (0 : Int) < (m : Int) := by omega
      have mi : (m : Int) ≤ 2000 := by omega
      have ii : (i : Int) < (k : Int) := by omega
      have sz : w3.heap.size ≤ wr.heap.size := HB.out.size
      clear hc hzo hin hvl hql hcc hvv ht0 hq hqm
      go_wp2
      go_region_law (first
        | (go_simp; go_at_call 33; refine (HCA.out _ (by repeat (first | exact Bel.rf | (with_reducible refine Bel.drwN ?_ _) | (with_reducible refine Bel.drw ?_)))).mono ?_; rintro e w4 ⟨rfl, hb4⟩; have c4 := hb4.kp (p := ⟨g, o, none⟩) c1)
        | (refine step_appr _ rfl (.tmp 39) (.tmp 48) rfl w3.heap.size u i ((cln 4 l).take i) rfl (own_bel HO.out (Bel.al (Bel.tr (by repeat (first | exact Bel.rf | (with_reducible refine Bel.drwN ?_ _) | (with_reducible refine Bel.drw ?_))) hb4) _)) w4.heap.size 1 (t0, vv) rfl (by first | exact Bk.nw _ _ _ | exact Bk.nq _ _ _ (by simp)) (by omega) (by have := hb4.size; simp at *; omega) ?_; intro v' w5 h5 hg5 hat5))
      all_goals
        have HBW4 : Hid (Bel wr w4) := Bel.tr (by repeat (first | exact Bel.rf | (with_reducible refine Bel.drwN ?_ _) | (with_reducible refine Bel.drw ?_))) hb4
        have HO5 : Hid (w5.ownsRow w3.heap.size 28 2 v' (i + 1) (rs ((cln 4 l).take (i + 1)))) := by rw [HNX.out]; exact h5
        have HB5 : Hid (Bel w3 w5) := Below.grown ((HB.out.tr HBW4.out).al _) hg5 ((HB.out.tr HBW4.out).al _).size (fun b e => (HO.out.lt b e).1)
        clear h5 hg5 hat5 hb4
        go_wp2
        go_roundw
        case rel => exact ⟨i + 1, _, _, rfl, rfl, by omega, by go_num, HO5.out, by first | exact HB5.out | exact HB5.out.drwN _⟩
        case measure => simp [intOf]; omega
    · obtain rfl : i = k := by omega
      have HO2 := HO.out
      rw [List.take_of_length_le (by rw [cln_len, HK.out]; exact Nat.le_refl _)] at HO2
      have HO3 : Hid (wr.ownsRow w.heap.size 28 2 u (cln 4 l).length (rs (cln 4 l))) := by
        rw [cln_len, HK.out]
        exact own_mono HO2 HB3.out.size
      clear HO2
      go_wp2
      go_ret2
      exact ⟨u, rfl, HO3.out, by first | exact HB3.out.tr HB.out | exact (HB3.out.tr HB.out).drwN _⟩
set_option maxHeartbeats 8000000 in
set_option maxRecDepth 100000 in
theorem clean_ok5 (A : Option Addr) (c n : Nat) (l : List Rp) (hn : n ≤ 2000) (hv : Vrs l) (w : World) (hz : Zo w A n l) (hA : Nz A n c) (hr : (5 : Int) = 6 → ∀ q ∈ grs l, q.length ≤ 1) :
    Calls Try.prog 10 #[.slice A n c, .int .i64 5] w (SomeCl 5 l w) := by
  have hl := hz.1
  have HP : Hid (Pol 35 5) := pf_ok 5 (by decide) (by decide)
  have HLK : Hid (∀ (w : World) (h : Nat), w.heap[h]? = some (.map fns 6) → (Instr.lookup 49 (.map (some h)) (.int .i64 5) true).run Try.prog w = .ok (.tuple #[.func (.func 35) #[] #[], .bool true]) w) := fun w h hb => look_pf hb 5 (by decide) (by decide)
  have HRD : Hid (∀ W, Bel w W → Calls Try.prog 22 #[.slice A n c] W fun e w' => e = .returned (.int .i64 0) ∧ Bel W w') := fun W hW => readings_zo A c n l hn hv W (Zo.bel hz hW)
  have HGR : Hid (∀ W, Bel w W → Calls Try.prog 23 #[.slice A n c] W (SomeGr l W)) := fun W hW => groups_ok A c n l (by omega) W (Zo.bel hz hW) hA
  have HV := Lib.hid hv
  have HGL : Hid ((grs l).length ≤ 2000) := by have := uts_le l; rw [← uts_len] at this; show _ ≤ _; omega
  clear hz hA hv hr
  go_enter Try.func10, Try.ntmps10
  go_wp2_with fail
  go_at_call 21
  refine (policies_ok _).mono ?_
  rintro e w1 ⟨h, rfl, hm, hb1⟩
  have hlk := HLK.out w1 h hm
  have HB1 : Hid (Bel w w1) := by first | exact hb1 | exact (Bel.rf.drwN _).tr hb1
  clear hb1 hm HLK
  go_wp2_with fail
  go_at_call 22
  refine (HRD.out _ (by first | exact HB1.out | exact HB1.out.drwN _)).mono ?_
  rintro e w2 ⟨rfl, hb2⟩
  have HB2 : Hid (Bel w w2) := by first | exact HB1.out.tr hb2 | exact (HB1.out.drwN _).tr hb2
  clear hb2 hlk HRD
  go_wp2_with fail
  go_at_call 23
  refine (HGR.out _ (by first | exact HB2.out | exact HB2.out.drwN _)).mono ?_
  rintro e w3 ⟨AG, cG, k, rfl, hzg, hb3⟩
  have HB3 : Hid (Bel w w3) := by first | exact HB2.out.tr hb3 | exact (HB2.out.drwN _).tr hb3
  have HZ := Lib.hid hzg
  have hk : (grs l).length = k := hzg.1
  have kn : k ≤ 2000 := by have := HGL.out; omega
  have ki : (k : Int) ≤ 2000 := by omega
  have HK := Lib.hid hk
  clear hb3 hzg HGR hk
  go_wp2
  go_loopw [9, 28] (fun s9 s28 wr => ∃ (i : Nat) (V : World) (u : Value), V = wr ∧ u = s9 ∧ i ≤ k ∧ s28 = .int .i64 (i : Int) ∧ wr.ownsRow w3.heap.size 28 2 s9 i (rs ((cln 5 l).take i)) ∧ Bel w3 wr) (fun _ s28 _ => k - (intOf s28).toNat)
  case atStart => exact ⟨0, _, _, rfl, rfl, by omega, rfl, World.ownsRow_nil _ _ _ _, by first | exact Bel.rf | exact Bel.rf.drwN _⟩
  case round =>
    obtain ⟨i, wr, u, hwr, hu, hik, rfl, ho, hb⟩ := hrel
    subst hwr
    subst hu
    have HO := Lib.hid ho
    have HB := Lib.hid hb
    clear ho hb
    rcases Nat.lt_or_ge i k with hlt | hge
    · obtain ⟨q0, e, hq0, hc⟩ := (HZ.out.bel HB.out).2 (by omega)
      subst e
      obtain ⟨ad, m, c0, hm, hzo⟩ := hc i hlt
      obtain ⟨q, hq⟩ : ∃ q, (grs l).getD i [] = q := ⟨_, rfl⟩
      have hin : q ∈ grs l := by rw [← hq]; exact grs_at (by rw [HK.out]; exact hlt)
      obtain ⟨hvl, hql⟩ := grs_vls HV.out hin
      have HNX := Lib.hid (cln_next 5 l i (by rw [HK.out]; exact hlt))
      rw [hq] at hzo HNX
      have hqm : q.length = m := hzo.1
      obtain ⟨g, o, e, hg, hcc⟩ := hzo.2 hm
      cases e
      obtain ⟨c1, _⟩ := hcc 0 hm
      simp only [Nat.zero_mul, Nat.add_zero] at c1
      obtain ⟨vv, hvv⟩ : ∃ x, val 5 q = x := ⟨_, rfl⟩
      obtain ⟨t0, ht0⟩ : ∃ x, tm q 0 = x := ⟨_, rfl⟩
      rw [hvv, ht0] at HNX
      rw [ht0] at c1
      have HCA : Hid (∀ W, Bel wr W → Calls Try.prog 35 #[.slice (some ⟨g, o, none⟩) m m] W fun e w' => e = .returned (.int .i64 vv) ∧ Bel W w') := fun W hW => by
        have h := HP.out ⟨g, o, none⟩ m m q W (hzo.bel hW) hm (by omega) hvl
        rw [hvv] at h
        exact h
      have m0 : (0 : Int) < (m : Int) := by omega
      have mi : (m : Int) ≤ 2000 := by omega
      have ii : (i : Int) < (k : Int) := by omega
      have sz : w3.heap.size ≤ wr.heap.size := HB.out.size
      clear hc hzo hin hvl hql hcc hvv ht0 hq hqm
      go_wp2
      go_region_law (first
        | (go_simp; go_at_call 35; refine (HCA.out _ (by repeat (first | exact Bel.rf | (with_reducible refine Bel.drwN ?_ _) | (with_reducible refine Bel.drw ?_)))).mono ?_; rintro e w4 ⟨rfl, hb4⟩; have c4 := hb4.kp (p := ⟨g, o, none⟩) c1)
        | (refine step_appr _ rfl (.tmp 39) (.tmp 48) rfl w3.heap.size u i ((cln 5 l).take i) rfl (own_bel HO.out (Bel.al (Bel.tr (by repeat (first | exact Bel.rf | (with_reducible refine Bel.drwN ?_ _) | (with_reducible refine Bel.drw ?_))) hb4) _)) w4.heap.size 1 (t0, vv) rfl (by first | exact Bk.nw _ _ _ | exact Bk.nq _ _ _ (by simp)) (by omega) (by have := hb4.size; simp at *; omega) ?_; intro v' w5 h5 hg5 hat5))
      all_goals
        have HBW4 : Hid (Bel wr w4) := Bel.tr (by repeat (first | exact Bel.rf | (with_reducible refine Bel.drwN ?_ _) | (with_reducible refine Bel.drw ?_))) hb4
        have HO5 : Hid (w5.ownsRow w3.heap.size 28 2 v' (i + 1) (rs ((cln 5 l).take (i + 1)))) := by rw [HNX.out]; exact h5
        have HB5 : Hid (Bel w3 w5) := Below.grown ((HB.out.tr HBW4.out).al _) hg5 ((HB.out.tr HBW4.out).al _).size (fun b e => (HO.out.lt b e).1)
        clear h5 hg5 hat5 hb4
        go_wp2
        go_roundw
        case rel => exact ⟨i + 1, _, _, rfl, rfl, by omega, by go_num, HO5.out, by first | exact HB5.out | exact HB5.out.drwN _⟩
        case measure => simp [intOf]; omega
    · obtain rfl : i = k := by omega
      have HO2 := HO.out
      rw [List.take_of_length_le (by rw [cln_len, HK.out]; exact Nat.le_refl _)] at HO2
      have HO3 : Hid (wr.ownsRow w.heap.size 28 2 u (cln 5 l).length (rs (cln 5 l))) := by
        rw [cln_len, HK.out]
        exact own_mono HO2 HB3.out.size
      clear HO2
      go_wp2
      go_ret2
      exact ⟨u, rfl, HO3.out, by first | exact HB3.out.tr HB.out | exact (HB3.out.tr HB.out).drwN _⟩
set_option maxHeartbeats 8000000 in
set_option maxRecDepth 100000 in
theorem clean_ok6 (A : Option Addr) (c n : Nat) (l : List Rp) (hn : n ≤ 2000) (hv : Vrs l) (w : World) (hz : Zo w A n l) (hA : Nz A n c) (hr : (6 : Int) = 6 → ∀ q ∈ grs l, q.length ≤ 1) :
    Calls Try.prog 10 #[.slice A n c, .int .i64 6] w (SomeCl 6 l w) := by
  have hl := hz.1
  have HP : Hid (Pol 28 6) := pf_ok 6 (by decide) (by decide)
  have HLK : Hid (∀ (w : World) (h : Nat), w.heap[h]? = some (.map fns 6) → (Instr.lookup 49 (.map (some h)) (.int .i64 6) true).run Try.prog w = .ok (.tuple #[.func (.func 28) #[] #[], .bool true]) w) := fun w h hb => look_pf hb 6 (by decide) (by decide)
  have HRD : Hid (∀ W, Bel w W → Calls Try.prog 22 #[.slice A n c] W fun e w' => e = .returned (.int .i64 0) ∧ Bel W w') := fun W hW => readings_zo A c n l hn hv W (Zo.bel hz hW)
  have HGR : Hid (∀ W, Bel w W → Calls Try.prog 23 #[.slice A n c] W (SomeGr l W)) := fun W hW => groups_ok A c n l (by omega) W (Zo.bel hz hW) hA
  have HV := Lib.hid hv
  have HR6 : Hid (∀ q ∈ grs l, q.length ≤ 1) := hr rfl
  have HGL : Hid ((grs l).length ≤ 2000) := by have := uts_le l; rw [← uts_len] at this; show _ ≤ _; omega
  clear hz hA hv hr
  go_enter Try.func10, Try.ntmps10
  go_wp2_with fail
  go_at_call 21
  refine (policies_ok _).mono ?_
  rintro e w1 ⟨h, rfl, hm, hb1⟩
  have hlk := HLK.out w1 h hm
  have HB1 : Hid (Bel w w1) := by first | exact hb1 | exact (Bel.rf.drwN _).tr hb1
  clear hb1 hm HLK
  go_wp2_with fail
  go_at_call 22
  refine (HRD.out _ (by first | exact HB1.out | exact HB1.out.drwN _)).mono ?_
  rintro e w2 ⟨rfl, hb2⟩
  have HB2 : Hid (Bel w w2) := by first | exact HB1.out.tr hb2 | exact (HB1.out.drwN _).tr hb2
  clear hb2 hlk HRD
  go_wp2_with fail
  go_at_call 23
  refine (HGR.out _ (by first | exact HB2.out | exact HB2.out.drwN _)).mono ?_
  rintro e w3 ⟨AG, cG, k, rfl, hzg, hb3⟩
  have HB3 : Hid (Bel w w3) := by first | exact HB2.out.tr hb3 | exact (HB2.out.drwN _).tr hb3
  have HZ := Lib.hid hzg
  have hk : (grs l).length = k := hzg.1
  have kn : k ≤ 2000 := by have := HGL.out; omega
  have ki : (k : Int) ≤ 2000 := by omega
  have HK := Lib.hid hk
  clear hb3 hzg HGR hk
  go_wp2
  go_loopw [9, 28] (fun s9 s28 wr => ∃ (i : Nat) (V : World) (u : Value), V = wr ∧ u = s9 ∧ i ≤ k ∧ s28 = .int .i64 (i : Int) ∧ wr.ownsRow w3.heap.size 28 2 s9 i (rs ((cln 6 l).take i)) ∧ Bel w3 wr) (fun _ s28 _ => k - (intOf s28).toNat)
  case atStart => exact ⟨0, _, _, rfl, rfl, by omega, rfl, World.ownsRow_nil _ _ _ _, by first | exact Bel.rf | exact Bel.rf.drwN _⟩
  case round =>
    obtain ⟨i, wr, u, hwr, hu, hik, rfl, ho, hb⟩ := hrel
    subst hwr
    subst hu
    have HO := Lib.hid ho
    have HB := Lib.hid hb
    clear ho hb
    rcases Nat.lt_or_ge i k with hlt | hge
    · obtain ⟨q0, e, hq0, hc⟩ := (HZ.out.bel HB.out).2 (by omega)
      subst e
      obtain ⟨ad, m, c0, hm, hzo⟩ := hc i hlt
      obtain ⟨q, hq⟩ : ∃ q, (grs l).getD i [] = q := ⟨_, rfl⟩
      have hin : q ∈ grs l := by rw [← hq]; exact grs_at (by rw [HK.out]; exact hlt)
      obtain ⟨hvl, hql⟩ := grs_vls HV.out hin
      have HNX := Lib.hid (cln_next 6 l i (by rw [HK.out]; exact hlt))
      rw [hq] at hzo HNX
      have hqm : q.length = m := hzo.1
      obtain ⟨g, o, e, hg, hcc⟩ := hzo.2 hm
      cases e
      obtain ⟨c1, _⟩ := hcc 0 hm
      simp only [Nat.zero_mul, Nat.add_zero] at c1
      obtain ⟨vv, hvv⟩ : ∃ x, val 6 q = x := ⟨_, rfl⟩
      obtain ⟨t0, ht0⟩ : ∃ x, tm q 0 = x := ⟨_, rfl⟩
      rw [hvv, ht0] at HNX
      rw [ht0] at c1
      have HCA : Hid (∀ W, Bel wr W → Calls Try.prog 28 #[.slice (some ⟨g, o, none⟩) m m] W fun e w' => e = .returned (.int .i64 vv) ∧ Bel W w') := fun W hW => by
        have h := HP.out ⟨g, o, none⟩ m m q W (hzo.bel hW) hm (by omega) hvl
        rw [hvv] at h
        exact h
      have H6 : Hid (m ≤ 1) := by have := HR6.out q hin; show _ ≤ _; omega
      have m0 : (0 : Int) < (m : Int) := by omega
      have mi : (m : Int) ≤ 2000 := by omega
      have ii : (i : Int) < (k : Int) := by omega
      have sz : w3.heap.size ≤ wr.heap.size := HB.out.size
      clear hc hzo hin hvl hql hcc hvv ht0 hq hqm
      have m1 : ¬ (m : Int) > 1 := by have := H6.out; omega
      have m1' : decide ((m : Int) > 1) = false := decide_eq_false m1
      go_wp2
      go_region_law (first
        | (go_simp; go_at_call 28; refine (HCA.out _ (by repeat (first | exact Bel.rf | (with_reducible refine Bel.drwN ?_ _) | (with_reducible refine Bel.drw ?_)))).mono ?_; rintro e w4 ⟨rfl, hb4⟩; have c4 := hb4.kp (p := ⟨g, o, none⟩) c1)
        | (refine step_appr _ rfl (.tmp 39) (.tmp 48) rfl w3.heap.size u i ((cln 6 l).take i) rfl (own_bel HO.out (Bel.al (Bel.tr (by repeat (first | exact Bel.rf | (with_reducible refine Bel.drwN ?_ _) | (with_reducible refine Bel.drw ?_))) hb4) _)) w4.heap.size 1 (t0, vv) rfl (by first | exact Bk.nw _ _ _ | exact Bk.nq _ _ _ (by simp)) (by omega) (by have := hb4.size; simp at *; omega) ?_; intro v' w5 h5 hg5 hat5))
      all_goals
        have HBW4 : Hid (Bel wr w4) := Bel.tr (by repeat (first | exact Bel.rf | (with_reducible refine Bel.drwN ?_ _) | (with_reducible refine Bel.drw ?_))) hb4
        have HO5 : Hid (w5.ownsRow w3.heap.size 28 2 v' (i + 1) (rs ((cln 6 l).take (i + 1)))) := by rw [HNX.out]; exact h5
        have HB5 : Hid (Bel w3 w5) := Below.grown ((HB.out.tr HBW4.out).al _) hg5 ((HB.out.tr HBW4.out).al _).size (fun b e => (HO.out.lt b e).1)
        clear h5 hg5 hat5 hb4
        go_wp2
        go_roundw
        case rel => exact ⟨i + 1, _, _, rfl, rfl, by omega, by go_num, HO5.out, by first | exact HB5.out | exact HB5.out.drwN _⟩
        case measure => simp [intOf]; omega
    · obtain rfl : i = k := by omega
      have HO2 := HO.out
      rw [List.take_of_length_le (by rw [cln_len, HK.out]; exact Nat.le_refl _)] at HO2
      have HO3 : Hid (wr.ownsRow w.heap.size 28 2 u (cln 6 l).length (rs (cln 6 l))) := by
        rw [cln_len, HK.out]
        exact own_mono HO2 HB3.out.size
      clear HO2
      go_wp2
      go_ret2
      exact ⟨u, rfl, HO3.out, by first | exact HB3.out.tr HB.out | exact (HB3.out.tr HB.out).drwN _⟩
theorem clean_ok (A : Option Addr) (c n : Nat) (l : List Rp) (p : Int) (hp1 : 1 ≤ p) (hp2 : p ≤ 6) (hn : n ≤ 2000) (hv : Vrs l) (w : World) (hz : Zo w A n l) (hA : Nz A n c) (hr : p = 6 → ∀ q ∈ grs l, q.length ≤ 1) :
    Calls Try.prog 10 #[.slice A n c, .int .i64 p] w (SomeCl p l w) := by
  rcases (by omega : p = 1 ∨ p = 2 ∨ p = 3 ∨ p = 4 ∨ p = 5 ∨ p = 6) with rfl | rfl | rfl | rfl | rfl | rfl
  · exact clean_ok1 A c n l hn hv w hz hA hr
  · exact clean_ok2 A c n l hn hv w hz hA hr
  · exact clean_ok3 A c n l hn hv w hz hA hr
  · exact clean_ok4 A c n l hn hv w hz hA hr
  · exact clean_ok5 A c n l hn hv w hz hA hr
  · exact clean_ok6 A c n l hn hv w hz hA hr
end Go.Proofs.Ytgcjangnlbhicaa.St
