/- clean.Repeated. -/
import Derived.Test.YtgcjangnlbhicaaStK2
namespace Go.Proofs.Ytgcjangnlbhicaa.St
open Go.ChangeShapes Go.WideShapes Go.RowKit Wo Sr Wi Rm Rg
set_option linter.unusedVariables false
theorem list_app1 (w : World) {ops : Array Oper} {rest : List Oper} {o : Oper} {a : Act} {Q : Exit → Act → World → Prop} (hgd : o.guard = none) (s x : Operand)
    (ho : o.op = .call { callee := .builtin .append, args := #[s, x], argTypes := #[22, 22] })
    (base : Nat) (v : Value) (n : Nat) (L : List Int) (hs : a.eval s = v) (hown : w.ownsRow base 3 1 v n (zs L)) (q c : Nat) (y : Int) (hx : a.eval x = .slice (some ⟨q, 0, none⟩) 1 c)
    (hM : Bk w q 3 #[.int .i64 y]) (hn : n ≤ 100000) (hbase : base ≤ w.heap.size)
    (h : ∀ v' w', w'.ownsRow base 3 1 v' (n + 1) (zs (L ++ [y])) → w.grownBy w' v.ownBlock → wpList Try.prog ops Q rest (a.put o.dst v') w') : wpList Try.prog ops Q (o :: rest) a w := by
  obtain ⟨i0, hi0, hz0, hz1, hz2⟩ := info_parts info_int
  obtain ⟨v', w', hr, h2, h3, _, h5⟩ := run_append_own_at (P := Try.prog) w base 22 o.type 3 i0 (.int .i64 0) 1 8 Try.underlying22 hi0 hz0 hz1 hz2 (by rfl) (by omega) v n (zs L) hown ⟨q, 0, none⟩ 1 c [.int .i64 y] rfl (fun j u hj => by
    rcases j with _ | j
    · simp at hj; subst hj; rw [add_row, hM.cell]; rfl
    · simp at hj) (fun u hu => by simp at hu; subst hu; rfl) (by unfold maxLen; omega) (by omega) hbase
  refine wpList_plain hgd fun _ hK => ?_
  unfold Oper.wp execOp
  simp only [ho, resolve, invoke, builtin, Sem.run_bind, Sem.run_pure, Result.andThen_ok, List.map_toArray, List.map_cons, List.map_nil, hs, hx, hr]
  exact hK _ _ (h v' w' (by rw [zs_app]; exact h2) h3)
/-- the times of two or more readings -/
def rpt (G : List (List Rp)) : List Int := (G.filter fun q => decide (1 < q.length)).map fun q => tm q 0
theorem rpt_next (G : List (List Rp)) (i : Nat) (h : i < G.length) : rpt (G.take (i + 1)) = rpt (G.take i) ++ (if 1 < (G.getD i []).length then [tm (G.getD i []) 0] else []) := by
  have e : G[i]? = some (G.getD i []) := by rw [List.getD_eq_getElem?_getD, List.getElem?_eq_getElem h]; rfl
  rw [List.take_add_one, e]
  unfold rpt
  rw [List.filter_append, List.map_append]
  congr 1
  show List.map _ (List.filter _ [_]) = _
  by_cases h1 : 1 < (G.getD i []).length
  · rw [if_pos h1, List.filter_cons_of_pos (by simpa using h1)]; rfl
  · rw [if_neg h1, List.filter_cons_of_neg (by simpa using h1)]; rfl
theorem rpt_le (G : List (List Rp)) : (rpt G).length ≤ G.length := by unfold rpt; rw [List.length_map]; exact List.length_filter_le _ _
def SomeRp (l : List Rp) (w : World) (e : Ending) (w' : World) : Prop := ∃ v, e = .returned v ∧ w'.ownsRow w.heap.size 3 1 v (rpt (grs l)).length (zs (rpt (grs l))) ∧ Bel w w'
set_option maxHeartbeats 8000000 in
set_option maxRecDepth 100000 in
theorem repeated_ok (A : Option Addr) (c n : Nat) (l : List Rp) (hn : n ≤ 2000) (hv : Vrs l) (w : World) (hz : Zo w A n l) (hA : Nz A n c) :
    Calls Try.prog 13 #[.slice A n c] w (SomeRp l w) := by
  have hl := hz.1
  have HRD : Hid (∀ W, Bel w W → Calls Try.prog 22 #[.slice A n c] W fun e w' => e = .returned (.int .i64 0) ∧ Bel W w') := fun W hW => readings_zo A c n l hn hv W (Zo.bel hz hW)
  have HGR : Hid (∀ W, Bel w W → Calls Try.prog 23 #[.slice A n c] W (SomeGr l W)) := fun W hW => groups_ok A c n l (by omega) W (Zo.bel hz hW) hA
  have HGL : Hid ((grs l).length ≤ 2000) := by have := uts_le l; rw [← uts_len] at this; show _ ≤ _; omega
  have HGP : Hid (∀ q ∈ grs l, q.length ≤ 2000) := fun q hq => by have := (grs_vls hv hq).2; omega
  clear hz hA hv
  go_enter Try.func13, Try.ntmps13
  go_wp2_with fail
  go_at_call 22
  refine (HRD.out _ (by first | exact Bel.rf | exact Bel.rf.drwN _)).mono ?_
  rintro e w2 ⟨rfl, hb2⟩
  have HB2 : Hid (Bel w w2) := by first | exact hb2 | exact (Bel.rf.drwN _).tr hb2
  clear hb2 HRD
  go_wp2_with fail
  go_at_call 23
  refine (HGR.out _ (by first | exact HB2.out | exact HB2.out.drwN _)).mono ?_
  rintro e w3 ⟨AG, cG, k, rfl, hzg, hb3⟩
  have HB3 : Hid (Bel w w3) := by first | exact HB2.out.tr hb3 | exact (HB2.out.drwN _).tr hb3
  have HZ := Lib.hid hzg
  have hk : (grs l).length = k := hzg.1
  have kn : k ≤ 2000 := by have := HGL.out; omega
  have ki : (k : Int) ≤ 2000 := by omega
  have HK := Lib.hid hk
  clear hb3 hzg HGR hk
  go_wp2
  go_loopw [3, 12] (fun s3 s12 wr => ∃ (i : Nat) (V : World) (u : Value), V = wr ∧ u = s3 ∧ i ≤ k ∧ s12 = .int .i64 (i : Int) ∧ wr.ownsRow w3.heap.size 3 1 s3 (rpt ((grs l).take i)).length (zs (rpt ((grs l).take i))) ∧ Bel w3 wr) (fun _ s12 _ => k - (intOf s12).toNat)
  case atStart => exact ⟨0, _, _, rfl, rfl, by omega, rfl, World.ownsRow_nil _ _ _ _, by first | exact Bel.rf | exact Bel.rf.drwN _⟩
  case round =>
    obtain ⟨i, wr, u, hwr, hu, hik, rfl, ho, hb⟩ := hrel
    subst hwr
    subst hu
    have HO := Lib.hid ho
    have HB := Lib.hid hb
    clear ho hb
    rcases Nat.lt_or_ge i k with hlt | hge
    · obtain ⟨q0, e, hq0, hc⟩ := (HZ.out.bel HB.out).2 (by omega)
      subst e
      obtain ⟨ad, m, c0, hm, hzo⟩ := hc i hlt
      obtain ⟨q, hq⟩ : ∃ q, (grs l).getD i [] = q := ⟨_, rfl⟩
      have hql : q.length ≤ 2000 := HGP.out q (by rw [← hq]; exact grs_at (by rw [HK.out]; exact hlt))
      have hnx := rpt_next (grs l) i (by rw [HK.out]; exact hlt)
      rw [hq] at hzo hnx
      have hqm : q.length = m := hzo.1
      rw [hqm] at hnx hql
      obtain ⟨g, o, e, hg, hcc⟩ := hzo.2 hm
      cases e
      obtain ⟨c1, _⟩ := hcc 0 hm
      simp only [Nat.zero_mul, Nat.add_zero] at c1
      obtain ⟨t0, ht0⟩ : ∃ x, tm q 0 = x := ⟨_, rfl⟩
      rw [ht0] at c1 hnx
      have m0 : (0 : Int) < (m : Int) := by omega
      have mi : (m : Int) ≤ 2000 := by omega
      have ii : (i : Int) < (k : Int) := by omega
      clear hc hzo hql hcc ht0 hq hqm
      rcases Nat.lt_or_ge 1 m with hm1 | hm1
      · rw [if_pos hm1] at hnx
        have HNX := Lib.hid hnx
        have m1 : (m : Int) > 1 := by omega
        have m1' : decide ((m : Int) > 1) = true := decide_eq_true m1
        have HV : Hid (Bk (wr.alloc (.cells #[.int .i64 t0] 3)) wr.heap.size 3 #[.int .i64 t0]) := Bk.nw _ _ _
        have HOV : Hid ((wr.alloc (.cells #[.int .i64 t0] 3)).ownsRow w3.heap.size 3 1 u (rpt ((grs l).take i)).length (zs (rpt ((grs l).take i)))) := own_bel HO.out (Bel.rf.al _)
        have HBV : Hid (Bel w3 (wr.alloc (.cells #[.int .i64 t0] 3))) := HB.out.al _
        have HL : Hid ((rpt ((grs l).take i)).length ≤ 100000) := by have := rpt_le ((grs l).take i); rw [List.length_take] at this; show _ ≤ _; omega
        have sz : w3.heap.size ≤ wr.heap.size := HB.out.size
        clear hnx
        go_wp2_with (at_builtin; refine list_app1 _ rfl (.tmp 19) (.tmp 24) rfl w3.heap.size u (rpt ((grs l).take i)).length (rpt ((grs l).take i)) rfl (by first | exact HOV.out | exact own_bel HOV.out Bel.rf.drw | exact own_bel HOV.out (Bel.rf.drwN _)) wr.heap.size 1 t0 rfl (by first | exact HV.out | exact HV.out.drw | exact HV.out.drwN _) HL.out (by simp; omega) ?_; intro v' w4 h2 h3; have HO4 : Hid (w4.ownsRow w3.heap.size 3 1 v' (rpt ((grs l).take (i + 1))).length (zs (rpt ((grs l).take (i + 1))))) := (by rw [HNX.out, List.length_append]; exact h2); have HB4 : Hid (Bel w3 w4) := Below.grown (by first | exact HBV.out | exact HBV.out.drw | exact HBV.out.drwN _) h3 (by first | exact HBV.out.size | exact HBV.out.drw.size | exact (HBV.out.drwN _).size) (fun q e => (HOV.out.lt q e).1); clear h2 h3)
        go_roundw
        case rel => exact ⟨i + 1, _, _, rfl, rfl, by omega, by go_num, HO4.out, by first | exact HB4.out | exact HB4.out.drwN _⟩
        case measure => simp [intOf]; omega
      · rw [if_neg (by omega), List.append_nil] at hnx
        have HNX := Lib.hid hnx
        have m1 : ¬ (m : Int) > 1 := by omega
        have m1' : decide ((m : Int) > 1) = false := decide_eq_false m1
        clear hnx
        go_wp2
        go_roundw
        case rel => exact ⟨i + 1, _, _, rfl, rfl, by omega, by go_num, by rw [HNX.out]; first | exact HO.out | exact own_bel HO.out (Bel.rf.drwN _), by first | exact HB.out | exact HB.out.drwN _⟩
        case measure => simp [intOf]; omega
    · obtain rfl : i = k := by omega
      have HO2 := HO.out
      rw [List.take_of_length_le (by rw [HK.out]; exact Nat.le_refl _)] at HO2
      have HO3 : Hid (wr.ownsRow w.heap.size 3 1 u (rpt (grs l)).length (zs (rpt (grs l)))) := own_mono HO2 HB3.out.size
      clear HO2
      go_wp2
      go_ret
      exact ⟨u, rfl, HO3.out, by first | exact HB3.out.tr HB.out | exact (HB3.out.tr HB.out).drwN _⟩
end Go.Proofs.Ytgcjangnlbhicaa.St
