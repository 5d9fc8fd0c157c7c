/- Plain facts of repeated times; shapesearchref07.Values. -/
import Derived.Test.YtgcjangnlbhicaaStAw
namespace Go.Proofs.Ytgcjangnlbhicaa.St
open Go.ChangeShapes Go.WideShapes Go.RowKit Wo Sr Wi Rm Rg
set_option linter.unusedVariables false
/-- a row of the call's own, as it lies -/
theorem own_zn {w : World} {base n : Nat} {v : Value} {l : List Rp} (h : w.ownsRow base 28 2 v n (rs l)) (hl : l.length = n) : ∃ A c, v = .slice A n c ∧ Zr w A n l ∧ Nz A n c := by
  rcases own_some h hl with ⟨rfl, rfl, rfl⟩ | ⟨g, c, rfl, _, _, hr⟩
  · exact ⟨none, 0, rfl, ⟨rfl, fun h => by omega⟩, .inr ⟨rfl, rfl, rfl⟩⟩
  · exact ⟨_, c, rfl, hr.zr, .inl ⟨_, rfl⟩⟩
theorem tm_fl {l : List Rp} {t : Int} (h : fl l t ≠ []) : tm (fl l t) 0 = t := by
  have hm : rd (fl l t) 0 ∈ fl l t := at_mem (List.length_pos_iff.2 h)
  have := (List.mem_filter.1 hm).2
  rw [tm_rd]
  simpa using this
theorem rpt_eq (l : List Rp) : rpt (grs l) = (uts l).filter fun t => decide (1 < (fl l t).length) := by
  unfold rpt grs
  rw [List.filter_map, List.map_map]
  have : ∀ t ∈ (uts l).filter ((fun q => decide (1 < q.length)) ∘ fl l), ((fun q => tm q 0) ∘ fl l) t = t := fun t ht => tm_fl (mem_fl.1 (List.mem_filter.1 ht).1)
  rw [List.map_congr_left this, List.map_id']
  rfl
/-- readings of these times -/
def cnt (l : List Rp) : List Int → Nat
  | [] => 0
  | t :: T => (fl l t).length + cnt l T
theorem cnt_cons (p : Rp) (l : List Rp) : ∀ T, Asc1 T → cnt (p :: l) T = cnt l T + (if p.1 ∈ T then 1 else 0)
  | [], _ => by simp [cnt]
  | a :: T, h => by
    obtain ⟨h1, h2⟩ := List.pairwise_cons.1 h
    have ih := cnt_cons p l T h2
    unfold cnt
    rw [fl_cons, ih]
    by_cases e : p.1 = a
    · have hn : p.1 ∉ T := fun hm => by have := h1 _ hm; omega
      rw [if_pos e, if_neg hn, if_pos (by rw [e]; simp), List.length_cons]
      omega
    · by_cases hm : p.1 ∈ T
      · rw [if_neg e, if_pos hm, if_pos (List.mem_cons_of_mem _ hm)]; omega
      · rw [if_neg e, if_neg hm, if_neg (fun h => by rcases List.mem_cons.1 h with h | h; exact e h; exact hm h)]; omega
theorem cnt_nil : ∀ T, cnt [] T = 0
  | [] => rfl
  | t :: T => by show 0 + cnt [] T = 0; rw [cnt_nil T]
theorem cnt_all {T : List Int} (hT : Asc1 T) : ∀ l : List Rp, (∀ p ∈ l, p.1 ∈ T) → cnt l T = l.length
  | [], _ => cnt_nil T
  | p :: l, h => by rw [cnt_cons p l T hT, cnt_all hT l (fun q hq => h q (List.mem_cons_of_mem _ hq)), if_pos (h p (by simp)), List.length_cons]
theorem cnt_ge (l : List Rp) : ∀ T, (∀ t ∈ T, fl l t ≠ []) → T.length + (T.filter fun t => decide (1 < (fl l t).length)).length ≤ cnt l T
  | [], _ => by simp [cnt]
  | t :: T, h => by
    have ih := cnt_ge l T (fun x hx => h x (List.mem_cons_of_mem _ hx))
    have h0 := List.length_pos_iff.2 (h t (by simp))
    unfold cnt
    by_cases k : 1 < (fl l t).length
    · rw [List.filter_cons_of_pos (by simpa using k), List.length_cons, List.length_cons]; omega
    · rw [List.filter_cons_of_neg (by simpa using k), List.length_cons]; omega
theorem cnt_le (l : List Rp) : ∀ T, (∀ t ∈ T, (fl l t).length ≤ 1) → cnt l T ≤ T.length
  | [], _ => by simp [cnt]
  | t :: T, h => by
    have ih := cnt_le l T (fun x hx => h x (List.mem_cons_of_mem _ hx))
    have h0 := h t (by simp)
    unfold cnt
    rw [List.length_cons]; omega
theorem cnt_uts (l : List Rp) : cnt l (uts l) = l.length := cnt_all (uts_asc l) l fun p hp => (mem_uts l p.1).2 ⟨p, hp, rfl⟩
theorem rep_len (l : List Rp) : (grs l).length + (rpt (grs l)).length ≤ l.length := by
  have h := cnt_ge l (uts l) (fun t ht => mem_fl.1 ht)
  rw [cnt_uts] at h
  rw [rpt_eq, uts_len]
  exact h
theorem rep_none {l : List Rp} (h : (rpt (grs l)).length = 0) : (grs l).length = l.length ∧ ∀ q ∈ grs l, q.length ≤ 1 := by
  have e := List.length_eq_zero_iff.1 h
  rw [rpt_eq] at e
  have h1 : ∀ t ∈ uts l, (fl l t).length ≤ 1 := fun t ht => by
    rcases Nat.lt_or_ge 1 (fl l t).length with k | k
    · have : t ∈ (uts l).filter fun t => decide (1 < (fl l t).length) := List.mem_filter.2 ⟨ht, by simpa using k⟩
      rw [e] at this; cases this
    · exact k
  refine ⟨?_, fun q hq => ?_⟩
  · have a := cnt_le l (uts l) h1
    have b := cnt_ge l (uts l) (fun t ht => mem_fl.1 ht)
    rw [cnt_uts] at a b
    rw [uts_len]; omega
  · obtain ⟨t, ht, rfl⟩ := List.mem_map.1 hq
    exact h1 t ht
theorem rep_some {l : List Rp} (h : 0 < (rpt (grs l)).length) : ∃ i, i < (grs l).length ∧ 1 < ((grs l).getD i []).length := by
  unfold rpt at h
  rw [List.length_map] at h
  obtain ⟨q, hq⟩ := List.exists_mem_of_ne_nil _ (List.length_pos_iff.1 h)
  obtain ⟨h1, h2⟩ := List.mem_filter.1 hq
  obtain ⟨i, hi, e⟩ := List.getElem_of_mem h1
  refine ⟨i, hi, ?_⟩
  rw [List.getD_eq_getElem?_getD, List.getElem?_eq_getElem hi]
  show 1 < (grs l)[i].length
  rw [e]
  simpa using h2
theorem rep_two {l : List Rp} {i : Nat} (h : i < (rpt (grs l)).length) : 1 < (fl l ((rpt (grs l)).getD i 0)).length := by
  have hm : (rpt (grs l)).getD i 0 ∈ rpt (grs l) := by rw [List.getD_eq_getElem?_getD, List.getElem?_eq_getElem h]; exact List.getElem_mem h
  rw [rpt_eq] at hm ⊢
  simpa using (List.mem_filter.1 hm).2
theorem rep_asc {l : List Rp} {i : Nat} (h : i + 1 < (rpt (grs l)).length) : (rpt (grs l)).getD i 0 < (rpt (grs l)).getD (i + 1) 0 := by
  have ha : (rpt (grs l)).Pairwise (· < ·) := by rw [rpt_eq]; exact List.Pairwise.filter _ (uts_asc l)
  rw [List.getD_eq_getElem?_getD, List.getD_eq_getElem?_getD, List.getElem?_eq_getElem h, List.getElem?_eq_getElem (by omega : i < (rpt (grs l)).length)]
  exact List.pairwise_iff_getElem.1 ha i (i + 1) (by omega) h (by omega)
theorem cln_16 (l : List Rp) : cln 6 l = cln 1 l := rfl
theorem fl_next (l : List Rp) (t : Int) (i : Nat) (h : i < l.length) : fl (l.take (i + 1)) t = fl (l.take i) t ++ (if tm l i = t then [rd l i] else []) := by
  have e : l[i]? = some (rd l i) := by unfold rd; rw [List.getD_eq_getElem?_getD, List.getElem?_eq_getElem h]; rfl
  rw [List.take_add_one, e, fl_app]
  congr 1
  show fl [rd l i] t = _
  rw [fl_cons]
  rfl
/-- the values of a time -/
def vs (l : List Rp) (t : Int) : List Int := (fl l t).map (·.2)
theorem vs_next (l : List Rp) (t : Int) (i : Nat) (h : i < l.length) : vs (l.take (i + 1)) t = vs (l.take i) t ++ (if tm l i = t then [vl l i] else []) := by
  unfold vs
  rw [fl_next l t i h, List.map_append]
  congr 1
  by_cases k : tm l i = t
  · rw [if_pos k, if_pos k]; rfl
  · rw [if_neg k, if_neg k]; rfl
theorem vs_le (l : List Rp) (t : Int) : (vs l t).length ≤ l.length := by unfold vs; rw [List.length_map]; exact List.length_filter_le _ _
def SomeVl (l : List Rp) (t : Int) (w : World) (e : Ending) (w' : World) : Prop := ∃ v, e = .returned v ∧ w'.ownsRow w.heap.size 3 1 v (vs l t).length (zs (vs l t)) ∧ Bel w w'
set_option maxHeartbeats 8000000 in
set_option maxRecDepth 100000 in
theorem values_ok (A : Option Addr) (c n : Nat) (l : List Rp) (t : Int) (hn : n ≤ 2000) (w : World) (hz : Zo w A n l) :
    Calls Try.prog 14 #[.slice A n c, .int .i64 t] w (SomeVl l t w) := by
  have hl := hz.1
  have HZ := Lib.hid hz
  have ki : (n : Int) ≤ 2000 := by omega
  clear hz
  go_enter Try.func14, Try.ntmps14
  go_wp2
  go_loopw [5, 9] (fun s5 s9 wr => ∃ (i : Nat) (V : World) (u : Value), V = wr ∧ u = s5 ∧ i ≤ n ∧ s9 = .int .i64 (i : Int) ∧ wr.ownsRow w.heap.size 3 1 s5 (vs (l.take i) t).length (zs (vs (l.take i) t)) ∧ Bel w wr) (fun _ s9 _ => n - (intOf s9).toNat)
  case atStart => exact ⟨0, _, _, rfl, rfl, by omega, rfl, World.ownsRow_nil _ _ _ _, by first | exact Bel.rf | exact Bel.rf.drwN _⟩
  case round =>
    obtain ⟨i, wr, u, hwr, hu, hik, rfl, ho, hb⟩ := hrel
    subst hwr
    subst hu
    have HO := Lib.hid ho
    have HB := Lib.hid hb
    clear ho hb
    rcases Nat.lt_or_ge i n with hlt | hge
    · obtain ⟨g, o, e, hg, hcc⟩ := (HZ.out.bel HB.out).2 (by omega)
      subst e
      obtain ⟨c1, c2⟩ := hcc i hlt
      have hnx := vs_next l t i (by omega)
      obtain ⟨t0, ht0⟩ : ∃ x, tm l i = x := ⟨_, rfl⟩
      obtain ⟨v0, hv0⟩ : ∃ x, vl l i = x := ⟨_, rfl⟩
      rw [ht0] at c1 hnx
      rw [hv0] at c2 hnx
      have ii : (i : Int) < (n : Int) := by omega
      have i0 : (0 : Int) ≤ (i : Int) := by omega
      clear hcc ht0 hv0
      by_cases htt : t0 = t
      · subst htt
        rw [if_pos rfl] at hnx
        have HNX := Lib.hid hnx
        have HV : Hid (Bk (wr.alloc (.cells #[.int .i64 v0] 3)) wr.heap.size 3 #[.int .i64 v0]) := Bk.nw _ _ _
        have HOV : Hid ((wr.alloc (.cells #[.int .i64 v0] 3)).ownsRow w.heap.size 3 1 u (vs (l.take i) t0).length (zs (vs (l.take i) t0))) := own_bel HO.out (Bel.rf.al _)
        have HBV : Hid (Bel w (wr.alloc (.cells #[.int .i64 v0] 3))) := HB.out.al _
        have HL : Hid ((vs (l.take i) t0).length ≤ 100000) := by have := vs_le (l.take i) t0; rw [List.length_take] at this; show _ ≤ _; omega
        have sz : w.heap.size ≤ wr.heap.size := HB.out.size
        clear hnx
        go_wp2_with (at_builtin; refine list_app1 _ rfl (.tmp 19) (.tmp 25) rfl w.heap.size u (vs (l.take i) t0).length (vs (l.take i) t0) rfl (by first | exact HOV.out | exact own_bel HOV.out Bel.rf.drw | exact own_bel HOV.out (Bel.rf.drwN _)) wr.heap.size 1 v0 rfl (by first | exact HV.out | exact HV.out.drw | exact HV.out.drwN _) HL.out (by simp; omega) ?_; intro v' w4 h2 h3; have HO4 : Hid (w4.ownsRow w.heap.size 3 1 v' (vs (l.take (i + 1)) t0).length (zs (vs (l.take (i + 1)) t0))) := (by rw [HNX.out, List.length_append]; exact h2); have HB4 : Hid (Bel w w4) := Below.grown (by first | exact HBV.out | exact HBV.out.drw | exact HBV.out.drwN _) h3 (by first | exact HBV.out.size | exact HBV.out.drw.size | exact (HBV.out.drwN _).size) (fun q e => (HOV.out.lt q e).1); clear h2 h3)
        go_roundw
        case rel => exact ⟨i + 1, _, _, rfl, rfl, by omega, by go_num, HO4.out, by first | exact HB4.out | exact HB4.out.drwN _⟩
        case measure => simp [intOf]; omega
      · rw [if_neg htt, List.append_nil] at hnx
        have HNX := Lib.hid hnx
        have dn : (t0 == t) = false := by simp [htt]
        clear hnx
        go_wp2
        go_roundw
        case rel => exact ⟨i + 1, _, _, rfl, rfl, by omega, by go_num, by rw [HNX.out]; first | exact HO.out | exact own_bel HO.out (Bel.rf.drwN _), by first | exact HB.out | exact HB.out.drwN _⟩
        case measure => simp [intOf]; omega
    · obtain rfl : i = n := by omega
      have HO2 := HO.out
      rw [List.take_of_length_le (by omega)] at HO2
      have HO3 := Lib.hid HO2
      clear HO2
      go_wp2
      go_ret
      exact ⟨u, rfl, HO3.out, by first | exact HB.out | exact HB.out.drwN _⟩
end Go.Proofs.Ytgcjangnlbhicaa.St
