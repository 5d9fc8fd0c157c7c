/- Plain facts of cleaned readings: cleaning again, the order of readings, parts. -/
import Derived.Test.YtgcjangnlbhicaaStH
namespace Go.Proofs.Ytgcjangnlbhicaa.St
open Go.ChangeShapes Go.WideShapes Go.RowKit Wo Sr Wi Rm Rg
set_option linter.unusedVariables false
theorem cln_eq (p : Int) (l : List Rp) : cln p l = (uts l).map fun t => (t, val p (fl l t)) := by
  unfold cln grs
  rw [List.map_map]
  refine List.map_congr_left fun t ht => ?_
  show (tm (fl l t) 0, _) = _
  rw [tm_fl (mem_fl.1 ht)]
theorem cln_fst (p : Int) (l : List Rp) : (cln p l).map (·.1) = uts l := by
  rw [cln_eq, List.map_map]
  exact List.map_id' _
theorem one_uts {L : List Rp} (h : Asc1 (L.map (·.1))) : uts L = L.map (·.1) := asc_one _ _ (uts_asc L) h fun x => by
  rw [mem_uts, List.mem_map]
theorem one_fl : ∀ {L : List Rp}, Asc1 (L.map (·.1)) → ∀ x ∈ L, fl L x.1 = [x]
  | [], _, x, hx => by cases hx
  | a :: L, h, x, hx => by
    rw [List.map_cons] at h
    obtain ⟨h1, h2⟩ := List.pairwise_cons.1 h
    rw [fl_cons]
    rcases List.mem_cons.1 hx with rfl | hm
    · rw [if_pos rfl, fl_none fun y hy => by have := h1 _ (List.mem_map_of_mem (f := (·.1)) hy); intro e; omega]
    · have := h1 _ (List.mem_map_of_mem (f := (·.1)) hm)
      rw [if_neg (by omega)]
      exact one_fl h2 x hm
theorem val_one (p : Int) (x : Rp) : val p [x] = x.2 := by
  unfold val
  have h5 : Un.hup (sumk [x] [x].length) (([x].length : Nat) : Int) = x.2 := by
    show Un.hup (0 + x.2) 1 = x.2
    unfold Un.hup
    omega
  rw [h5]
  split
  · rfl
  · split
    · rfl
    · split
      · rfl
      · split <;> rfl
theorem cln_asc (p : Int) (l : List Rp) : Asc1 ((cln p l).map (·.1)) := by rw [cln_fst]; exact uts_asc l
theorem cln_fl (p : Int) (l : List Rp) (t : Int) : fl (cln p l) t = if fl l t = [] then [] else [(t, val p (fl l t))] := by
  by_cases h : fl l t = []
  · rw [if_pos h]
    refine fl_none fun x hx e => ?_
    rw [cln_eq] at hx
    obtain ⟨u, hu, rfl⟩ := List.mem_map.1 hx
    exact mem_fl.1 hu (by rw [show u = t from e]; exact h)
  · rw [if_neg h]
    exact one_fl (cln_asc p l) (t, val p (fl l t)) (by rw [cln_eq]; exact List.mem_map.2 ⟨t, mem_fl.2 h, rfl⟩)
theorem uts_cln (p : Int) (l : List Rp) : uts (cln p l) = uts l := by rw [one_uts (cln_asc p l), cln_fst]
theorem cln_cln (p q : Int) (l : List Rp) : cln q (cln p l) = cln p l := by
  rw [cln_eq q, uts_cln, cln_eq p]
  refine List.map_congr_left fun t ht => ?_
  rw [← cln_eq, cln_fl, if_neg (mem_fl.1 ht), val_one]
theorem rpt_cln (p : Int) (l : List Rp) : rpt (grs (cln p l)) = [] := by
  rw [rpt_eq, List.filter_eq_nil_iff]
  intro t ht
  rw [cln_fl]
  split <;> simp
theorem grs_cln (p : Int) (l : List Rp) : ∀ q ∈ grs (cln p l), q.length ≤ 1 := (rep_none (by rw [rpt_cln]; rfl)).2
theorem val_in {q : List Rp} (h : Vls q) (h0 : 0 < q.length) (p : Int) : -1000 ≤ val p q ∧ val p q ≤ 1000 := by
  unfold val
  split
  · exact h _ (by omega)
  · split
    · obtain ⟨⟨j, hj, e⟩, _⟩ := lo_spec q h0
      rw [← e]; exact h j hj
    · split
      · obtain ⟨⟨j, hj, e⟩, _⟩ := hi_spec q h0
        rw [← e]; exact h j hj
      · split
        · obtain ⟨a, b⟩ := sumk_in h q.length (Nat.le_refl _)
          obtain ⟨n, hn⟩ : ∃ n, q.length = n := ⟨_, rfl⟩
          obtain ⟨S, hS⟩ : ∃ S, sumk q q.length = S := ⟨_, rfl⟩
          rw [hS] at a b ⊢
          rw [hn] at a b h0 ⊢
          unfold Un.hup
          refine ⟨Int.le_ediv_of_mul_le (by omega) (by omega), Int.lt_add_one_iff.1 (Int.ediv_lt_of_lt_mul (by omega) (by omega))⟩
        · exact h 0 h0
theorem grs_pos' {l : List Rp} {t : Int} (h : t ∈ uts l) : 0 < (fl l t).length := List.length_pos_iff.2 (mem_fl.1 h)
theorem fl_vls {l : List Rp} (hv : Vrs l) {t : Int} (h : t ∈ uts l) : Vls (fl l t) := (grs_vls hv (List.mem_map.2 ⟨t, h, rfl⟩)).1
theorem cln_at {p : Int} {l : List Rp} {i : Nat} (h : i < (uts l).length) : rd (cln p l) i = ((uts l).getD i 0, val p (fl l ((uts l).getD i 0))) ∧ (uts l).getD i 0 ∈ uts l := by
  refine ⟨?_, by rw [List.getD_eq_getElem?_getD, List.getElem?_eq_getElem h]; exact List.getElem_mem h⟩
  unfold rd
  rw [cln_eq, List.getD_eq_getElem?_getD, List.getD_eq_getElem?_getD, List.getElem?_map, List.getElem?_eq_getElem h]
  rfl
theorem cln_vrs {l : List Rp} (hv : Vrs l) (p : Int) : Vrs (cln p l) := fun i hi => by
  rw [cln_len, uts_len] at hi
  obtain ⟨e, hm⟩ := cln_at (p := p) hi
  rw [tm_rd, vl_rd, e]
  obtain ⟨x, hx, ex⟩ := (mem_uts l _).1 hm
  obtain ⟨j, hj, ej⟩ := mem_at hx
  have h1 := hv j hj
  rw [tm_rd, ej, ex] at h1
  exact ⟨h1.1, h1.2.1, val_in (fl_vls hv hm) (grs_pos' hm) p⟩
theorem uts_lt {l : List Rp} {i j : Nat} (hij : i < j) (h : j < (uts l).length) : (uts l).getD i 0 < (uts l).getD j 0 := by
  rw [List.getD_eq_getElem?_getD, List.getD_eq_getElem?_getD, List.getElem?_eq_getElem h, List.getElem?_eq_getElem (by omega : i < (uts l).length)]
  exact List.pairwise_iff_getElem.1 (uts_asc l) i j (by omega) h hij
/-- between the least and the greatest -/
theorem val_mid {q : List Rp} (h : Vls q) (h0 : 0 < q.length) (p : Int) : lo q ≤ val p q ∧ val p q ≤ hi q := by
  obtain ⟨⟨j1, k1, e1⟩, l1⟩ := lo_spec q h0
  obtain ⟨⟨j2, k2, e2⟩, l2⟩ := hi_spec q h0
  have hlh : lo q ≤ hi q := by have := l2 j1 k1; omega
  unfold val
  split
  · exact ⟨l1 _ (by omega), l2 _ (by omega)⟩
  · split
    · omega
    · split
      · omega
      · split
        · have hs : ∀ k, k ≤ q.length → lo q * (k : Int) ≤ sumk q k ∧ sumk q k ≤ hi q * (k : Int) := fun k => by
            induction k with
            | zero => intro _; simp [sumk]
            | succ k ih =>
              intro hk
              have a := ih (by omega)
              have b := l1 k (by omega)
              have c := l2 k (by omega)
              unfold sumk
              rw [show ((k + 1 : Nat) : Int) = (k : Int) + 1 by omega, Int.mul_add, Int.mul_add, Int.mul_one, Int.mul_one]
              omega
          obtain ⟨a, b⟩ := hs q.length (Nat.le_refl _)
          obtain ⟨n, hn⟩ : ∃ n : Int, (q.length : Int) = n := ⟨_, rfl⟩
          obtain ⟨S, hS⟩ : ∃ S, sumk q q.length = S := ⟨_, rfl⟩
          have n0 : 0 < n := by omega
          rw [hS] at a b ⊢
          rw [hn] at a b ⊢
          obtain ⟨L, hL⟩ : ∃ L, lo q = L := ⟨_, rfl⟩
          obtain ⟨H, hH⟩ : ∃ L, hi q = L := ⟨_, rfl⟩
          rw [hL] at a ⊢
          rw [hH] at b ⊢
          unfold Un.hup
          refine ⟨Int.le_ediv_of_mul_le (by omega) ?_, Int.lt_add_one_iff.1 (Int.ediv_lt_of_lt_mul (by omega) ?_)⟩
          · rw [Int.mul_left_comm]; omega
          · rw [Int.mul_left_comm, Int.add_mul, Int.one_mul]; omega
        · exact ⟨l1 0 h0, l2 0 h0⟩
/-! the order of readings -/
theorem perm_uts {l m : List Rp} (h : l.Perm m) : uts l = uts m := asc_one _ _ (uts_asc _) (uts_asc _) fun x => by
  rw [mem_uts, mem_uts]
  exact ⟨fun ⟨p, hp, e⟩ => ⟨p, h.mem_iff.1 hp, e⟩, fun ⟨p, hp, e⟩ => ⟨p, h.mem_iff.2 hp, e⟩⟩
theorem sumk_eq (q : List Rp) : ∀ k, k ≤ q.length → sumk q k = ((q.take k).map (·.2)).sum
  | 0, _ => by simp [sumk]
  | k + 1, hk => by
    unfold sumk
    rw [sumk_eq q k (by omega), List.take_add_one, List.getElem?_eq_getElem (by omega), List.map_append, List.sum_append]
    congr 1
    simp [vl, List.getD_eq_getElem?_getD, List.getElem?_eq_getElem (show k < q.length by omega)]
theorem sum_perm {l m : List Int} (h : l.Perm m) : l.sum = m.sum := by
  induction h with
  | nil => rfl
  | cons x _ ih => rw [List.sum_cons, List.sum_cons, ih]
  | swap x y l => simp only [List.sum_cons]; omega
  | trans _ _ i1 i2 => exact i1.trans i2
theorem perm_at {l m : List Rp} (h : l.Perm m) {j : Nat} (hj : j < l.length) : ∃ k, k < m.length ∧ vl m k = vl l j := by
  obtain ⟨k, hk, e⟩ := mem_at (h.mem_iff.1 (at_mem hj))
  exact ⟨k, hk, by rw [vl_rd, vl_rd, e]⟩
theorem val_perm {l m : List Rp} (h : l.Perm m) {p : Int} (h3 : 3 ≤ p) (h5 : p ≤ 5) : val p l = val p m := by
  have hl := h.length_eq
  rcases Nat.eq_zero_or_pos l.length with h0 | h0
  · have e1 := List.length_eq_zero_iff.1 h0
    have e2 := List.length_eq_zero_iff.1 (hl ▸ h0)
    rw [e1, e2]
  · rcases (by omega : p = 3 ∨ p = 4 ∨ p = 5) with rfl | rfl | rfl
    · show lo l = lo m
      obtain ⟨⟨j, hj, e⟩, h2⟩ := lo_spec l h0
      refine lo_one ?_ fun k hk => ?_
      · obtain ⟨k, hk, e2⟩ := perm_at h hj; exact ⟨k, hk, e2.trans e⟩
      · obtain ⟨i, hi, e2⟩ := perm_at h.symm hk; rw [← e2]; exact h2 i hi
    · show hi l = hi m
      obtain ⟨⟨j, hj, e⟩, h2⟩ := hi_spec l h0
      refine hi_one ?_ fun k hk => ?_
      · obtain ⟨k, hk, e2⟩ := perm_at h hj; exact ⟨k, hk, e2.trans e⟩
      · obtain ⟨i, hi, e2⟩ := perm_at h.symm hk; rw [← e2]; exact h2 i hi
    · show Un.hup (sumk l l.length) (l.length : Int) = Un.hup (sumk m m.length) (m.length : Int)
      rw [sumk_eq m _ (Nat.le_refl _), sumk_eq l _ (Nat.le_refl _), List.take_length, List.take_length, sum_perm (h.map (·.2)), hl]
theorem cln_perm {l m : List Rp} (h : l.Perm m) {p : Int} (h3 : 3 ≤ p) (h5 : p ≤ 5) : cln p l = cln p m := by
  rw [cln_eq, cln_eq, perm_uts h]
  refine List.map_congr_left fun t _ => ?_
  have hp : (fl l t).Perm (fl m t) := h.filter _
  rw [val_perm hp h3 h5]
theorem cln_rev (l : List Rp) : cln 2 l.reverse = cln 1 l := by
  rw [cln_eq, cln_eq, perm_uts (List.reverse_perm l)]
  refine List.map_congr_left fun t ht => ?_
  have h0 := grs_pos' ht
  have e : fl l.reverse t = (fl l t).reverse := by unfold fl; exact List.filter_reverse ..
  rw [e]
  have h1 : val 2 (fl l t).reverse = vl (fl l t).reverse ((fl l t).length - 1) := by unfold val; rw [if_pos rfl, List.length_reverse]
  have h2 : val 1 (fl l t) = vl (fl l t) 0 := by unfold val; rw [if_neg (by decide), if_neg (by decide), if_neg (by decide), if_neg (by decide)]
  rw [h1, h2]
  unfold vl
  rw [List.getD_eq_getElem?_getD, List.getD_eq_getElem?_getD, List.getElem?_reverse (by omega)]
  rw [show (fl l t).length - 1 - ((fl l t).length - 1) = 0 by omega]
/-! parts -/
theorem lo_app : ∀ {a b : List Rp}, 0 < a.length → 0 < b.length → lo (a ++ b) = min (lo a) (lo b)
  | [], _, h, _ => by simp at h
  | [p], [], _, h => by simp at h
  | [p], q :: b, _, _ => by show (if p.2 ≤ lo (q :: b) then p.2 else lo (q :: b)) = min p.2 (lo (q :: b)); omega
  | p :: q :: a, b, _, hb => by
    have ih := lo_app (a := q :: a) (b := b) (by simp) hb
    show (if p.2 ≤ lo ((q :: a) ++ b) then p.2 else lo ((q :: a) ++ b)) = min (if p.2 ≤ lo (q :: a) then p.2 else lo (q :: a)) (lo b)
    rw [ih]; omega
theorem hi_app : ∀ {a b : List Rp}, 0 < a.length → 0 < b.length → hi (a ++ b) = max (hi a) (hi b)
  | [], _, h, _ => by simp at h
  | [p], [], _, h => by simp at h
  | [p], q :: b, _, _ => by show (if hi (q :: b) ≤ p.2 then p.2 else hi (q :: b)) = max p.2 (hi (q :: b)); omega
  | p :: q :: a, b, _, hb => by
    have ih := hi_app (a := q :: a) (b := b) (by simp) hb
    show (if hi ((q :: a) ++ b) ≤ p.2 then p.2 else hi ((q :: a) ++ b)) = max (if hi (q :: a) ≤ p.2 then p.2 else hi (q :: a)) (hi b)
    rw [ih]; omega
theorem vl_fst {a b : List Rp} (h : 0 < a.length) : vl (a ++ b) 0 = vl a 0 := by
  unfold vl; rw [List.getD_eq_getElem?_getD, List.getD_eq_getElem?_getD, List.getElem?_append_left h]
theorem vl_lst {a b : List Rp} (h : 0 < b.length) : vl (a ++ b) ((a ++ b).length - 1) = vl b (b.length - 1) := by
  unfold vl
  rw [List.getD_eq_getElem?_getD, List.getD_eq_getElem?_getD, List.length_append, List.getElem?_append_right (by omega), show a.length + b.length - 1 - a.length = b.length - 1 by omega]
/-- what a policy makes of two parts -/
def two (q : Int) (x y : Int) : Int := if q = 2 then y else if q = 3 then min x y else if q = 4 then max x y else x
theorem val_app {a b : List Rp} (ha : 0 < a.length) (hb : 0 < b.length) {q : Int} (q1 : 1 ≤ q) (q4 : q ≤ 4) : val q (a ++ b) = two q (val q a) (val q b) := by
  rcases (by omega : q = 1 ∨ q = 2 ∨ q = 3 ∨ q = 4) with rfl | rfl | rfl | rfl
  · exact vl_fst ha
  · exact vl_lst hb
  · exact lo_app ha hb
  · exact hi_app ha hb
theorem val_sub {x m m' y : List Rp} (hm : 0 < m.length) (hm' : 0 < m'.length) {q : Int} (q1 : 1 ≤ q) (q4 : q ≤ 4) (e : val q m' = val q m) : val q (x ++ (m' ++ y)) = val q (x ++ (m ++ y)) := by
  have h2 : val q (m' ++ y) = val q (m ++ y) := by
    rcases Nat.eq_zero_or_pos y.length with h | h
    · rw [List.length_eq_zero_iff.1 h, List.append_nil, List.append_nil, e]
    · rw [val_app hm' h q1 q4, val_app hm h q1 q4, e]
  rcases Nat.eq_zero_or_pos x.length with h | h
  · rw [List.length_eq_zero_iff.1 h, List.nil_append, List.nil_append, h2]
  · rw [val_app h (by rw [List.length_append]; omega) q1 q4, val_app h (by rw [List.length_append]; omega) q1 q4, h2]
theorem cln_mid (x m y : List Rp) {q : Int} (q1 : 1 ≤ q) (q4 : q ≤ 4) : cln q (x ++ (cln q m ++ y)) = cln q (x ++ (m ++ y)) := by
  have hf : ∀ t, fl (x ++ (cln q m ++ y)) t = [] ↔ fl (x ++ (m ++ y)) t = [] := fun t => by
    simp only [fl_app, List.append_eq_nil_iff, cln_fl]
    by_cases h : fl m t = [] <;> simp [h]
  have hu : uts (x ++ (cln q m ++ y)) = uts (x ++ (m ++ y)) := asc_one _ _ (uts_asc _) (uts_asc _) fun t => by rw [mem_fl, mem_fl]; exact not_congr (hf t)
  rw [cln_eq q (x ++ (cln q m ++ y)), cln_eq q (x ++ (m ++ y)), hu]
  refine List.map_congr_left fun t ht => ?_
  rw [fl_app, fl_app, fl_app, fl_app, cln_fl]
  by_cases h : fl m t = []
  · rw [if_pos h, h]
  · rw [if_neg h, val_sub (List.length_pos_iff.2 h) (by simp) q1 q4 (by rw [val_one])]
theorem cln_parts {q : Int} (q1 : 1 ≤ q) (q4 : q ≤ 4) : ∀ (P : List (List Rp)) (a : List Rp), cln q (a ++ (P.map (cln q)).flatten) = cln q (a ++ P.flatten)
  | [], _ => rfl
  | m :: P, a => by
    rw [List.map_cons, List.flatten_cons, List.flatten_cons, ← List.append_assoc, cln_parts q1 q4 P (a ++ cln q m), List.append_assoc, cln_mid a m P.flatten q1 q4]
end Go.Proofs.Ytgcjangnlbhicaa.St
