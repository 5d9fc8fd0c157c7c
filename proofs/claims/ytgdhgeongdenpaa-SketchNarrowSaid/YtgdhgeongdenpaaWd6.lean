/- keep.Cuts, keep.Scheme. -/
import Derived.Test.YtgdhgeongdenpaaWd5
import Derived.Test.YtgdhgeongdenpaaWdK
import Derived.Test.YtgdhgeongdenpaaSrcLen
import Derived.Test.YtgdhgeongdenpaaAppW
namespace Go.Proofs.Ytgdhgeongdenpaa.Wd
open Go.ChangeShapes Go.WideShapes Go.RowKit Wo Sr Wi Ms
set_option linter.unusedVariables false
set_option linter.unusedSimpArgs false
theorem cv_snoc {C : List Int} {y : Int} (h : Cv C) (hl : C.length < 15) (hy : ∀ j, j < C.length → C.getD j 0 < y) (y1 : -2000 ≤ y) (y2 : y ≤ 2000) : Cv (C ++ [y]) := by
  have hg : ∀ j, j < C.length + 1 → (C ++ [y]).getD j 0 = if j < C.length then C.getD j 0 else y := fun j hj => by
    rw [List.getD_eq_getElem?_getD, List.getD_eq_getElem?_getD]
    by_cases k : j < C.length
    · rw [if_pos k, List.getElem?_append_left k]
    · rw [if_neg k, List.getElem?_append_right (by omega), show j - C.length = 0 by omega]; rfl
  have hn : (C ++ [y]).length = C.length + 1 := by simp
  refine ⟨by omega, fun i hi => ?_, fun i hi => ?_⟩
  · rw [hn] at hi
    rw [hg i hi]
    split
    · exact h.2.1 i (by assumption)
    · exact ⟨y1, y2⟩
  · rw [hn] at hi
    rw [hg i (by omega), hg (i + 1) hi, if_pos (by omega)]
    split
    · exact h.2.2 i (by assumption)
    · exact hy i (by omega)
theorem cq_top {C : List Int} {k : Nat} {S : Int} (hl : C.length = k) (h : ∀ j, j < k → C.getD j 0 < S) : ∀ j, j < k + 1 → (C ++ [S]).getD j 0 ≤ S := fun j hj => by
  rw [List.getD_eq_getElem?_getD]
  rcases Nat.lt_or_ge j k with q | q
  · rw [List.getElem?_append_left (by omega), ← List.getD_eq_getElem?_getD]; exact Int.le_of_lt (h j q)
  · rw [List.getElem?_append_right (by omega), show j - C.length = 0 by omega]; exact Int.le_refl _
theorem cv_nil : Cv [] := ⟨by simp, fun i hi => by simp at hi, fun i hi => by simp at hi⟩
def SomeCuts (g : Nat) (w : World) (e : Ending) (w' : World) : Prop := ∃ v k C, e = .returned v ∧ w'.ownsRow w.heap.size 3 1 v k (zs C) ∧ C.length = k ∧ Cv C ∧ Ok w' g ∧ Ch g w w'
/-- the cuts so far -/
structure Cq (g base N : Nat) (w wr : World) (v : Value) (x : Int) (k : Nat) (C : List Int) : Prop where
  le : k ≤ N
  own : wr.ownsRow base 3 1 v k (zs C)
  len : C.length = k
  cv : Cv C
  top : ∀ j, j < k → C.getD j 0 ≤ x
  lo : -400 ≤ x
  hi : x ≤ 60 * (k : Int)
  ok : Ok wr g
  ch : Ch g w wr
  sz : base ≤ wr.heap.size
set_option maxHeartbeats 8000000 in
set_option maxRecDepth 100000 in
theorem cuts_any (g : Nat) (w : World) (h : Ok w g) : Calls Try.prog 39 #[.pointer (some ⟨g, 0, none⟩)] w (SomeCuts g w) := by
  have HGB := Lib.hid h.lt
  have HO0 := Lib.hid h
  clear h
  go_enter Try.func39, Try.ntmps39
  go_wp2_with fail
  go_at_call 40
  refine (pick_any g w.heap.size [-400, -60, -10, -3, 0] 5 (by rfl) (by decide) (by decide) (by have := HGB.out; omega) _ (HO0.out.bel (Bel.rf.al _)) (lst_new _ _ _ _ (by rfl) _ rfl)).mono ?_
  rintro e w1 ⟨x, rfl, hx, ho, hc⟩
  have hx1 : -400 ≤ x ∧ x ≤ 0 := by simp at hx; omega
  have HO1 := Lib.hid ho
  have HC1 : Hid (Ch g w w1) := (Ch.rf.al _).tr hc
  have HX1 := Lib.hid hx1
  clear ho hc hx hx1
  go_wp2_with fail
  go_at_call 40
  refine (pick_any g w1.heap.size [1, 3, 10, 60] 4 (by rfl) (by decide) (by decide) (by have := HO1.out.lt; omega) _ (HO1.out.bel (Bel.rf.al _)) (lst_new _ _ _ _ (by rfl) _ rfl)).mono ?_
  rintro e w2 ⟨st, rfl, hst, ho, hc⟩
  have hs1 : 1 ≤ st ∧ st ≤ 60 := by simp at hst; omega
  obtain ⟨st0, st1⟩ := hs1
  have HO2 := Lib.hid ho
  have HC2 : Hid (Ch g w w2) := (HC1.out.al _).tr hc
  clear ho hc hst
  go_wp2_with fail
  go_at_call 21
  refine (n_any g 16 (by decide) (by decide) _ HO2.out).mono ?_
  rintro e w3 ⟨nn, rfl, n0, n1, ho, hc⟩
  obtain ⟨N, rfl⟩ := Int.eq_ofNat_of_zero_le n0
  have HO3 := Lib.hid ho
  have HC3 : Hid (Ch g w w3) := HC2.out.tr hc
  have N15 : N ≤ 15 := by omega
  clear ho hc n0 n1
  have HR0 : Hid (Cq g w.heap.size N w w3 (.slice none 0 0) x 0 []) := ⟨by omega, World.ownsRow_nil _ _ _ _, rfl, cv_nil, fun j hj => by omega, HX1.out.1, by have := HX1.out.2; omega, HO3.out, HC3.out, HC3.out.sz⟩
  go_wp2
  go_loopw [3, 4, 6] (fun s3 s4 s6 wr => ∃ (k : Nat) (C : List Int) (y i : Int) (V : World) (u : Value), V = wr ∧ u = s3 ∧ s4 = .int .i64 y ∧ s6 = .int .i64 i ∧ i = (N : Int) - (k : Int) ∧ Cq g w.heap.size N w wr s3 y k C) (fun _ _ s6 _ => (intOf s6).toNat)
  case atStart => exact ⟨0, [], x, _, _, _, rfl, rfl, rfl, rfl, by omega, HR0.out⟩
  case round =>
    clear HR0
    obtain ⟨k, C, y, i, wr, u, hwr, hu, rfl, rfl, hi, hq⟩ := hrel
    subst hwr
    subst hu
    have HQ := Lib.hid hq
    have hkN := hq.le
    have y0 := hq.lo
    have y1 := hq.hi
    clear hq
    rcases Nat.lt_or_ge k N with hlt | hge
    · have i0 : 0 < i := by omega
      have i1 : i ≤ 15 := by omega
      have HI := Lib.hid hi
      have y2 : y ≤ 900 := by omega
      clear hi y1
      go_wp2_with fail
      go_at_call 28
      refine (range_any g 1 st (by decide) (by omega) (by omega) _ HQ.out.ok).mono ?_
      rintro e w6 ⟨d, rfl, d0, d1, ho, hc⟩
      have HG6 := Lib.hid ho
      have HC6 := Lib.hid hc
      obtain ⟨S, hS⟩ : ∃ S, y + d = S := ⟨_, rfl⟩
      have wS : wrap64 S = S := IntWalk.wrap64_in _ (by omega)
      have wS2 : IntKind.i64.wrap S = S := IntWalk.i64_in _ (by omega)
      have S0 : -400 ≤ S := by omega
      have S1 : S ≤ 960 := by omega
      have HS2 : Hid (∀ j, j < k → C.getD j 0 < S) := fun j hj => by have := HQ.out.top j hj; omega
      have HS3 : Hid (S ≤ 60 * ((k + 1 : Nat) : Int)) := by have := HQ.out.hi; show S ≤ _; omega
      have HOW : Hid (w6.ownsRow w.heap.size 3 1 u k (zs C)) := own_ch HQ.out.own HC6.out HGB.out
      have HSZ : Hid (w.heap.size ≤ w6.heap.size) := (HQ.out.ch.tr HC6.out).sz
      have HB7 : Hid (Bk (w6.alloc (.cells #[.int .i64 S] 3)) w6.heap.size 3 #[.int .i64 S]) := Bk.nw _ _ _
      have HK1 : Hid (k + 1 ≤ 1000000) := (by omega : _ ≤ _)
      clear ho hc d0 d1
      go_wp2_with (at_builtin; refine list_app _ rfl _ _ rfl w.heap.size u k C rfl (own_bel HOW.out (by repeat (first | exact Bel.rf | (with_reducible refine Bel.drwN ?_ _) | (with_reducible refine Bel.drw ?_) | (with_reducible refine Bel.al ?_ _)))) ⟨w6.heap.size, 0, none⟩ 1 1 [S] rfl (zi_bk (L := [S]) (HB7.out.bel (by repeat (first | exact Bel.rf | (with_reducible refine Bel.drwN ?_ _) | (with_reducible refine Bel.drw ?_) | (with_reducible refine Bel.al ?_ _)))) 1 rfl) HK1.out (by have := HSZ.out; simp; omega) ?_; intro v8 w8 h8 hg8 _; have HQ8 : Hid (Cq g w.heap.size N w w8 v8 S (k + 1) (C ++ [S])) := ⟨hlt, h8, by rw [List.length_append, HQ.out.len]; rfl, cv_snoc HQ.out.cv (by rw [HQ.out.len]; omega) (by rw [HQ.out.len]; exact HS2.out) (by omega) (by omega), cq_top HQ.out.len HS2.out, S0, HS3.out, ok_grown (HG6.out.bel (by repeat (first | exact Bel.rf | (with_reducible refine Bel.drwN ?_ _) | (with_reducible refine Bel.drw ?_) | (with_reducible refine Bel.al ?_ _)))) hg8 (fun b e => by have := (HOW.out.lt b e).1; have := HGB.out; omega), ch_grown ((HQ.out.ch.tr HC6.out).tr (Ch.of_bel (by repeat (first | exact Bel.rf | (with_reducible refine Bel.drwN ?_ _) | (with_reducible refine Bel.drw ?_) | (with_reducible refine Bel.al ?_ _))))) hg8 (fun b e => (HOW.out.lt b e).1), by have := hg8.size; have := HSZ.out; simp at *; omega⟩; clear h8 hg8)
      go_roundw
      case rel => exact ⟨k + 1, _, S, _, _, _, rfl, rfl, rfl, rfl, by have := HI.out; omega, HQ8.out⟩
      case measure => simp [intOf]; omega
    · have i0 : ¬ 0 < i := by omega
      have i00 : i = 0 := by omega
      subst i00
      clear hi
      go_wp2
      go_ret
      exact ⟨u, k, C, rfl, HQ.out.own, HQ.out.len, HQ.out.cv, HQ.out.ok, HQ.out.ch⟩
end Go.Proofs.Ytgdhgeongdenpaa.Wd
