/- series.Runs as a call; plain facts of runs in order. -/
import Derived.Test.YthpmgadmefhfpaaSerC
namespace Go.Proofs.Ythpmgadmefhfpaa.Se
open Go.ChangeShapes Go.WideShapes Go.RowKit Wo Sr Wi
set_option linter.unusedVariables false
def SomeRuns (L : List Int) (w : World) (e : Ending) (w' : World) : Prop := ∃ (A : Option Addr) (k c : Nat), e = .returned (.slice A k c) ∧ k = (rns L 0 0).length ∧ Zq w' A k (rns L 0 0) ∧ Bel w w'
theorem aseq_c (Bx : Nat) (A : Option Addr) (c n : Nat) (L : List Int) (hn : n ≤ 2000) (w : World) (hbx : w.cell? ⟨Bx, 0, none⟩ = some (.slice A n c)) (hz : Zi w A n L) :
    Calls Try.prog 38 #[.slice none 0 0, .func (.func 39) #[] #[.pointer (some ⟨Bx, 0, none⟩)]] w (SomeRuns L w) := by
  refine (callsIn_wide.1 (aseq_in Bx A c n L hn w hbx hz)).mono ?_
  rintro e w' ⟨v, rfl, hr, hb⟩
  obtain ⟨A', c', rfl, hz'⟩ := own_zq hr rfl
  exact ⟨A', _, c', rfl, rfl, hz', hb⟩
theorem collect_c (Bx : Nat) (A : Option Addr) (c n : Nat) (L : List Int) (hn : n ≤ 2000) (w : World) (hbx : w.cell? ⟨Bx, 0, none⟩ = some (.slice A n c)) (hz : Zi w A n L) :
    Calls Try.prog 26 #[.func (.func 39) #[] #[.pointer (some ⟨Bx, 0, none⟩)]] w (SomeRuns L w) := by
  have AS := Lib.hid (aseq_c Bx A c n L hn w hbx hz)
  clear hbx hz
  go_enter Try.func26, Try.ntmps26
  go_wp2_with fail
  go_at_call 38
  refine AS.out.mono ?_
  rintro e w2 ⟨A', k', c', rfl, hk', hz', hb'⟩
  have HX := Lib.hid (And.intro hk' (And.intro hz' hb'))
  clear hk' hz' hb'
  go_wp2
  go_ret
  exact ⟨A', k', c', rfl, HX.out.1, HX.out.2.1, HX.out.2.2⟩
theorem runs_c (st sp : Int) (A : Option Addr) (n c : Nat) (L : List Int) (h : Sb st sp n) (hs : Sv L) (w : World) (hz : Zi w A n L) :
    Calls Try.prog 10 #[.agg #[.int .i64 st, .int .i64 sp, .slice A n c]] w (SomeRuns L w) := by
  have VA : Hid (∀ W, Zi W A n L → _) := fun W hW => valid_ok st sp A n c L h hs W hW
  have RN : Hid (∀ W, _) := fun W => runs_ok A n c W
  have CC : Hid (∀ Bx W, W.cell? ⟨Bx, 0, none⟩ = some (.slice A n c) → Zi W A n L → _) := fun Bx W h1 h2 => collect_c Bx A c n L h.2.2.2.2 W h1 h2
  have HZ := Lib.hid hz
  have HK := Lib.hid (Bk.nw w 24 #[.int .i64 st, .int .i64 sp, .slice A n c])
  clear hz hs h
  go_enter Try.func10, Try.ntmps10
  go_wp2_with fail
  go_at_call 25
  refine (VA.out _ (HZ.out.bel (Bel.rf.al _))).mono ?_
  rintro e w2 ⟨rfl, hb2⟩
  have B1 := HK.out.bel hb2
  have d2 := B1.cell 2
  have HB2 : Hid (Bel w w2) := (Bel.rf.al _).tr hb2
  clear B1 hb2
  go_wp2_with fail
  go_at_call 27
  refine (RN.out _).mono ?_
  rintro e w3 ⟨rfl, rfl⟩
  go_wp2_with fail
  go_at_call 26
  refine (CC.out _ _ ((Bk.nw w2 22 #[.slice A n c]).cell 0) (HZ.out.bel (HB2.out.al _))).mono ?_
  rintro e w4 ⟨A', k', c', rfl, hk', hz', hb'⟩
  have HX := Lib.hid (And.intro hk' (And.intro hz' hb'))
  clear hk' hz' hb'
  go_wp2
  go_ret
  exact ⟨A', k', c', rfl, HX.out.1, HX.out.2.1, HB2.out.tr ((Bel.rf.al _).tr HX.out.2.2)⟩
/-- where the run before t ends -/
def ed (l : List (Nat × Nat)) : Nat → Int
  | 0 => -1
  | t + 1 => (fr l t : Int) + (ct l t : Int)
/-- the values of the first t runs -/
def sm (l : List (Nat × Nat)) : Nat → Nat
  | 0 => 0
  | t + 1 => sm l t + ct l t
theorem asc_at {W : List Int} : ∀ (l : List (Nat × Nat)) (e : Int) (t : Nat), Asc W e l → t < l.length → (t = 0 → e < (fr l 0 : Int)) ∧ (∀ u, t = u + 1 → (fr l u : Int) + (ct l u : Int) < (fr l t : Int)) ∧ 1 ≤ ct l t ∧ fr l t + ct l t ≤ W.length ∧ ∀ j, j < ct l t → W.getD (fr l t + j) 1073741824 ≠ 1073741824
  | [], e, t, _, ht => by simp at ht
  | r :: rs, e, 0, h, ht => ⟨fun _ => h.1, fun u hu => by omega, h.2.1, h.2.2.1, h.2.2.2.1⟩
  | r :: rs, e, t + 1, h, ht => by
    have ih := asc_at rs ((r.1 : Int) + r.2) t h.2.2.2.2 (by simpa using ht)
    refine ⟨fun h0 => by omega, fun u hu => ?_, ih.2.2.1, ih.2.2.2.1, ih.2.2.2.2⟩
    have : u = t := by omega
    subst this
    rcases u with _ | u
    · exact ih.1 rfl
    · exact ih.2.1 u rfl
theorem ed_lt {L : List Int} {t : Nat} (ht : t < (rns L 0 0).length) : ed (rns L 0 0) t < (fr (rns L 0 0) t : Int) := by
  have h := asc_at (rns L 0 0) (-1) t (asc_all L) ht
  rcases t with _ | t
  · exact h.1 rfl
  · exact h.2.1 t rfl
theorem sm_all : ∀ l : List (Nat × Nat), sm l l.length = (l.map Prod.snd).sum := by
  have key : ∀ (l : List (Nat × Nat)) (t : Nat), t ≤ l.length → sm l t = ((l.take t).map Prod.snd).sum := by
    intro l t
    induction t with
    | zero => intro _; simp [sm]
    | succ t ih =>
      intro ht
      have e : l.take (t + 1) = l.take t ++ [l.getD t (0, 0)] := by
        rw [List.take_succ_eq_append_getElem (by omega), List.getD_eq_getElem?_getD, List.getElem?_eq_getElem (by omega)]; rfl
      show sm l t + ct l t = _
      rw [ih (by omega), e]
      simp [ct]
  intro l
  have := key l l.length (Nat.le_refl _)
  rwa [List.take_length] at this
theorem sm_cnt (L : List Int) : sm (rns L 0 0) (rns L 0 0).length = cnt L := by
  rw [sm_all, rns_sum]; omega
theorem sm_le (l : List (Nat × Nat)) : ∀ (q t : Nat), t ≤ q → sm l t ≤ sm l q
  | 0, t, h => by have : t = 0 := by omega
                  subst this; exact Nat.le_refl _
  | q + 1, t, h => by
    rcases Nat.lt_or_ge t (q + 1) with h1 | h1
    · have := sm_le l q t (by omega)
      show _ ≤ sm l q + ct l q
      omega
    · have : t = q + 1 := by omega
      subst this; exact Nat.le_refl _
theorem cnt_le (L : List Int) : cnt L ≤ L.length := List.countP_le_length
theorem cnt_take (L : List Int) (t : Nat) (h : t < L.length) : cnt (L.take (t + 1)) = cnt (L.take t) + if L.getD t 1073741824 = 1073741824 then 0 else 1 := by
  have e : L.take (t + 1) = L.take t ++ [L.getD t 1073741824] := by
    rw [List.take_succ_eq_append_getElem h, List.getD_eq_getElem?_getD, List.getElem?_eq_getElem h]; rfl
  rw [e, cnt_app]
  generalize L.getD t 1073741824 = x
  congr 1
  unfold cnt
  split
  · rename_i hh; simp [hh]
  · rename_i hh; simp [hh]
theorem runs_len (L : List Int) : (rns L 0 0).length ≤ L.length := by
  have h : ∀ (l : List (Nat × Nat)), (∀ t, t < l.length → 1 ≤ ct l t) → l.length ≤ sm l l.length := by
    intro l hl
    have : ∀ t, t ≤ l.length → t ≤ sm l t := by
      intro t
      induction t with
      | zero => intro _; exact Nat.zero_le _
      | succ t ih => intro ht; have := ih (by omega); have := hl t (by omega); show _ ≤ sm l t + ct l t; omega
    exact this _ (Nat.le_refl _)
  have h1 := h (rns L 0 0) (fun t ht => (asc_at _ (-1) t (asc_all L) ht).2.2.1)
  rw [sm_cnt] at h1
  exact Nat.le_trans h1 (cnt_le L)
theorem getD_two {L : List Int} {i : Nat} (h : i < L.length) : L.getD i 1073741824 = L.getD i 0 := by
  simp [List.getD_eq_getElem?_getD, List.getElem?_eq_getElem h]
end Go.Proofs.Ythpmgadmefhfpaa.Se
