/- word.Region of valid words. -/
import Derived.Test.YtgdhgeongdenpaaWd4
namespace Go.Proofs.Ytgdhgeongdenpaa.Wd
open Go.ChangeShapes Go.WideShapes Go.RowKit Wo Sr Wi Ms
set_option linter.unusedVariables false
set_option linter.unusedSimpArgs false
abbrev Rp := Int × Int
def rs (l : List Rp) : List Value := l.flatMap fun p => [.int .i64 p.1, .int .i64 p.2]
theorem rs_cons (p : Rp) (l : List Rp) : rs (p :: l) = .int .i64 p.1 :: .int .i64 p.2 :: rs l := rfl
theorem rs_at : ∀ (l : List Rp) (i : Nat), i < l.length → (rs l)[i * 2]? = some (.int .i64 (l.getD i (0, 0)).1) ∧ (rs l)[i * 2 + 1]? = some (.int .i64 (l.getD i (0, 0)).2)
  | [], i, h => by simp at h
  | a :: l, 0, _ => ⟨rfl, rfl⟩
  | a :: l, i + 1, h => by
    have ih := rs_at l i (by simpa using h)
    rw [rs_cons, show (i + 1) * 2 = i * 2 + 1 + 1 by omega]
    exact ih
/-- the first k of these, then zeros -/
def flz (L : List Rp) (k : Nat) : List Rp := L.take k ++ List.replicate (L.length - k) (0, 0)
theorem flz_len (L : List Rp) (k : Nat) (h : k ≤ L.length) : (flz L k).length = L.length := by simp [flz]; omega
theorem flz_all (L : List Rp) : flz L L.length = L := by simp [flz]
theorem flz_next (L : List Rp) (k : Nat) (h : k < L.length) : (flz L k).set k (L.getD k (0, 0)) = flz L (k + 1) := by
  unfold flz
  rw [List.set_append_right _ _ (by simp; omega)]
  have e : k - (L.take k).length = 0 := by simp; omega
  rw [e, show L.length - k = (L.length - (k + 1)) + 1 by omega, List.replicate_succ, List.set_cons_zero, List.take_add_one, List.getElem?_eq_getElem h, List.getD_eq_getElem?_getD, List.getElem?_eq_getElem h]
  show List.take k L ++ (L[k] :: _) = (List.take k L ++ [L[k]]) ++ _
  rw [List.append_assoc]
  rfl
theorem rs_set : ∀ (l : List Rp) (i : Nat) (p : Rp), rs (l.set i p) = ((rs l).set (i * 2) (.int .i64 p.1)).set (i * 2 + 1) (.int .i64 p.2)
  | [], i, p => by simp [rs]
  | a :: l, 0, p => by simp [rs]
  | a :: l, i + 1, p => by
    have ih := rs_set l i p
    show rs (a :: l.set i p) = _
    rw [rs_cons, rs_cons, ih, show (i + 1) * 2 = i * 2 + 1 + 1 by omega]
    rfl
theorem made_iv (n : Nat) (h : n ≤ 8) : madeCells (Value.agg #[.int .i64 0, .int .i64 0]).cells (n * 2) = (rs (List.replicate n (0, 0))).toArray := by
  apply Array.ext'
  rw [madeCells]
  rcases (by omega : n = 0 ∨ n = 1 ∨ n = 2 ∨ n = 3 ∨ n = 4 ∨ n = 5 ∨ n = 6 ∨ n = 7 ∨ n = 8) with rfl | rfl | rfl | rfl | rfl | rfl | rfl | rfl | rfl <;> first | kernel_rfl | rfl | (simp [rs, Value.cells, List.ofFn]; done) | (simp [rs, Value.cells]; done)
theorem info_iv : (Try.prog.info? 45).map (fun i => (i.zero, i.size, i.bytes)) = some (some (.agg #[.int .i64 0, .int .i64 0]), 2, 16) := by kernel_rfl
/-- the intervals of a word -/
def rgn (n : Nat) (C S B : List Int) : List Rp := (List.range n).map fun p => ivl C (fst (S.getD p 0) (B.getD p 0).toNat) (lst (S.getD p 0) (B.getD p 0).toNat)
theorem rgn_len (n : Nat) (C S B : List Int) : (rgn n C S B).length = n := by simp [rgn]
theorem rgn_at (n : Nat) (C S B : List Int) (p : Nat) (h : p < n) : (rgn n C S B).getD p (0, 0) = ivl C (fst (S.getD p 0) (B.getD p 0).toNat) (lst (S.getD p 0) (B.getD p 0).toNat) := by
  unfold rgn
  rw [List.getD_eq_getElem?_getD, List.getElem?_map, List.getElem?_range h]; rfl
def SomeIv (n : Nat) (L : List Rp) (w : World) (e : Ending) (w' : World) : Prop := ∃ a, e = .returned (.tuple #[.slice (some ⟨a, 0, none⟩) n n, .int .i64 0]) ∧ w.heap.size ≤ a ∧ Bk w' a 45 (rs L).toArray ∧ Bel w w'
set_option maxHeartbeats 8000000 in
set_option maxRecDepth 100000 in
theorem region_ok (k b g : Int) (m n : Nat) (A sA bA : Option Addr) (nc cc sc bc : Nat) (C S B : List Int) (hs : Sv k b g m n C) (hv : Wv n S B) (w : World) (hz : Zi w A nc C) (hS : Zi w sA n S) (hB : Zi w bA n B) :
    Calls Try.prog 17 #[Sx k b g m n A nc cc, Wx n sA bA sc bc] w (SomeIv n (rgn n C S B) w) := by
  obtain ⟨i0, hi0, hz0, hz1, hz2⟩ := info_parts info_iv
  have HI := Lib.hid (And.intro hi0 (And.intro hz0 (And.intro hz1 hz2)))
  clear hi0 hz0 hz1 hz2
  have CK : Hid (∀ W, Bel w W → Calls Try.prog 52 #[.agg #[.int .i64 k, .int .i64 b, .int .i64 g, .int .i64 (m : Int), .int .i64 (n : Int), .slice A nc cc], .agg #[.slice sA n sc, .slice bA n bc]] W fun e w' => e = .returned (.bool true) ∧ Bel W w') := fun W hW => valid_ok k b g m n A sA bA nc cc sc bc C S B hs hv W (hz.bel hW) (hS.bel hW) (hB.bel hW)
  have IV : Hid (∀ (f t : Nat) (W : World), f ≤ 15 → t ≤ 15 → Bel w W → Calls Try.prog 53 #[.slice A nc cc, .int .i64 (f : Int), .int .i64 (t : Int)] W fun e w' => e = .returned (Iv (ivl C f t)) ∧ Bel W w') := fun f t W hf ht hW => interval_ok A nc cc C hs.cv f t hf ht W (hz.bel hW)
  have HV := Lib.hid hv.2.2
  have HS := Lib.hid hS
  have HB := Lib.hid hB
  have n1 := hs.n1
  have n8 := hs.n8
  have ni : (n : Int) ≤ 8 := by omega
  have ni1 : 1 ≤ (n : Int) := by omega
  have HB0 : Hid (Bk ((w.alloc (.cells #[.int .i64 k, .int .i64 b, .int .i64 g, .int .i64 (m : Int), .int .i64 (n : Int), .slice A nc cc] 28)).alloc (.cells #[.slice sA n sc, .slice bA n bc] 32)) w.heap.size 28 #[.int .i64 k, .int .i64 b, .int .i64 g, .int .i64 (m : Int), .int .i64 (n : Int), .slice A nc cc]) := (Bk.nw _ _ _).al _
  have HB1 : Hid (Bk ((w.alloc (.cells #[.int .i64 k, .int .i64 b, .int .i64 g, .int .i64 (m : Int), .int .i64 (n : Int), .slice A nc cc] 28)).alloc (.cells #[.slice sA n sc, .slice bA n bc] 32)) (w.heap.size + 1) 32 #[.slice sA n sc, .slice bA n bc]) := Bk.nq _ _ _ (by simp)
  have HB2 : Hid (Bel w ((w.alloc (.cells #[.int .i64 k, .int .i64 b, .int .i64 g, .int .i64 (m : Int), .int .i64 (n : Int), .slice A nc cc] 28)).alloc (.cells #[.slice sA n sc, .slice bA n bc] 32))) := (Bel.rf.al _).al _
  obtain ⟨L, hL⟩ : ∃ L, rgn n C S B = L := ⟨_, rfl⟩
  have HLL : Hid (L.length = n) := by show _ = _; rw [← hL]; exact rgn_len _ _ _ _
  have HLA : Hid (∀ p, p < n → L.getD p (0, 0) = ivl C (fst (S.getD p 0) (B.getD p 0).toNat) (lst (S.getD p 0) (B.getD p 0).toNat)) := fun p hp => by rw [← hL]; exact rgn_at _ _ _ _ p hp
  rw [hL]
  clear hs hv hz hS hB hL
  unfold Sx Wx
  go_enter Try.func17, Try.ntmps17
  go_wp2_with fail
  go_at_call 52
  refine (CK.out _ (by repeat (first | exact Bel.rf | (with_reducible refine Bel.drwN ?_ _) | (with_reducible refine Bel.drw ?_) | (with_reducible refine Bel.al ?_ _)))).mono ?_
  rintro e w1 ⟨rfl, hb1⟩
  have HK1 := Lib.hid ((HB0.out.bel (by repeat (first | exact Bel.rf | (with_reducible refine Bel.drwN ?_ _) | (with_reducible refine Bel.drw ?_) | (with_reducible refine Bel.al ?_ _)))).bel hb1)
  have HK2 := Lib.hid ((HB1.out.bel (by repeat (first | exact Bel.rf | (with_reducible refine Bel.drwN ?_ _) | (with_reducible refine Bel.drw ?_) | (with_reducible refine Bel.al ?_ _)))).bel hb1)
  have HW1 : Hid (Bel w w1) := HB2.out.tr (Bel.tr (by repeat (first | exact Bel.rf | (with_reducible refine Bel.drwN ?_ _) | (with_reducible refine Bel.drw ?_) | (with_reducible refine Bel.al ?_ _))) hb1)
  have q2 := HK1.out.cell 4
  have q0 := HK2.out.cell 1
  simp only [List.getElem?_toArray, List.getElem?_cons_zero, List.getElem?_cons_succ] at q0 q2
  have q3 := fun o => (Bel.rf.al o).kp q0
  have HR0 : Hid (Bk (w1.alloc (.cells (rs (flz L 0)).toArray 45)) w1.heap.size 45 (rs (flz L 0)).toArray) := Bk.nw _ _ _
  have HRB : Hid (Bel w1 (w1.alloc (.cells (rs (flz L 0)).toArray 45))) := Bel.rf.al _
  have HMD : Hid (madeCells (Value.agg #[.int .i64 0, .int .i64 0]).cells (n * 2) = (rs (flz L 0)).toArray) := by show _ = _; rw [made_iv n n8]; unfold flz; rw [HLL.out]; rfl
  clear hb1
  go_wp2_with (refine wpList_make_any _ rfl (.tmp 16) (.tmp 16) 41 rfl 45 i0 (.agg #[.int .i64 0, .int .i64 0]) 2 Try.underlying41 HI.out.1 HI.out.2.1 HI.out.2.2.1 .i64 .i64 _ _ n n rfl rfl rfl rfl (by omega) (by rw [HI.out.2.2.2]; omega) (by omega) ?_; rw [HMD.out])
  go_loopw [21] (fun s21 wr => ∃ (i : Nat) (V : World), V = wr ∧ i ≤ n ∧ s21 = .int .i64 (i : Int) ∧ Bk wr w1.heap.size 45 (rs (flz L i)).toArray ∧ Bel w1 wr) (fun s21 _ => n - (intOf s21).toNat)
  case atStart => exact ⟨0, _, rfl, by omega, rfl, HR0.out.bel (by repeat (first | exact Bel.rf | (with_reducible refine Bel.drwN ?_ _) | (with_reducible refine Bel.drw ?_) | (with_reducible refine Bel.al ?_ _))), HRB.out.tr (by repeat (first | exact Bel.rf | (with_reducible refine Bel.drwN ?_ _) | (with_reducible refine Bel.drw ?_) | (with_reducible refine Bel.al ?_ _)))⟩
  case round =>
    obtain ⟨i, wr, hwr, hi, rfl, hk, hb⟩ := hrel
    subst hwr
    have HR := Lib.hid hb
    have HK := Lib.hid hk
    clear q0 q2 q3 hb hk
    rcases Nat.lt_or_ge i n with hlt | hge
    · have HX0 := HK1.out.bel HR.out
      have HX1 := HK2.out.bel HR.out
      have r0 := HX0.cell 5
      have r1 := HX1.cell 0
      simp only [List.getElem?_toArray, List.getElem?_cons_zero, List.getElem?_cons_succ] at r0 r1
      obtain ⟨sad, e, _, hc⟩ := (HS.out.bel (HW1.out.tr HR.out)).2 (by omega)
      subst e
      have c1 := hc i hlt
      obtain ⟨bad, e, _, hd⟩ := (HB.out.bel (HW1.out.tr HR.out)).2 (by omega)
      subst e
      have d1 := hd i hlt
      obtain ⟨b0, b4, s0, s1⟩ := HV.out i hlt
      have hla := HLA.out i hlt
      obtain ⟨s, hs⟩ : ∃ x, S.getD i 0 = x := ⟨_, rfl⟩
      obtain ⟨y, hy⟩ : ∃ x, B.getD i 0 = x := ⟨_, rfl⟩
      rw [hs] at c1 s0 s1 hla
      rw [hy] at d1 b0 b4 s1 hla
      have ii : (i : Int) < (n : Int) := by omega
      have i0 : (0 : Int) ≤ (i : Int) := by omega
      have HN : Hid (((rs (flz L i)).toArray.setIfInBounds (i * 2) (.int .i64 (L.getD i (0, 0)).1)).setIfInBounds (i * 2 + 1) (.int .i64 (L.getD i (0, 0)).2) = (rs (flz L (i + 1))).toArray) := by
        show _ = _
        rw [← flz_next L i (by rw [HLL.out]; exact hlt), rs_set]; simp
      have HG : Hid (∀ W, Bk W w1.heap.size 45 (rs (flz L i)).toArray → (∃ u, W.cell? (⟨w1.heap.size, i * 2, none⟩ : Addr) = some u) ∧ (∃ u, W.cell? (⟨w1.heap.size, i * 2 + 1, none⟩ : Addr) = some u) ∧ W.frozen? (⟨w1.heap.size, i * 2, none⟩ : Addr) = false ∧ W.frozen? (⟨w1.heap.size, i * 2 + 1, none⟩ : Addr) = false) := fun W hW => by
        have e := rs_at (flz L i) i (by rw [flz_len _ _ (by rw [HLL.out]; omega), HLL.out]; exact hlt)
        exact ⟨⟨.int .i64 ((flz L i).getD i (0, 0)).1, by rw [hW.cell (i * 2), List.getElem?_toArray]; exact e.1⟩, ⟨.int .i64 ((flz L i).getD i (0, 0)).2, by rw [hW.cell (i * 2 + 1), List.getElem?_toArray]; exact e.2⟩, hW.fr _, hW.fr _⟩
      clear hc hd hs hy HX0 HX1
      have hb5 : y = 0 ∨ y = 1 ∨ y = 2 ∨ y = 3 ∨ y = 4 := by omega
      have HY := Lib.hid hb5
      clear hb5 b0 b4
      rcases HY.out with rfl | rfl | rfl | rfl | rfl
      · have s2 : s < 1 := s1
        obtain ⟨F, hF⟩ : ∃ F, fst s 0 = F := ⟨_, rfl⟩
        obtain ⟨T, hT⟩ : ∃ T, lst s 0 = T := ⟨_, rfl⟩
        have hF2 : s * 16 = (F : Int) := by rw [← hF]; unfold fst; first | (simp; done) | (simp; omega)
        have hT2 : (F : Int) + 16 - 1 = (T : Int) := by rw [← hT]; unfold lst; rw [hF]; first | (simp; done) | (simp; omega)
        have HLX : Hid (L.getD i (0, 0) = ivl C F T) := by
          show _ = _
          rw [← hF, ← hT]; exact hla
        have IVV : Hid (∀ W, Bel w W → Calls Try.prog 53 #[.slice A nc cc, .int .i64 (F : Int), .int .i64 (T : Int)] W fun e w' => e = .returned (.agg #[.int .i64 (L.getD i (0, 0)).1, .int .i64 (L.getD i (0, 0)).2]) ∧ Bel W w') := fun W hW => by rw [HLX.out]; exact IV.out F T W (by omega) (by omega) hW
        have wv : IntKind.i64.wrap 4 = 4 := by decide
        have wF : IntKind.i64.wrap (s * 2 ^ 4) = (F : Int) := by rw [show s * 2 ^ 4 = (F : Int) from hF2]; exact IntWalk.i64_in _ (by omega)
        have wF2 : IntKind.i64.wrap (s * 16) = (F : Int) := by rw [hF2]; exact IntWalk.i64_in _ (by omega)
        have wF3 : wrap64 (s * 16) = (F : Int) := by rw [hF2]; exact IntWalk.wrap64_in _ (by omega)
        have wF4 : wrap64 (s * 2 ^ 4) = (F : Int) := wF3
        have F15 : (F : Int) ≤ 15 := by omega
        have T15 : (T : Int) ≤ 15 := by omega
        have F00 : (0 : Int) ≤ (F : Int) := by omega
        clear s1 HY hla hF hT
        obtain ⟨⟨u1, g1⟩, ⟨u2, g2⟩, g3, g4⟩ := HG.out wr HK.out
        go_wp2_with (go_at_call 53; refine (IVV.out _ (by repeat (first | exact HW1.out.tr HR.out | (with_reducible refine Bel.drwN ?_ _) | (with_reducible refine Bel.drw ?_) | (with_reducible refine Bel.al ?_ _)))).mono ?_; rintro e w5 ⟨rfl, hb5⟩; have HK5 := Lib.hid ((HK.out.bel (by repeat (first | exact Bel.rf | (with_reducible refine Bel.drwN ?_ _) | (with_reducible refine Bel.drw ?_) | (with_reducible refine Bel.al ?_ _)))).bel hb5); have HR5 : Hid (Bel w1 w5) := HR.out.tr (Bel.tr (by repeat (first | exact Bel.rf | (with_reducible refine Bel.drwN ?_ _) | (with_reducible refine Bel.drw ?_) | (with_reducible refine Bel.al ?_ _))) hb5); have hg5 := HG.out w5 HK5.out; obtain ⟨⟨u3, g5⟩, ⟨u4, g6⟩, g7, g8⟩ := hg5; have lt5 := HK5.out.lt; clear hb5 g1 g2 g3 g4)
        go_roundw
        case rel => exact ⟨i + 1, _, rfl, by omega, by go_num, by rw [← HN.out]; exact ((HK5.out.st _ _).st _ _).bel (by repeat (first | exact Bel.rf | (with_reducible refine Bel.drwN ?_ _) | (with_reducible refine Bel.drw ?_) | (with_reducible refine Bel.al ?_ _))), (by repeat (first | exact HR5.out | (with_reducible refine Bel.drwN ?_ _) | (with_reducible refine Bel.drw ?_) | (with_reducible refine Bel.al ?_ _) | refine Bel.st2 ?_ ?_ _ | exact Nat.le_refl _))⟩
        case measure => simp [intOf]; omega
      · have s2 : s < 2 := s1
        obtain ⟨F, hF⟩ : ∃ F, fst s 1 = F := ⟨_, rfl⟩
        obtain ⟨T, hT⟩ : ∃ T, lst s 1 = T := ⟨_, rfl⟩
        have hF2 : s * 8 = (F : Int) := by rw [← hF]; unfold fst; first | (simp; done) | (simp; omega)
        have hT2 : (F : Int) + 8 - 1 = (T : Int) := by rw [← hT]; unfold lst; rw [hF]; first | (simp; done) | (simp; omega)
        have HLX : Hid (L.getD i (0, 0) = ivl C F T) := by
          show _ = _
          rw [← hF, ← hT]; exact hla
        have IVV : Hid (∀ W, Bel w W → Calls Try.prog 53 #[.slice A nc cc, .int .i64 (F : Int), .int .i64 (T : Int)] W fun e w' => e = .returned (.agg #[.int .i64 (L.getD i (0, 0)).1, .int .i64 (L.getD i (0, 0)).2]) ∧ Bel W w') := fun W hW => by rw [HLX.out]; exact IV.out F T W (by omega) (by omega) hW
        have wv : IntKind.i64.wrap 3 = 3 := by decide
        have wF : IntKind.i64.wrap (s * 2 ^ 3) = (F : Int) := by rw [show s * 2 ^ 3 = (F : Int) from hF2]; exact IntWalk.i64_in _ (by omega)
        have wF2 : IntKind.i64.wrap (s * 8) = (F : Int) := by rw [hF2]; exact IntWalk.i64_in _ (by omega)
        have wF3 : wrap64 (s * 8) = (F : Int) := by rw [hF2]; exact IntWalk.wrap64_in _ (by omega)
        have wF4 : wrap64 (s * 2 ^ 3) = (F : Int) := wF3
        have F15 : (F : Int) ≤ 15 := by omega
        have T15 : (T : Int) ≤ 15 := by omega
        have F00 : (0 : Int) ≤ (F : Int) := by omega
        clear s1 HY hla hF hT
        obtain ⟨⟨u1, g1⟩, ⟨u2, g2⟩, g3, g4⟩ := HG.out wr HK.out
        go_wp2_with (go_at_call 53; refine (IVV.out _ (by repeat (first | exact HW1.out.tr HR.out | (with_reducible refine Bel.drwN ?_ _) | (with_reducible refine Bel.drw ?_) | (with_reducible refine Bel.al ?_ _)))).mono ?_; rintro e w5 ⟨rfl, hb5⟩; have HK5 := Lib.hid ((HK.out.bel (by repeat (first | exact Bel.rf | (with_reducible refine Bel.drwN ?_ _) | (with_reducible refine Bel.drw ?_) | (with_reducible refine Bel.al ?_ _)))).bel hb5); have HR5 : Hid (Bel w1 w5) := HR.out.tr (Bel.tr (by repeat (first | exact Bel.rf | (with_reducible refine Bel.drwN ?_ _) | (with_reducible refine Bel.drw ?_) | (with_reducible refine Bel.al ?_ _))) hb5); have hg5 := HG.out w5 HK5.out; obtain ⟨⟨u3, g5⟩, ⟨u4, g6⟩, g7, g8⟩ := hg5; have lt5 := HK5.out.lt; clear hb5 g1 g2 g3 g4)
        go_roundw
        case rel => exact ⟨i + 1, _, rfl, by omega, by go_num, by rw [← HN.out]; exact ((HK5.out.st _ _).st _ _).bel (by repeat (first | exact Bel.rf | (with_reducible refine Bel.drwN ?_ _) | (with_reducible refine Bel.drw ?_) | (with_reducible refine Bel.al ?_ _))), (by repeat (first | exact HR5.out | (with_reducible refine Bel.drwN ?_ _) | (with_reducible refine Bel.drw ?_) | (with_reducible refine Bel.al ?_ _) | refine Bel.st2 ?_ ?_ _ | exact Nat.le_refl _))⟩
        case measure => simp [intOf]; omega
      · have s2 : s < 4 := s1
        obtain ⟨F, hF⟩ : ∃ F, fst s 2 = F := ⟨_, rfl⟩
        obtain ⟨T, hT⟩ : ∃ T, lst s 2 = T := ⟨_, rfl⟩
        have hF2 : s * 4 = (F : Int) := by rw [← hF]; unfold fst; first | (simp; done) | (simp; omega)
        have hT2 : (F : Int) + 4 - 1 = (T : Int) := by rw [← hT]; unfold lst; rw [hF]; first | (simp; done) | (simp; omega)
        have HLX : Hid (L.getD i (0, 0) = ivl C F T) := by
          show _ = _
          rw [← hF, ← hT]; exact hla
        have IVV : Hid (∀ W, Bel w W → Calls Try.prog 53 #[.slice A nc cc, .int .i64 (F : Int), .int .i64 (T : Int)] W fun e w' => e = .returned (.agg #[.int .i64 (L.getD i (0, 0)).1, .int .i64 (L.getD i (0, 0)).2]) ∧ Bel W w') := fun W hW => by rw [HLX.out]; exact IV.out F T W (by omega) (by omega) hW
        have wv : IntKind.i64.wrap 2 = 2 := by decide
        have wF : IntKind.i64.wrap (s * 2 ^ 2) = (F : Int) := by rw [show s * 2 ^ 2 = (F : Int) from hF2]; exact IntWalk.i64_in _ (by omega)
        have wF2 : IntKind.i64.wrap (s * 4) = (F : Int) := by rw [hF2]; exact IntWalk.i64_in _ (by omega)
        have wF3 : wrap64 (s * 4) = (F : Int) := by rw [hF2]; exact IntWalk.wrap64_in _ (by omega)
        have wF4 : wrap64 (s * 2 ^ 2) = (F : Int) := wF3
        have F15 : (F : Int) ≤ 15 := by omega
        have T15 : (T : Int) ≤ 15 := by omega
        have F00 : (0 : Int) ≤ (F : Int) := by omega
        clear s1 HY hla hF hT
        obtain ⟨⟨u1, g1⟩, ⟨u2, g2⟩, g3, g4⟩ := HG.out wr HK.out
        go_wp2_with (go_at_call 53; refine (IVV.out _ (by repeat (first | exact HW1.out.tr HR.out | (with_reducible refine Bel.drwN ?_ _) | (with_reducible refine Bel.drw ?_) | (with_reducible refine Bel.al ?_ _)))).mono ?_; rintro e w5 ⟨rfl, hb5⟩; have HK5 := Lib.hid ((HK.out.bel (by repeat (first | exact Bel.rf | (with_reducible refine Bel.drwN ?_ _) | (with_reducible refine Bel.drw ?_) | (with_reducible refine Bel.al ?_ _)))).bel hb5); have HR5 : Hid (Bel w1 w5) := HR.out.tr (Bel.tr (by repeat (first | exact Bel.rf | (with_reducible refine Bel.drwN ?_ _) | (with_reducible refine Bel.drw ?_) | (with_reducible refine Bel.al ?_ _))) hb5); have hg5 := HG.out w5 HK5.out; obtain ⟨⟨u3, g5⟩, ⟨u4, g6⟩, g7, g8⟩ := hg5; have lt5 := HK5.out.lt; clear hb5 g1 g2 g3 g4)
        go_roundw
        case rel => exact ⟨i + 1, _, rfl, by omega, by go_num, by rw [← HN.out]; exact ((HK5.out.st _ _).st _ _).bel (by repeat (first | exact Bel.rf | (with_reducible refine Bel.drwN ?_ _) | (with_reducible refine Bel.drw ?_) | (with_reducible refine Bel.al ?_ _))), (by repeat (first | exact HR5.out | (with_reducible refine Bel.drwN ?_ _) | (with_reducible refine Bel.drw ?_) | (with_reducible refine Bel.al ?_ _) | refine Bel.st2 ?_ ?_ _ | exact Nat.le_refl _))⟩
        case measure => simp [intOf]; omega
      · have s2 : s < 8 := s1
        obtain ⟨F, hF⟩ : ∃ F, fst s 3 = F := ⟨_, rfl⟩
        obtain ⟨T, hT⟩ : ∃ T, lst s 3 = T := ⟨_, rfl⟩
        have hF2 : s * 2 = (F : Int) := by rw [← hF]; unfold fst; first | (simp; done) | (simp; omega)
        have hT2 : (F : Int) + 2 - 1 = (T : Int) := by rw [← hT]; unfold lst; rw [hF]; first | (simp; done) | (simp; omega)
        have HLX : Hid (L.getD i (0, 0) = ivl C F T) := by
          show _ = _
          rw [← hF, ← hT]; exact hla
        have IVV : Hid (∀ W, Bel w W → Calls Try.prog 53 #[.slice A nc cc, .int .i64 (F : Int), .int .i64 (T : Int)] W fun e w' => e = .returned (.agg #[.int .i64 (L.getD i (0, 0)).1, .int .i64 (L.getD i (0, 0)).2]) ∧ Bel W w') := fun W hW => by rw [HLX.out]; exact IV.out F T W (by omega) (by omega) hW
        have wv : IntKind.i64.wrap 1 = 1 := by decide
        have wF : IntKind.i64.wrap (s * 2 ^ 1) = (F : Int) := by rw [show s * 2 ^ 1 = (F : Int) from hF2]; exact IntWalk.i64_in _ (by omega)
        have wF2 : IntKind.i64.wrap (s * 2) = (F : Int) := by rw [hF2]; exact IntWalk.i64_in _ (by omega)
        have wF3 : wrap64 (s * 2) = (F : Int) := by rw [hF2]; exact IntWalk.wrap64_in _ (by omega)
        have wF4 : wrap64 (s * 2 ^ 1) = (F : Int) := wF3
        have F15 : (F : Int) ≤ 15 := by omega
        have T15 : (T : Int) ≤ 15 := by omega
        have F00 : (0 : Int) ≤ (F : Int) := by omega
        clear s1 HY hla hF hT
        obtain ⟨⟨u1, g1⟩, ⟨u2, g2⟩, g3, g4⟩ := HG.out wr HK.out
        go_wp2_with (go_at_call 53; refine (IVV.out _ (by repeat (first | exact HW1.out.tr HR.out | (with_reducible refine Bel.drwN ?_ _) | (with_reducible refine Bel.drw ?_) | (with_reducible refine Bel.al ?_ _)))).mono ?_; rintro e w5 ⟨rfl, hb5⟩; have HK5 := Lib.hid ((HK.out.bel (by repeat (first | exact Bel.rf | (with_reducible refine Bel.drwN ?_ _) | (with_reducible refine Bel.drw ?_) | (with_reducible refine Bel.al ?_ _)))).bel hb5); have HR5 : Hid (Bel w1 w5) := HR.out.tr (Bel.tr (by repeat (first | exact Bel.rf | (with_reducible refine Bel.drwN ?_ _) | (with_reducible refine Bel.drw ?_) | (with_reducible refine Bel.al ?_ _))) hb5); have hg5 := HG.out w5 HK5.out; obtain ⟨⟨u3, g5⟩, ⟨u4, g6⟩, g7, g8⟩ := hg5; have lt5 := HK5.out.lt; clear hb5 g1 g2 g3 g4)
        go_roundw
        case rel => exact ⟨i + 1, _, rfl, by omega, by go_num, by rw [← HN.out]; exact ((HK5.out.st _ _).st _ _).bel (by repeat (first | exact Bel.rf | (with_reducible refine Bel.drwN ?_ _) | (with_reducible refine Bel.drw ?_) | (with_reducible refine Bel.al ?_ _))), (by repeat (first | exact HR5.out | (with_reducible refine Bel.drwN ?_ _) | (with_reducible refine Bel.drw ?_) | (with_reducible refine Bel.al ?_ _) | refine Bel.st2 ?_ ?_ _ | exact Nat.le_refl _))⟩
        case measure => simp [intOf]; omega
      · have s2 : s < 16 := s1
        obtain ⟨F, hF⟩ : ∃ F, fst s 4 = F := ⟨_, rfl⟩
        obtain ⟨T, hT⟩ : ∃ T, lst s 4 = T := ⟨_, rfl⟩
        have hF2 : s * 1 = (F : Int) := by rw [← hF]; unfold fst; first | (simp; done) | (simp; omega)
        have hT2 : (F : Int) + 1 - 1 = (T : Int) := by rw [← hT]; unfold lst; rw [hF]; first | (simp; done) | (simp; omega)
        have HLX : Hid (L.getD i (0, 0) = ivl C F T) := by
          show _ = _
          rw [← hF, ← hT]; exact hla
        have IVV : Hid (∀ W, Bel w W → Calls Try.prog 53 #[.slice A nc cc, .int .i64 (F : Int), .int .i64 (T : Int)] W fun e w' => e = .returned (.agg #[.int .i64 (L.getD i (0, 0)).1, .int .i64 (L.getD i (0, 0)).2]) ∧ Bel W w') := fun W hW => by rw [HLX.out]; exact IV.out F T W (by omega) (by omega) hW
        have wv : IntKind.i64.wrap 0 = 0 := by decide
        have wF : IntKind.i64.wrap (s * 2 ^ 0) = (F : Int) := by rw [show s * 2 ^ 0 = (F : Int) from hF2]; exact IntWalk.i64_in _ (by omega)
        have wF2 : IntKind.i64.wrap (s * 1) = (F : Int) := by rw [hF2]; exact IntWalk.i64_in _ (by omega)
        have wF3 : wrap64 (s * 1) = (F : Int) := by rw [hF2]; exact IntWalk.wrap64_in _ (by omega)
        have wF4 : wrap64 (s * 2 ^ 0) = (F : Int) := wF3
        have F15 : (F : Int) ≤ 15 := by omega
        have T15 : (T : Int) ≤ 15 := by omega
        have F00 : (0 : Int) ≤ (F : Int) := by omega
        clear s1 HY hla hF hT
        obtain ⟨⟨u1, g1⟩, ⟨u2, g2⟩, g3, g4⟩ := HG.out wr HK.out
        go_wp2_with (go_at_call 53; refine (IVV.out _ (by repeat (first | exact HW1.out.tr HR.out | (with_reducible refine Bel.drwN ?_ _) | (with_reducible refine Bel.drw ?_) | (with_reducible refine Bel.al ?_ _)))).mono ?_; rintro e w5 ⟨rfl, hb5⟩; have HK5 := Lib.hid ((HK.out.bel (by repeat (first | exact Bel.rf | (with_reducible refine Bel.drwN ?_ _) | (with_reducible refine Bel.drw ?_) | (with_reducible refine Bel.al ?_ _)))).bel hb5); have HR5 : Hid (Bel w1 w5) := HR.out.tr (Bel.tr (by repeat (first | exact Bel.rf | (with_reducible refine Bel.drwN ?_ _) | (with_reducible refine Bel.drw ?_) | (with_reducible refine Bel.al ?_ _))) hb5); have hg5 := HG.out w5 HK5.out; obtain ⟨⟨u3, g5⟩, ⟨u4, g6⟩, g7, g8⟩ := hg5; have lt5 := HK5.out.lt; clear hb5 g1 g2 g3 g4)
        go_roundw
        case rel => exact ⟨i + 1, _, rfl, by omega, by go_num, by rw [← HN.out]; exact ((HK5.out.st _ _).st _ _).bel (by repeat (first | exact Bel.rf | (with_reducible refine Bel.drwN ?_ _) | (with_reducible refine Bel.drw ?_) | (with_reducible refine Bel.al ?_ _))), (by repeat (first | exact HR5.out | (with_reducible refine Bel.drwN ?_ _) | (with_reducible refine Bel.drw ?_) | (with_reducible refine Bel.al ?_ _) | refine Bel.st2 ?_ ?_ _ | exact Nat.le_refl _))⟩
        case measure => simp [intOf]; omega
    · obtain rfl : i = n := by omega
      have hk := HK.out
      rw [← HLL.out, flz_all] at hk
      have HKF := Lib.hid hk
      clear hk
      go_wp2
      go_ret2
      exact ⟨w1.heap.size, rfl, HW1.out.size, HKF.out.bel (by repeat (first | exact Bel.rf | (with_reducible refine Bel.drwN ?_ _) | (with_reducible refine Bel.drw ?_) | (with_reducible refine Bel.al ?_ _))), (by repeat (first | exact HW1.out.tr HR.out | (with_reducible refine Bel.drwN ?_ _) | (with_reducible refine Bel.drw ?_) | (with_reducible refine Bel.al ?_ _)))⟩
end Go.Proofs.Ytgdhgeongdenpaa.Wd
