/- shapesearchlaw07.divided. Written by mkdv.py. -/
import Derived.Test.YtgcjangnlbhicaaStD
namespace Go.Proofs.Ytgcjangnlbhicaa.St
open Go.ChangeShapes Go.WideShapes Go.RowKit Wo Sr Wi Rm Rg
set_option linter.unusedVariables false
/-- no address of the reader's -/
def Nb (g : Nat) (A : Option Addr) : Prop := ∀ k o, A = some ⟨k, o, none⟩ → k ≠ g
theorem Zo.ch {w w' : World} {A : Option Addr} {n g : Nat} {l : List Rp} (h : Zo w A n l) (hc : Ch g w w') (hn : Nb g A) : Zo w' A n l :=
  ⟨h.1, fun h0 => by
    obtain ⟨k, o, e, hx, hcc⟩ := h.2 h0
    exact ⟨k, o, e, by have := hc.sz; omega, fun j hj => ⟨hc.kp (hcc j hj).1 (hn k o e), hc.kp (hcc j hj).2 (hn k o e)⟩⟩⟩
def Pg (w : World) (g : Nat) (v : Value) (L : List Rp) : Prop := ∃ A n c, v = .slice A n c ∧ Zo w A n L ∧ Nz A n c ∧ Nb g A
theorem Pg.pt {w w' : World} {g : Nat} {v : Value} {L : List Rp} (h : Pg w g v L) (hc : Ch g w w') : Pt w' v L := by
  obtain ⟨A, n, c, h1, h2, h3, h4⟩ := h
  exact ⟨A, n, c, h1, h2.ch hc h4, h3⟩
theorem step_appp (w : World) {ops : Array Oper} {o : Oper} {a : Act} {K : Act → World → Prop} {Q : Exit → Act → World → Prop} {E : Prop} (hgd : o.guard = none) (s x : Operand)
    (ho : o.op = .call { callee := .builtin .append, args := #[s, x], argTypes := #[38, 38] })
    (base : Nat) (v : Value) (n : Nat) (L : List Value) (hs : a.eval s = v) (hown : w.ownsRow base 23 1 v n L) (q c : Nat) (u : Value) (hx : a.eval x = .slice (some ⟨q, 0, none⟩) 1 c)
    (hu : u.oneCell' = true) (hM : Bk w q 23 #[u]) (hn : n ≤ 100000) (hbase : base ≤ w.heap.size)
    (h : ∀ v' w', w'.ownsRow base 23 1 v' (n + 1) (L ++ [u]) → w.grownBy w' v.ownBlock → K (a.put o.dst v') w') :
    if Region.wanted o (yielded ops a.tmps) = true then Oper.wp Try.prog o a w K Q else E := by
  have hw : Region.wanted o (yielded ops a.tmps) = true := by simp [Region.wanted, hgd]
  rw [if_pos hw]
  obtain ⟨i0, hi0, hz0, hz1, hz2⟩ := info_parts info_part
  obtain ⟨v', w', hr, h2, h3, _, h5⟩ := run_append_own_at (P := Try.prog) w base 38 o.type 23 i0 (.slice none 0 0) 1 24 Try.underlying38 hi0 hz0 hz1 hz2 (by rfl) (by omega) v n L hown ⟨q, 0, none⟩ 1 c [u] rfl (fun j y hj => by
    rcases j with _ | j
    · simp at hj; subst hj; rw [add_row, hM.cell]; rfl
    · simp at hj) (fun y hy => by simp at hy; subst hy; exact hu) (by unfold maxLen; omega) (by omega) hbase
  unfold Oper.wp execOp
  simp only [ho, resolve, invoke, builtin, Sem.run_bind, Sem.run_pure, Result.andThen_ok, List.map_toArray, List.map_cons, List.map_nil, hs, hx, hr]
  exact h v' w' h2 h3
/-- parts so far, and the rest -/
structure Dv (w : World) (g n : Nat) (l : List Rp) (wr : World) (B : Option Addr) (r cB : Nat) (rest : List Rp) (P : List (List Rp)) (Vs : List Value) (v5 : Value) : Prop where
  zo : Zo w B r rest
  nb : Nb g B
  nz : Nz B r cB
  cap : r ≤ cB
  app : P.flatten ++ rest = l
  len : P.length = Vs.length
  bnd : Vs.length + 2 * r ≤ 2 * n
  pts : ∀ j, j < Vs.length → Pg w g (Vs.getD j undef) (P.getD j [])
  own : wr.ownsRow w.heap.size 23 1 v5 Vs.length Vs
  ok : Ok wr g
  ch : Ch g w wr
theorem getD_snoc {α : Type} (L : List α) (x d : α) (j : Nat) (hj : j < L.length + 1) : (L ++ [x]).getD j d = if j < L.length then L.getD j d else x := by
  rw [List.getD_eq_getElem?_getD, List.getD_eq_getElem?_getD]
  by_cases h : j < L.length
  · rw [if_pos h, List.getElem?_append_left h]
  · rw [if_neg h, List.getElem?_append_right (by omega), show j - L.length = 0 by omega]; rfl
theorem Dv.more {w : World} {g n : Nat} {l : List Rp} {wr W : World} {B B' : Option Addr} {r r' cB cB' : Nat} {rest rest' m : List Rp} {P : List (List Rp)} {Vs : List Value} {v5 v' u : Value} (h : Dv w g n l wr B r cB rest P Vs v5)
    (hz : Zo w B' r' rest') (hb : Nb g B') (hnz : Nz B' r' cB') (hcap : r' ≤ cB') (he : m ++ rest' = rest) (hbd : Vs.length + 1 + 2 * r' ≤ 2 * n) (hu : Pg w g u m)
    (ho : W.ownsRow w.heap.size 23 1 v' (Vs.length + 1) (Vs ++ [u])) (hok : Ok W g) (hch : Ch g w W) : Dv w g n l W B' r' cB' rest' (P ++ [m]) (Vs ++ [u]) v' := by
  have hl := h.len
  refine ⟨hz, hb, hnz, hcap, by rw [List.flatten_append, ← h.app, ← he]; simp, by simp [hl], by rw [List.length_append, List.length_singleton]; exact hbd, fun j hj => ?_, by rw [List.length_append, List.length_singleton]; exact ho, hok, hch⟩
  rw [List.length_append, List.length_singleton] at hj
  rw [getD_snoc _ _ _ _ hj, getD_snoc _ _ _ _ (by omega)]
  rcases Nat.lt_or_ge j Vs.length with hlt | hge
  · rw [if_pos hlt, if_pos (by omega)]; exact h.pts j hlt
  · rw [if_neg (by omega), if_neg (by omega)]; exact hu
theorem zo_frt {w : World} {g o r : Nat} {rest : List Rp} (h : Zo w (some ⟨g, o, none⟩) r rest) (k : Nat) (hk : k ≤ r) : Zo w (some ⟨g, o, none⟩) k (rest.take k) := by
  have hl := h.1
  refine ⟨by simp; omega, fun h0 => ?_⟩
  obtain ⟨g', o', e, hx, hc⟩ := h.2 (by omega)
  cases e
  refine ⟨g, o, rfl, hx, fun j hj => ?_⟩
  have := hc j (by omega)
  have e : rd (rest.take k) j = rd rest j := by unfold rd; simp only [List.getD_eq_getElem?_getD]; rw [List.getElem?_take_of_lt (by omega)]
  rw [tm_rd, vl_rd, e]
  exact this
theorem zo_bck {w : World} {g o r : Nat} {rest : List Rp} (h : Zo w (some ⟨g, o, none⟩) r rest) (k : Nat) (hk : k ≤ r) : Zo w (some ⟨g, o + k * 2, none⟩) (r - k) (rest.drop k) := by
  have hl := h.1
  refine ⟨by simp; omega, fun h0 => ?_⟩
  obtain ⟨g', o', e, hx, hc⟩ := h.2 (by omega)
  cases e
  refine ⟨g, o + k * 2, rfl, hx, fun j hj => ?_⟩
  have h1 := hc (k + j) (by omega)
  have e : rd (rest.drop k) j = rd rest (k + j) := by unfold rd; simp only [List.getD_eq_getElem?_getD]; rw [List.getElem?_drop]
  rw [tm_rd, vl_rd, e]
  rw [show o + k * 2 + j * 2 = o + (k + j) * 2 by omega]
  exact h1
theorem zo_nix {w : World} {A : Option Addr} : Zo w A 0 [] := ⟨rfl, fun h => by omega⟩
def slen : Value → Nat
  | .slice _ n _ => n
  | _ => 0
def SomeDv (g n : Nat) (l : List Rp) (w : World) (e : Ending) (w' : World) : Prop := ∃ G q cq P Vs, e = .returned (.slice G q cq) ∧ Zp w' G q P Vs ∧ q ≤ 2 * n ∧ P.flatten = l ∧ Ok w' g ∧ Ch g w w'
set_option maxHeartbeats 8000000 in
set_option maxRecDepth 100000 in
theorem divided_ok (g : Nat) (A : Option Addr) (c n : Nat) (l : List Rp) (hn : n ≤ 25) (w : World) (h : Ok w g) (hz : Zo w A n l) (hA : Nz A n c) (hc : n ≤ c) (hb : Nb g A) :
    Calls Try.prog 15 #[.pointer (some ⟨g, 0, none⟩), .slice A n c] w (SomeDv g n l w) := by
  have HGB := Lib.hid h.lt
  have HD0 : Hid (Dv w g n l w A n c l [] [] (.slice none 0 0)) := ⟨hz, hb, hA, hc, rfl, rfl, by simp, (fun j hj => by simp at hj), World.ownsRow_nil _ _ _ _, h, Ch.rf⟩
  have ni : (n : Int) ≤ 25 := by omega
  clear h hz hA hc hb
  go_enter Try.func15, Try.ntmps15
  go_wp2
  go_loopw [1, 5] (fun s1 s5 wr => ∃ (r : Nat) (B : Option Addr) (cB : Nat) (rest : List Rp) (P : List (List Rp)) (Vs : List Value) (V : World) (u5 : Value), V = wr ∧ u5 = s5 ∧ s1 = .slice B r cB ∧ Dv w g n l wr B r cB rest P Vs s5) (fun s1 _ _ => slen s1)
  case atStart => exact ⟨n, A, c, l, [], [], _, _, rfl, rfl, rfl, HD0.out⟩
  case round =>
    obtain ⟨r, B, cB, rest, P, Vs, wr, u5, hwr, hu5, rfl, hd⟩ := hrel
    subst hwr
    subst hu5
    have HD := Lib.hid hd
    have rn : r ≤ n := by have := hd.bnd; omega
    have ri : (r : Int) ≤ 25 := by omega
    clear hd HD0
    rcases Nat.eq_zero_or_pos r with hr0 | hr0
    · subst hr0
      have HP0 : Hid (P.flatten = l) := by
        have h1 := HD.out.app
        rw [List.length_eq_zero_iff.1 HD.out.zo.1, List.append_nil] at h1
        exact h1
      obtain ⟨q, hq⟩ : ∃ q, Vs.length = q := ⟨_, rfl⟩
      have ho := HD.out.own
      rw [hq] at ho
      have HE : Hid (∃ G cq, u5 = .slice G q cq ∧ Zp wr G q P Vs) := by
        rcases ho.2 with ⟨e, h0⟩ | ⟨b, cap, cur, e, hbb, hg, h1, _⟩
        · exact ⟨none, 0, by rw [e, h0], hq, by rw [HD.out.len, hq], fun hh => by omega, fun j hj => by omega⟩
        · subst e
          refine ⟨_, cap, rfl, hq, by rw [HD.out.len, hq], fun hh => ⟨b, rfl, fun j hj => ?_⟩, fun j hj => (HD.out.pts j (by omega)).pt HD.out.ch⟩
          have h2 := ho.cells (g := b) rfl j (Vs.getD j undef) (by rw [List.getD_eq_getElem?_getD, List.getElem?_eq_getElem (by omega)]; rfl)
          rw [add_row] at h2
          exact h2
      have HQ : Hid (q ≤ 2 * n) := by have := HD.out.bnd; show _ ≤ _; omega
      clear ho hq
      obtain ⟨G, cq, rfl, hzp⟩ := HE.out
      have HZP := Lib.hid hzp
      clear hzp HE
      go_wp2
      go_ret
      exact ⟨G, q, cq, P, Vs, rfl, HZP.out.bel (by repeat (first | exact Bel.rf | (with_reducible refine Bel.drwN ?_ _) | (with_reducible refine Bel.drw ?_) | (with_reducible refine Bel.al ?_ _))), HQ.out, HP0.out, HD.out.ok.bel (by repeat (first | exact Bel.rf | (with_reducible refine Bel.drwN ?_ _) | (with_reducible refine Bel.drw ?_) | (with_reducible refine Bel.al ?_ _))), HD.out.ch.tr (Ch.of_bel (by repeat (first | exact Bel.rf | (with_reducible refine Bel.drwN ?_ _) | (with_reducible refine Bel.drw ?_) | (with_reducible refine Bel.al ?_ _))))⟩
    · obtain ⟨bx, o, e, hbx, _⟩ := HD.out.zo.2 hr0
      subst e
      have r0 : (r : Int) > 0 := by omega
      have r1 : (0 : Int) < (r : Int) := by omega
      have dr : decide ((0 : Int) < (r : Int)) = true := decide_eq_true r1
      go_wp2_with fail
      go_at_call 20
      refine (range_any g 1 (r : Int) (by omega) (by omega) (by omega) _ (HD.out.ok.bel (by repeat (first | exact Bel.rf | (with_reducible refine Bel.drwN ?_ _) | (with_reducible refine Bel.drw ?_) | (with_reducible refine Bel.al ?_ _))))).mono ?_
      rintro e w4 ⟨x, rfl, x1, x2, hok4, hch4⟩
      obtain ⟨k, rfl⟩ := Int.eq_ofNat_of_zero_le (show 0 ≤ x by omega)
      have hkr : k ≤ r := by omega
      have hk0 : 1 ≤ k := by omega
      have HOK4 := Lib.hid hok4
      have HC4 : Hid (Ch g wr w4) := (Ch.of_bel (by repeat (first | exact Bel.rf | (with_reducible refine Bel.drwN ?_ _) | (with_reducible refine Bel.drw ?_) | (with_reducible refine Bel.al ?_ _)))).tr hch4
      have HO4 : Hid (w4.ownsRow w.heap.size 23 1 u5 Vs.length Vs) := own_ch HD.out.own HC4.out HGB.out
      have HCAP : Hid (k ≤ cB ∧ r ≤ cB ∧ Vs.length ≤ 100000) := ⟨by have := HD.out.cap; omega, HD.out.cap, by have := HD.out.bnd; omega⟩
      have kci : (k : Int) ≤ (cB : Int) := by have := HCAP.out; omega
      have rci : (r : Int) ≤ (cB : Int) := by have := HCAP.out; omega
      have ki0 : (0 : Int) ≤ (k : Int) := by omega
      have HSZ : Hid (w.heap.size ≤ w4.heap.size) := (HD.out.ch.tr HC4.out).sz
      have HU : Hid (Pg w g (.slice (some ⟨bx, o, none⟩) k cB) (rest.take k)) := ⟨_, k, cB, rfl, zo_frt HD.out.zo k hkr, .inl ⟨_, rfl⟩, HD.out.nb⟩
      have HRE : Hid (rest.take k ++ rest.drop k = rest) := List.take_append_drop _ _
      clear hok4 hch4 x1 x2 hbx
      rcases Classical.em (cB = k) with hck | hck
      · have HRK : Hid (r = k) := (by have := HCAP.out; omega : r = k)
        subst hck
        have hr2 : r = cB := HRK.out
        subst hr2
        have HDN : Hid (∀ (W : World) (v' : Value), W.ownsRow w.heap.size 23 1 v' (Vs.length + 1) (Vs ++ [.slice (some ⟨bx, o, none⟩) r r]) → Ok W g → Ch g w W → ∀ a2, (a2 = o ∨ a2 = o + r * 2) → Dv w g n l W (some ⟨bx, a2, none⟩) 0 0 (rest.drop r) (P ++ [rest.take r]) (Vs ++ [.slice (some ⟨bx, o, none⟩) r r]) v') := fun W v' h1 h2 h3 a2 _ =>
          HD.out.more (by rw [List.drop_of_length_le (by have := HD.out.zo.1; omega)]; exact zo_nix) (fun k o e => by cases e; exact HD.out.nb _ _ rfl) (.inl ⟨_, rfl⟩) (Nat.le_refl _) HRE.out (by have := HD.out.bnd; omega) HU.out h1 h2 h3
        clear HRK kci
        go_wp2_with fail
        go_region_law (refine step_appp _ rfl (.tmp 14) (.tmp 18) rfl w.heap.size u5 Vs.length Vs rfl (own_bel HO4.out (by repeat (first | exact Bel.rf | (with_reducible refine Bel.drwN ?_ _) | (with_reducible refine Bel.drw ?_) | (with_reducible refine Bel.al ?_ _)))) _ 1 (.slice (some ⟨bx, o, none⟩) r r) rfl rfl (by refine Bk.bel (Bk.nq ?_ _ _ ?_) ?_; rotate_left 2; (repeat (first | (with_reducible exact Bel.rf) | (with_reducible refine Bel.drwN ?_ _) | (with_reducible refine Bel.drw ?_) | (with_reducible refine Bel.al ?_ _))); all_goals first | rfl | (simp; done) | (simp; omega)) HCAP.out.2.2 (by have := HSZ.out; simp; omega) ?_; intro v5 w5 ho5 hg5; have hok5 : Ok w5 g := ok_grown (HOK4.out.bel (by repeat (first | exact Bel.rf | (with_reducible refine Bel.drwN ?_ _) | (with_reducible refine Bel.drw ?_) | (with_reducible refine Bel.al ?_ _)))) hg5 (fun b e => by have := (HO4.out.lt b e).1; have := HGB.out; omega); have hch5 : Ch g w w5 := ch_grown ((HD.out.ch.tr HC4.out).tr (Ch.of_bel (by repeat (first | exact Bel.rf | (with_reducible refine Bel.drwN ?_ _) | (with_reducible refine Bel.drw ?_) | (with_reducible refine Bel.al ?_ _))))) hg5 (fun b e => (HO4.out.lt b e).1))
        have HDV := Lib.hid (HDN.out w5 v5 ho5 hok5 hch5 o (by first | exact .inl rfl | exact .inr rfl))
        clear ho5 hg5 hok5 hch5 HDN
        go_wp2_with fail
        go_at_call 19
        refine (n_any g 3 (by decide) (by decide) _ (HDV.out.ok.bel (by repeat (first | exact Bel.rf | (with_reducible refine Bel.drwN ?_ _) | (with_reducible refine Bel.drw ?_) | (with_reducible refine Bel.al ?_ _))))).mono ?_
        rintro e w6 ⟨nn, rfl, n0, n3, hok6, hch6⟩
        have HDW : Hid (Dv w g n l w6 (some ⟨bx, o, none⟩) 0 0 (rest.drop r) (P ++ [rest.take r]) (Vs ++ [.slice (some ⟨bx, o, none⟩) r r]) v5) := ⟨HDV.out.zo, HDV.out.nb, HDV.out.nz, HDV.out.cap, HDV.out.app, HDV.out.len, HDV.out.bnd, HDV.out.pts, own_ch HDV.out.own ((Ch.of_bel (by repeat (first | exact Bel.rf | (with_reducible refine Bel.drwN ?_ _) | (with_reducible refine Bel.drw ?_) | (with_reducible refine Bel.al ?_ _)))).tr hch6) HGB.out, hok6, HDV.out.ch.tr ((Ch.of_bel (by repeat (first | exact Bel.rf | (with_reducible refine Bel.drwN ?_ _) | (with_reducible refine Bel.drw ?_) | (with_reducible refine Bel.al ?_ _)))).tr hch6)⟩
        clear hok6 hch6 HDV
        by_cases hnn : nn = 0
        · subst hnn
          have HVL : Hid ((Vs ++ [Value.slice (some ⟨bx, o, none⟩) r r]).length ≤ 100000) := by have := HDW.out.bnd; show _ ≤ _; omega
          have HS6 : Hid (w.heap.size ≤ w6.heap.size) := HDW.out.ch.sz
          have HB7 : Hid (Bk (w6.alloc (.cells #[.slice none 0 0] 23)) w6.heap.size 23 #[.slice none 0 0]) := Bk.nw _ _ _
          go_wp2_with (at_builtin; refine list_appp _ rfl _ _ rfl w.heap.size v5 _ _ rfl (own_bel HDW.out.own (by repeat (first | exact Bel.rf | (with_reducible refine Bel.drwN ?_ _) | (with_reducible refine Bel.drw ?_) | (with_reducible refine Bel.al ?_ _)))) w6.heap.size 1 (.slice none 0 0) rfl rfl (HB7.out.bel (by repeat (first | exact Bel.rf | (with_reducible refine Bel.drwN ?_ _) | (with_reducible refine Bel.drw ?_) | (with_reducible refine Bel.al ?_ _)))) HVL.out (by have := HS6.out; simp; omega) ?_; intro v8 w8 ho8 hg8; have hok8 : Ok w8 g := ok_grown (HDW.out.ok.bel (by repeat (first | exact Bel.rf | (with_reducible refine Bel.drwN ?_ _) | (with_reducible refine Bel.drw ?_) | (with_reducible refine Bel.al ?_ _)))) hg8 (fun b e => by have := (HDW.out.own.lt b e).1; have := HGB.out; omega); have hch8 : Ch g w w8 := ch_grown (HDW.out.ch.tr (Ch.of_bel (by repeat (first | exact Bel.rf | (with_reducible refine Bel.drwN ?_ _) | (with_reducible refine Bel.drw ?_) | (with_reducible refine Bel.al ?_ _))))) hg8 (fun b e => (HDW.out.own.lt b e).1))
          have HDX := Lib.hid (HDW.out.more (m := []) (u := .slice none 0 0) HDW.out.zo HDW.out.nb HDW.out.nz HDW.out.cap rfl (by have := HD.out.bnd; simp; omega) ⟨none, 0, 0, rfl, zo_nix, .inr ⟨rfl, rfl, rfl⟩, fun k o e => by cases e⟩ ho8 hok8 hch8)
          clear ho8 hg8 hok8 hch8
          go_roundw
          case rel => exact ⟨0, _, 0, _, _, _, _, _, rfl, rfl, rfl, HDX.out.zo, HDX.out.nb, HDX.out.nz, HDX.out.cap, HDX.out.app, HDX.out.len, HDX.out.bnd, HDX.out.pts, own_bel HDX.out.own (by repeat (first | exact Bel.rf | (with_reducible refine Bel.drwN ?_ _) | (with_reducible refine Bel.drw ?_) | (with_reducible refine Bel.al ?_ _))), HDX.out.ok.bel (by repeat (first | exact Bel.rf | (with_reducible refine Bel.drwN ?_ _) | (with_reducible refine Bel.drw ?_) | (with_reducible refine Bel.al ?_ _))), HDX.out.ch.tr (Ch.of_bel (by repeat (first | exact Bel.rf | (with_reducible refine Bel.drwN ?_ _) | (with_reducible refine Bel.drw ?_) | (with_reducible refine Bel.al ?_ _))))⟩
          case measure => simp [slen]; omega
        · have hn2 : (nn == 0) = false := by simp [hnn]
          go_wp2
          go_roundw
          case rel => exact ⟨0, _, 0, _, _, _, _, _, rfl, rfl, rfl, HDW.out.zo, HDW.out.nb, HDW.out.nz, HDW.out.cap, HDW.out.app, HDW.out.len, HDW.out.bnd, HDW.out.pts, own_bel HDW.out.own (by repeat (first | exact Bel.rf | (with_reducible refine Bel.drwN ?_ _) | (with_reducible refine Bel.drw ?_) | (with_reducible refine Bel.al ?_ _))), HDW.out.ok.bel (by repeat (first | exact Bel.rf | (with_reducible refine Bel.drwN ?_ _) | (with_reducible refine Bel.drw ?_) | (with_reducible refine Bel.al ?_ _))), HDW.out.ch.tr (Ch.of_bel (by repeat (first | exact Bel.rf | (with_reducible refine Bel.drwN ?_ _) | (with_reducible refine Bel.drw ?_) | (with_reducible refine Bel.al ?_ _))))⟩
          case measure => simp [slen]; omega
      · have HCK := Lib.hid hck
        have ck2 : ¬ k = cB := fun e => HCK.out e.symm
        have HDN : Hid (∀ (W : World) (v' : Value), W.ownsRow w.heap.size 23 1 v' (Vs.length + 1) (Vs ++ [.slice (some ⟨bx, o, none⟩) k cB]) → Ok W g → Ch g w W → Dv w g n l W (some ⟨bx, o + k * 2, none⟩) (r - k) (cB - k) (rest.drop k) (P ++ [rest.take k]) (Vs ++ [.slice (some ⟨bx, o, none⟩) k cB]) v') := fun W v' h1 h2 h3 =>
          HD.out.more (zo_bck HD.out.zo k hkr) (fun k o e => by cases e; exact HD.out.nb _ _ rfl) (.inl ⟨_, rfl⟩) (by have := HCAP.out; omega) HRE.out (by have := HD.out.bnd; omega) HU.out h1 h2 h3
        go_wp2_with fail
        go_region_law (refine step_appp _ rfl (.tmp 14) (.tmp 18) rfl w.heap.size u5 Vs.length Vs rfl (own_bel HO4.out (by repeat (first | exact Bel.rf | (with_reducible refine Bel.drwN ?_ _) | (with_reducible refine Bel.drw ?_) | (with_reducible refine Bel.al ?_ _)))) _ 1 (.slice (some ⟨bx, o, none⟩) k cB) rfl rfl (by refine Bk.bel (Bk.nq ?_ _ _ ?_) ?_; rotate_left 2; (repeat (first | (with_reducible exact Bel.rf) | (with_reducible refine Bel.drwN ?_ _) | (with_reducible refine Bel.drw ?_) | (with_reducible refine Bel.al ?_ _))); all_goals first | rfl | (simp; done) | (simp; omega)) HCAP.out.2.2 (by have := HSZ.out; simp; omega) ?_; intro v5 w5 ho5 hg5; have hok5 : Ok w5 g := ok_grown (HOK4.out.bel (by repeat (first | exact Bel.rf | (with_reducible refine Bel.drwN ?_ _) | (with_reducible refine Bel.drw ?_) | (with_reducible refine Bel.al ?_ _)))) hg5 (fun b e => by have := (HO4.out.lt b e).1; have := HGB.out; omega); have hch5 : Ch g w w5 := ch_grown ((HD.out.ch.tr HC4.out).tr (Ch.of_bel (by repeat (first | exact Bel.rf | (with_reducible refine Bel.drwN ?_ _) | (with_reducible refine Bel.drw ?_) | (with_reducible refine Bel.al ?_ _))))) hg5 (fun b e => (HO4.out.lt b e).1))
        have HDV := Lib.hid (HDN.out w5 v5 ho5 hok5 hch5)
        clear ho5 hg5 hok5 hch5 HDN
        go_wp2_with fail
        go_at_call 19
        refine (n_any g 3 (by decide) (by decide) _ (HDV.out.ok.bel (by repeat (first | exact Bel.rf | (with_reducible refine Bel.drwN ?_ _) | (with_reducible refine Bel.drw ?_) | (with_reducible refine Bel.al ?_ _))))).mono ?_
        rintro e w6 ⟨nn, rfl, n0, n3, hok6, hch6⟩
        have HDW : Hid (Dv w g n l w6 (some ⟨bx, (o + k * 2), none⟩) (r - k) (cB - k) (rest.drop k) (P ++ [rest.take k]) (Vs ++ [.slice (some ⟨bx, o, none⟩) k cB]) v5) := ⟨HDV.out.zo, HDV.out.nb, HDV.out.nz, HDV.out.cap, HDV.out.app, HDV.out.len, HDV.out.bnd, HDV.out.pts, own_ch HDV.out.own ((Ch.of_bel (by repeat (first | exact Bel.rf | (with_reducible refine Bel.drwN ?_ _) | (with_reducible refine Bel.drw ?_) | (with_reducible refine Bel.al ?_ _)))).tr hch6) HGB.out, hok6, HDV.out.ch.tr ((Ch.of_bel (by repeat (first | exact Bel.rf | (with_reducible refine Bel.drwN ?_ _) | (with_reducible refine Bel.drw ?_) | (with_reducible refine Bel.al ?_ _)))).tr hch6)⟩
        clear hok6 hch6 HDV
        by_cases hnn : nn = 0
        · subst hnn
          have HVL : Hid ((Vs ++ [Value.slice (some ⟨bx, o, none⟩) k cB]).length ≤ 100000) := by have := HDW.out.bnd; show _ ≤ _; omega
          have HS6 : Hid (w.heap.size ≤ w6.heap.size) := HDW.out.ch.sz
          have HB7 : Hid (Bk (w6.alloc (.cells #[.slice none 0 0] 23)) w6.heap.size 23 #[.slice none 0 0]) := Bk.nw _ _ _
          go_wp2_with (at_builtin; refine list_appp _ rfl _ _ rfl w.heap.size v5 _ _ rfl (own_bel HDW.out.own (by repeat (first | exact Bel.rf | (with_reducible refine Bel.drwN ?_ _) | (with_reducible refine Bel.drw ?_) | (with_reducible refine Bel.al ?_ _)))) w6.heap.size 1 (.slice none 0 0) rfl rfl (HB7.out.bel (by repeat (first | exact Bel.rf | (with_reducible refine Bel.drwN ?_ _) | (with_reducible refine Bel.drw ?_) | (with_reducible refine Bel.al ?_ _)))) HVL.out (by have := HS6.out; simp; omega) ?_; intro v8 w8 ho8 hg8; have hok8 : Ok w8 g := ok_grown (HDW.out.ok.bel (by repeat (first | exact Bel.rf | (with_reducible refine Bel.drwN ?_ _) | (with_reducible refine Bel.drw ?_) | (with_reducible refine Bel.al ?_ _)))) hg8 (fun b e => by have := (HDW.out.own.lt b e).1; have := HGB.out; omega); have hch8 : Ch g w w8 := ch_grown (HDW.out.ch.tr (Ch.of_bel (by repeat (first | exact Bel.rf | (with_reducible refine Bel.drwN ?_ _) | (with_reducible refine Bel.drw ?_) | (with_reducible refine Bel.al ?_ _))))) hg8 (fun b e => (HDW.out.own.lt b e).1))
          have HDX := Lib.hid (HDW.out.more (m := []) (u := .slice none 0 0) HDW.out.zo HDW.out.nb HDW.out.nz HDW.out.cap rfl (by have := HD.out.bnd; simp; omega) ⟨none, 0, 0, rfl, zo_nix, .inr ⟨rfl, rfl, rfl⟩, fun k o e => by cases e⟩ ho8 hok8 hch8)
          clear ho8 hg8 hok8 hch8
          go_roundw
          case rel => exact ⟨(r - k), _, (cB - k), _, _, _, _, _, rfl, rfl, rfl, HDX.out.zo, HDX.out.nb, HDX.out.nz, HDX.out.cap, HDX.out.app, HDX.out.len, HDX.out.bnd, HDX.out.pts, own_bel HDX.out.own (by repeat (first | exact Bel.rf | (with_reducible refine Bel.drwN ?_ _) | (with_reducible refine Bel.drw ?_) | (with_reducible refine Bel.al ?_ _))), HDX.out.ok.bel (by repeat (first | exact Bel.rf | (with_reducible refine Bel.drwN ?_ _) | (with_reducible refine Bel.drw ?_) | (with_reducible refine Bel.al ?_ _))), HDX.out.ch.tr (Ch.of_bel (by repeat (first | exact Bel.rf | (with_reducible refine Bel.drwN ?_ _) | (with_reducible refine Bel.drw ?_) | (with_reducible refine Bel.al ?_ _))))⟩
          case measure => simp [slen]; omega
        · have hn2 : (nn == 0) = false := by simp [hnn]
          go_wp2
          go_roundw
          case rel => exact ⟨(r - k), _, (cB - k), _, _, _, _, _, rfl, rfl, rfl, HDW.out.zo, HDW.out.nb, HDW.out.nz, HDW.out.cap, HDW.out.app, HDW.out.len, HDW.out.bnd, HDW.out.pts, own_bel HDW.out.own (by repeat (first | exact Bel.rf | (with_reducible refine Bel.drwN ?_ _) | (with_reducible refine Bel.drw ?_) | (with_reducible refine Bel.al ?_ _))), HDW.out.ok.bel (by repeat (first | exact Bel.rf | (with_reducible refine Bel.drwN ?_ _) | (with_reducible refine Bel.drw ?_) | (with_reducible refine Bel.al ?_ _))), HDW.out.ch.tr (Ch.of_bel (by repeat (first | exact Bel.rf | (with_reducible refine Bel.drwN ?_ _) | (with_reducible refine Bel.drw ?_) | (with_reducible refine Bel.al ?_ _))))⟩
          case measure => simp [slen]; omega
end Go.Proofs.Ytgcjangnlbhicaa.St
