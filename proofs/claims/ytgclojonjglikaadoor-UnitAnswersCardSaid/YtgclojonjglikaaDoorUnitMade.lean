/- The contract of shapesearchlaw04.made: a valid decimal and a valid unit, whatever the list holds. -/
import Derived.Test.YtgclojonjglikaaDoorSrcMore
import Derived.Test.YtgclojonjglikaaDoorSrcNew
import Derived.Test.YtgclojonjglikaaDoorUnitAwake
import Derived.Deep.RegionHeld3
import Derived.Deep.DeepCutAuto
import Derived.Test.YtgclojonjglikaaDoorRegionInv
namespace Go.Proofs.YtgclojonjglikaaDoor.Un
open Go.ChangeShapes Go.WideShapes Go.RowKit Wo Sr
set_option linter.unusedVariables false
def SomeMade (w : World) (e : Ending) (w' : World) : Prop := ∃ (x : Int) (p : Nat) (s : ByteArray) (m a d : Int),
  e = .returned (.tuple #[.agg #[.int .i64 x, .int .i64 (p : Int)], .agg #[.string s, .int .i64 m, .int .i64 a, .int .i64 d]]) ∧
  (-1000000000 ≤ x ∧ x ≤ 1000000000 ∧ p ≤ 6 ∧ Low s ∧ 1 ≤ m ∧ m ≤ 1000000 ∧ -1000000000 ≤ a ∧ a ≤ 1000000000 ∧ 1 ≤ d ∧ d ≤ 1000000) ∧ Bel w w'
theorem in_a {x : Int} (h : x ∈ ([9, 1000, 1000000000] : List Int)) : 9 ≤ x ∧ x ≤ 1000000000 := by simp at h; omega
theorem in_b {x : Int} (h : x ∈ ([1, 9, 1000000] : List Int)) : 1 ≤ x ∧ x ≤ 1000000 := by simp at h; omega
theorem in_c {x : Int} (h : x ∈ ([0, 500, 1000000000] : List Int)) : 0 ≤ x ∧ x ≤ 1000000000 := by simp at h; omega
def names : List ByteArray := [⟨#[99]⟩, ⟨#[114, 97, 119]⟩, ⟨#[97, 98, 99, 100, 101, 102, 103, 104, 105, 106, 107, 108]⟩]
theorem low_names {s : ByteArray} (h : s ∈ names) : Low s := by
  simp only [names, List.mem_cons, List.not_mem_nil, or_false] at h
  rcases h with rfl | rfl | rfl
  · exact low_lit (by decide) (by decide) (by decide)
  · exact low_raw
  · exact low_lit (by decide) (by decide) (by decide)
def GoodU (s : ByteArray) (m a d : Int) : Prop := Low s ∧ 1 ≤ m ∧ m ≤ 1000000 ∧ -1000000000 ≤ a ∧ a ≤ 1000000000 ∧ 1 ≤ d ∧ d ≤ 1000000
def Sl (base : Nat) (t : TypeId) (cs : Array Value) (v : Value) (w : World) : Prop := ∃ h : Nat, v = .slice (some ⟨h, 0, none⟩) 3 3 ∧ base ≤ h ∧ Bk w h t cs
def In (lo hi : Int) (v : Value) : Prop := ∃ y : Int, v = .int .i64 y ∧ lo ≤ y ∧ y ≤ hi
/-- what operation j has yielded -/
def phi (g base : Nat) (x p : Int) (j : Nat) (v : Value) (w : World) : Prop :=
  match j with
  | 0 => v = .agg #[.int .i64 x, .int .i64 p]
  | 1 | 4 | 5 | 9 | 10 | 14 | 15 => v = .pointer (some ⟨g, 0, none⟩)
  | 2 => Sl base 9 #[.string ⟨#[99]⟩, .string ⟨#[114, 97, 119]⟩, .string ⟨#[97, 98, 99, 100, 101, 102, 103, 104, 105, 106, 107, 108]⟩] v w
  | 6 | 16 => Sl base 3 #[.int .i64 1, .int .i64 9, .int .i64 1000000] v w
  | 11 => Sl base 3 #[.int .i64 0, .int .i64 500, .int .i64 1000000000] v w
  | 3 => ∃ s ∈ names, v = .string s
  | 7 | 8 | 17 | 18 => In 1 1000000 v
  | 12 => In 0 1000000000 v
  | 13 => In (-9) 1000000000 v
  | 19 => ∃ s m a d, v = .agg #[.string s, .int .i64 m, .int .i64 a, .int .i64 d] ∧ GoodU s m a d
  | _ => True
theorem Sl.keep {base : Nat} {t : TypeId} {cs : Array Value} {v : Value} {w w' : World} (h : Sl base t cs v w) (hk : ∀ k, base ≤ k → Bk w k t cs → Bk w' k t cs) : Sl base t cs v w' := by
  obtain ⟨b, h1, h2, h3⟩ := h
  exact ⟨b, h1, h2, hk b h2 h3⟩
theorem phi_keep {g base : Nat} {x p : Int} {w w' : World} (hk : ∀ k t cs, base ≤ k → Bk w k t cs → Bk w' k t cs) (j : Nat) (v : Value) (h : phi g base x p j v w) : phi g base x p j v w' := by
  unfold phi at *
  split at h <;> first | exact h | exact h.keep (fun k => hk k _ _)
theorem put_phi {f : Nat → Value → World → Prop} {listed : Array Bool} {v : Nat → Value} {i : Nat} {val : Value} {w w' : World} (h : ∀ j, listed.getD j false = true → f j (v j) w) (hs : ∀ j u, f j u w → f j u w') (hv : f i val w') :
    ∀ j, (listed.setIfInBounds i true).getD j false = true → f j (if j = i then val else v j) w' := by
  intro j hj
  rcases Classical.em (j = i) with he | he
  · rw [if_pos he, he]; exact hv
  · rw [if_neg he]
    rw [getD_set_ne _ (fun e => he e.symm)] at hj
    exact hs j _ (h j hj)
theorem un {listed : Array Bool} {i : Nat} (h : listed.getD i true = false) : listed.getD i false = false := by
  rw [Array.getD_eq_getD_getElem?] at h ⊢
  cases hx : listed[i]? with
  | none => rw [hx] at h; cases h
  | some b => rw [hx] at h; exact h
theorem set_get {listed : Array Bool} {i : Nat} (h : listed.getD i true = false) : (listed.setIfInBounds i true).getD i false = true := by
  have hl : i < listed.size := by
    rcases Nat.lt_or_ge i listed.size with h1 | h1
    · exact h1
    · rw [Array.getD_eq_getD_getElem?, Array.getElem?_eq_none (by omega)] at h; cases h
  rw [Array.getD_eq_getD_getElem?, Array.getElem?_setIfInBounds, if_pos rfl, if_pos hl]; rfl
theorem rep_get (n j : Nat) : (Array.replicate n false).getD j false = false := by
  rw [Array.getD_eq_getD_getElem?, Array.getElem?_replicate]
  split <;> rfl
def WI (g base : Nat) (x p : Int) (l20 l21 : Bool) (w wx : World) : Prop :=
  (l20 = false → Ok wx g) ∧ Bel w wx ∧ base < wx.heap.size ∧ Bk wx base 23 #[.int .i64 x, .int .i64 p] ∧ Bk wx w.heap.size 23 (if l20 then #[.int .i64 x, .int .i64 p] else #[.int .i64 0, .int .i64 0]) ∧
  ∃ cs, Bk wx (w.heap.size + 1) 25 cs ∧ (l21 = false → cs = #[.string ⟨#[]⟩, .int .i64 0, .int .i64 0, .int .i64 0]) ∧ (l21 = true → ∃ s m a d, cs = #[.string s, .int .i64 m, .int .i64 a, .int .i64 d] ∧ GoodU s m a d)
theorem WI.ch {g base : Nat} {x p : Int} {l20 l21 : Bool} {w wx wy : World} (h : WI g base x p l20 l21 w wx) (hg : w.heap.size + 2 ≤ g) (hgb : g < base) (ho : l20 = false → Ok wy g) (hc : Ch g wx wy) : WI g base x p l20 l21 w wy := by
  obtain ⟨h1, h2, h3, h4, h5, cs, h6, h7⟩ := h
  exact ⟨ho, Bel.ch h2 hc (by omega), by have := hc.sz; omega, hc.bk h4 (by omega), hc.bk h5 (by omega), cs, hc.bk h6 (by omega), h7⟩
set_option maxHeartbeats 16000000 in
set_option maxRecDepth 100000 in
theorem made_any (A : Option Addr) (len cap : Nat) (zs : List Int) (w : World)
    (h : (A = none ∧ len = 0 ∧ cap = 0 ∧ zs = []) ∨ ∃ x, A = some x ∧ len ≤ cap ∧ cap ≤ maxLen ∧ zs.length = cap ∧ (∀ i, i < zs.length → w.cell? (x.add i) = some (.int .i64 (zs.getD i 0))) ∧ ∀ n ∈ zs, (Lit.int .i64 n).wf = true) :
    Calls Tryd.prog 5 #[.slice A len cap] w (SomeMade w) := by
  have HN : Hid (Calls Tryd.prog 15 #[.slice A len cap] ((w.alloc (.cells #[.int .i64 0, .int .i64 0] 23)).alloc (.cells #[.string ⟨#[]⟩, .int .i64 0, .int .i64 0, .int .i64 0] 25)) (SomeNew ((w.alloc (.cells #[.int .i64 0, .int .i64 0] 23)).alloc (.cells #[.string ⟨#[]⟩, .int .i64 0, .int .i64 0, .int .i64 0] 25)))) :=
    new_any A len cap zs _ (by
      rcases h with h | ⟨x, rfl, h1, h2, h3, h4, h5⟩
      · exact .inl h
      · exact .inr ⟨x, rfl, h1, h2, h3, fun i hi => kp_al (kp_al (h4 i hi) _) _, h5⟩)
  clear h
  go_enter Tryd.func5, Tryd.ntmps5
  go_wp2_with fail
  go_at_call 15
  refine (HN.out).mono ?_
  rintro e w1 ⟨g, rfl, hg, ho1, hb1⟩
  simp only [World.size_alloc] at hg
  have HA : Hid (Bk w1 w.heap.size 23 #[.int .i64 0, .int .i64 0]) := ((Bk.nw _ _ _).al _).bel hb1
  have HB : Hid (Bk w1 (w.heap.size + 1) 25 #[.string ⟨#[]⟩, .int .i64 0, .int .i64 0, .int .i64 0]) := (Bk.nq (w.alloc _) _ _ (by simp)).bel hb1
  have HX : Hid (Bel w w1) := ((Bel.rf.al _).al _).tr hb1
  have HO := Lib.hid ho1
  clear hb1 ho1 HN
  have PA : Hid (∀ W, Ok W g → Calls Tryd.prog 17 #[.pointer (some ⟨g, 0, none⟩), .slice (some ⟨W.heap.size, 0, none⟩) 3 3] (W.alloc (.cells #[.int .i64 9, .int .i64 1000, .int .i64 1000000000] 3)) (SomePick g [9, 1000, 1000000000] (W.alloc (.cells #[.int .i64 9, .int .i64 1000, .int .i64 1000000000] 3)))) := fun W hW =>
    pick_any g W.heap.size [9, 1000, 1000000000] 3 rfl (by decide) (by decide) (by have := hW.lt; omega) _ (hW.bel (Bel.rf.al _)) (lst_new _ [9, 1000, 1000000000] _ _ rfl _ rfl)
  go_wp2_with fail
  go_at_call 17
  refine (PA.out _ HO.out).mono ?_
  rintro e w2 ⟨x1, rfl, hx, ho, hc⟩
  have hx1 := in_a hx
  obtain ⟨x11, x12⟩ := hx1
  have HO := Lib.hid ho
  have HC : Hid (Ch g w1 w2) := (Ch.rf.al _).tr hc
  clear hx ho hc
  go_wp2_with fail
  go_at_call 17
  refine (PA.out _ HO.out).mono ?_
  rintro e w3 ⟨x2, rfl, hx, ho, hc⟩
  have hx1 := in_a hx
  obtain ⟨x21, x22⟩ := hx1
  have HO := Lib.hid ho
  have HC := Lib.hid ((HC.out.al _).tr hc)
  clear hx ho hc
  go_wp2_with fail
  go_at_call 16
  refine (range_any g _ _ (by omega) (by omega) (by omega) _ HO.out).mono ?_
  rintro e w4 ⟨x, rfl, xl, xh, ho, hc⟩
  have HO := Lib.hid ho
  have HC := Lib.hid (HC.out.tr hc)
  clear ho hc
  go_wp2_with fail
  go_at_call 18
  refine (n_any g 7 (by decide) (by decide) _ HO.out).mono ?_
  rintro e w5 ⟨p, rfl, pl, ph, ho, hc⟩
  obtain ⟨p, rfl⟩ := Int.eq_ofNat_of_zero_le pl
  have HO := Lib.hid ho
  have HC := Lib.hid (HC.out.tr hc)
  have hx0 : -1000000000 ≤ x ∧ x ≤ 1000000000 := by omega
  have HXB := Lib.hid hx0
  have HA := Lib.hid (HC.out.bk HA.out (by omega))
  have HB := Lib.hid (HC.out.bk HB.out (by omega))
  have HX := Lib.hid (Bel.ch HX.out HC.out (by omega))
  clear ho hc hx0 xl xh x11 x12 x21 x22 HC
  have PB : Hid (∀ W, Ok W g → Calls Tryd.prog 17 #[.pointer (some ⟨g, 0, none⟩), .slice (some ⟨W.heap.size, 0, none⟩) 3 3] (W.alloc (.cells #[.int .i64 1, .int .i64 9, .int .i64 1000000] 3)) (SomePick g [1, 9, 1000000] (W.alloc (.cells #[.int .i64 1, .int .i64 9, .int .i64 1000000] 3)))) := fun W hW =>
    pick_any g W.heap.size [1, 9, 1000000] 3 rfl (by decide) (by decide) (by have := hW.lt; omega) _ (hW.bel (Bel.rf.al _)) (lst_new _ [1, 9, 1000000] _ _ rfl _ rfl)
  have PC : Hid (∀ W, Ok W g → Calls Tryd.prog 17 #[.pointer (some ⟨g, 0, none⟩), .slice (some ⟨W.heap.size, 0, none⟩) 3 3] (W.alloc (.cells #[.int .i64 0, .int .i64 500, .int .i64 1000000000] 3)) (SomePick g [0, 500, 1000000000] (W.alloc (.cells #[.int .i64 0, .int .i64 500, .int .i64 1000000000] 3)))) := fun W hW =>
    pick_any g W.heap.size [0, 500, 1000000000] 3 rfl (by decide) (by decide) (by have := hW.lt; omega) _ (hW.bel (Bel.rf.al _)) (lst_new _ [0, 500, 1000000000] _ _ rfl _ rfl)
  have PT : Hid (∀ W, Ok W g → Calls Tryd.prog 19 #[.pointer (some ⟨g, 0, none⟩), .slice (some ⟨W.heap.size, 0, none⟩) 3 3] (W.alloc (.cells #[.string ⟨#[99]⟩, .string ⟨#[114, 97, 119]⟩, .string ⟨#[97, 98, 99, 100, 101, 102, 103, 104, 105, 106, 107, 108]⟩] 9)) (SomeText g names (W.alloc (.cells #[.string ⟨#[99]⟩, .string ⟨#[114, 97, 119]⟩, .string ⟨#[97, 98, 99, 100, 101, 102, 103, 104, 105, 106, 107, 108]⟩] 9)))) := fun W hW =>
    text_any g W.heap.size names 3 rfl (by decide) (by decide) (by have := hW.lt; omega) _ (hW.bel (Bel.rf.al _)) (lstS_new _ names _ _ rfl _ rfl)
  have hgl : g < w5.heap.size := HO.out.lt
  have hgw : w.heap.size < w5.heap.size := HA.out.lt
  have hgw1 : w.heap.size + 1 < w5.heap.size := HB.out.lt
  go_upto_region 3 with fail
  have z0 : (w5.alloc (.cells #[.int .i64 x, .int .i64 (p : Int)] 23)).cell? ⟨w5.heap.size, 0, none⟩ = some (.int .i64 x) := (Bk.nw _ _ _).cell 0
  have z1 : (w5.alloc (.cells #[.int .i64 x, .int .i64 (p : Int)] 23)).cell? ⟨w5.heap.size, 1, none⟩ = some (.int .i64 (p : Int)) := (Bk.nw _ _ _).cell 1
  have hg2 : w.heap.size + 2 ≤ g := hg
  clear PA PB PC PT
  have HJ : ∃ J : Array Bool → Act → World → Prop, ∀ listed a wx, J listed a wx ↔ ∃ v : Nat → Value, a = ⟨#[Value.slice A len cap, undef, Value.pointer (some { block := w.heap.size, off := 0 }),
          Value.pointer (some { block := w.heap.size + 1, off := 0 }), Value.pointer (some { block := g, off := 0 }),
          Value.pointer (some { block := w5.heap.size, off := 0 }), Value.slice A len cap,
          Value.pointer (some { block := g, off := 0 }), Value.pointer (some { block := g, off := 0 }),
          Value.pointer (some { block := g, off := 0 }), Value.slice (some { block := w1.heap.size, off := 0 }) 3 3,
          Value.int IntKind.i64 x1, Value.int IntKind.i64 (-x1), Value.pointer (some { block := g, off := 0 }),
          Value.slice (some { block := w2.heap.size, off := 0 }) 3 3, Value.int IntKind.i64 x2, Value.int IntKind.i64 x,
          Value.pointer (some { block := g, off := 0 }), Value.int IntKind.i64 (p : Int),
          Value.agg #[Value.int IntKind.i64 x, Value.int IntKind.i64 (p : Int)], v 0, v 1, v 2, v 3, v 4, v 5, v 6, v 7, v 8, v 9, v 10, v 11, v 12, v 13, v 14, v 15, v 16, v 17, v 18, v 19], []⟩ ∧ (∀ j, listed.getD j false = true → phi g w5.heap.size x p j (v j) wx) ∧ WI g w5.heap.size x p (listed.getD 20 false) (listed.getD 21 false) w wx := ⟨_, fun _ _ _ => Iff.rfl⟩
  obtain ⟨J, HJ⟩ := HJ
  replace HJ := Lib.hid HJ
  have hac : True := trivial
  refine Ri9.wp_region_inv2 (by rfl) (by intro i o ho; (rcases i with _ | _ | _ | _ | _ | _ | _ | _ | _ | _ | _ | _ | _ | _ | _ | _ | _ | _ | _ | _ | _ | _ | i) <;> first | (cases ho; decide) | (exact absurd ho (by simp))) J ?_ ?_ ?_
  · refine (HJ.out _ _ _).2 ⟨fun _ => undef, rfl, fun j hj => ?_, ?_⟩
    · rw [rep_get] at hj; cases hj
    · rw [rep_get, rep_get]; exact ⟨fun _ => HO.out.bel ((Bel.rf.al _).drw), (HX.out.al _).drw, by simp, (Bk.nw _ _ _).drw, (HA.out.al _).drw, _, (HB.out.al _).drw, fun _ => rfl, fun h => (by cases h)⟩
  · intro i o ho listed a wx hcl hJ haft hun
    obtain ⟨v, rfl, hf, hi⟩ := (HJ.out _ _ _).1 hJ
    have HC := Lib.hid hcl
    clear hcl
    clear hJ
    have HF := Lib.hid hf
    have HI := Lib.hid hi
    clear hf hi
    rcases i with _ | _ | _ | _ | _ | _ | _ | _ | _ | _ | _ | _ | _ | _ | _ | _ | _ | _ | _ | _ | _ | _ | i
    · -- operation 0
      cases ho
      have z0 : wx.cell? ⟨w5.heap.size, 0, none⟩ = some (.int .i64 x) := HI.out.2.2.2.1.cell 0
      have z1 : wx.cell? ⟨w5.heap.size, 1, none⟩ = some (.int .i64 (p : Int)) := HI.out.2.2.2.1.cell 1
      refine Ri9.wpOp_list rfl ?_
      go_wp2
      refine (HJ.out _ _ _).2 ⟨fun k => if k = 0 then .agg #[.int .i64 x, .int .i64 (p : Int)] else v k, by simp [], ?_, ?_⟩
      · exact put_phi (f := phi g w5.heap.size x p) HF.out (fun _ _ h => h) (show phi g w5.heap.size x p 0 (.agg #[.int .i64 x, .int .i64 (p : Int)]) _ from rfl)
      · rw [getD_set_ne _ (by decide), getD_set_ne _ (by decide)]; exact HI.out
    · -- operation 1
      cases ho
      refine Ri9.wpOp_list rfl ?_
      go_wp2
      refine (HJ.out _ _ _).2 ⟨fun k => if k = 1 then .pointer (some ⟨g, 0, none⟩) else v k, by simp [], ?_, ?_⟩
      · exact put_phi (f := phi g w5.heap.size x p) HF.out (fun _ _ h => h) (show phi g w5.heap.size x p 1 (.pointer (some ⟨g, 0, none⟩)) _ from rfl)
      · rw [getD_set_ne _ (by decide), getD_set_ne _ (by decide)]; exact HI.out
    · -- operation 2
      cases ho
      refine Ri9.wpOp_list rfl ?_
      go_wp2
      refine (HJ.out _ _ _).2 ⟨fun k => if k = 2 then .slice (some ⟨wx.heap.size, 0, none⟩) 3 3 else v k, by simp [], ?_, ?_⟩
      · exact put_phi (f := phi g w5.heap.size x p) HF.out (phi_keep (fun k t cs _ h => h.al _)) (show phi g w5.heap.size x p 2 (.slice (some ⟨wx.heap.size, 0, none⟩) 3 3) _ from (⟨wx.heap.size, rfl, Nat.le_of_lt HI.out.2.2.1, Bk.nw _ _ _⟩))
      · rw [getD_set_ne _ (by decide), getD_set_ne _ (by decide)]; exact HI.out.ch hg2 hgl (fun h => (HI.out.1 h).bel (Bel.rf.al _)) (Ch.rf.al _)
    · -- operation 3
      cases ho
      have u20 : listed.getD 20 false = false := by
        cases hx : listed.getD 20 false
        · rfl
        · exfalso
          have c20 := hx
          have c18 : listed.getD 18 false = true := by first | (refine HC.out 20 _ rfl c20 ⟨18, .chain⟩ ?_ rfl; simp; done) | (refine HC.out 20 _ rfl c20 ⟨18, .data⟩ ?_ rfl; simp; done)
          have c17 : listed.getD 17 false = true := by first | (refine HC.out 18 _ rfl c18 ⟨17, .chain⟩ ?_ rfl; simp; done) | (refine HC.out 18 _ rfl c18 ⟨17, .data⟩ ?_ rfl; simp; done)
          have c13 : listed.getD 13 false = true := by first | (refine HC.out 17 _ rfl c17 ⟨13, .chain⟩ ?_ rfl; simp; done) | (refine HC.out 17 _ rfl c17 ⟨13, .data⟩ ?_ rfl; simp; done)
          have c12 : listed.getD 12 false = true := by first | (refine HC.out 13 _ rfl c13 ⟨12, .chain⟩ ?_ rfl; simp; done) | (refine HC.out 13 _ rfl c13 ⟨12, .data⟩ ?_ rfl; simp; done)
          have c8 : listed.getD 8 false = true := by first | (refine HC.out 12 _ rfl c12 ⟨8, .chain⟩ ?_ rfl; simp; done) | (refine HC.out 12 _ rfl c12 ⟨8, .data⟩ ?_ rfl; simp; done)
          have c7 : listed.getD 7 false = true := by first | (refine HC.out 8 _ rfl c8 ⟨7, .chain⟩ ?_ rfl; simp; done) | (refine HC.out 8 _ rfl c8 ⟨7, .data⟩ ?_ rfl; simp; done)
          have c3 : listed.getD 3 false = true := by first | (refine HC.out 7 _ rfl c7 ⟨3, .chain⟩ ?_ rfl; simp; done) | (refine HC.out 7 _ rfl c7 ⟨3, .data⟩ ?_ rfl; simp; done)
          have h9 := un hun
          rw [show listed.getD 3 false = true from c3] at h9
          cases h9
      have hok := HI.out.1 u20
      have g1 : v 1 = _ := HF.out 1 (haft ⟨1, .data⟩ (by simp) rfl)
      obtain ⟨h, g2, hb, hbk⟩ : Sl _ _ _ (v 2) wx := HF.out 2 (haft ⟨2, .data⟩ (by simp) rfl)
      have hl : LstS wx h names := ⟨hbk.lt, fun i hi => by rw [hbk.cell i]; simp [names] at hi; rcases i with _ | _ | _ | i <;> first | rfl | omega⟩
      refine Ri9.wpOp_list rfl ?_
      rw [g1, g2]
      go_wp2_with (go_at_call 19; refine (text_any g h names 3 rfl (by decide) (by decide) (by omega) _ hok hl).mono ?_; rintro e wy ⟨y, rfl, hy, ho2, hc⟩)
      refine (HJ.out _ _ _).2 ⟨fun k => if k = 3 then .string y else v k, by simp [g1, g2], ?_, ?_⟩
      · exact put_phi (f := phi g w5.heap.size x p) HF.out (phi_keep (fun k t cs hk h => hc.bk h (by omega))) (show phi g w5.heap.size x p 3 (.string y) _ from (⟨y, hy, rfl⟩))
      · rw [getD_set_ne _ (by decide), getD_set_ne _ (by decide)]; exact HI.out.ch hg2 hgl (fun _ => ho2) hc
    · -- operation 4
      cases ho
      refine Ri9.wpOp_list rfl ?_
      go_wp2
      refine (HJ.out _ _ _).2 ⟨fun k => if k = 4 then .pointer (some ⟨g, 0, none⟩) else v k, by simp [], ?_, ?_⟩
      · exact put_phi (f := phi g w5.heap.size x p) HF.out (fun _ _ h => h) (show phi g w5.heap.size x p 4 (.pointer (some ⟨g, 0, none⟩)) _ from rfl)
      · rw [getD_set_ne _ (by decide), getD_set_ne _ (by decide)]; exact HI.out
    · -- operation 5
      cases ho
      refine Ri9.wpOp_list rfl ?_
      go_wp2
      refine (HJ.out _ _ _).2 ⟨fun k => if k = 5 then .pointer (some ⟨g, 0, none⟩) else v k, by simp [], ?_, ?_⟩
      · exact put_phi (f := phi g w5.heap.size x p) HF.out (fun _ _ h => h) (show phi g w5.heap.size x p 5 (.pointer (some ⟨g, 0, none⟩)) _ from rfl)
      · rw [getD_set_ne _ (by decide), getD_set_ne _ (by decide)]; exact HI.out
    · -- operation 6
      cases ho
      refine Ri9.wpOp_list rfl ?_
      go_wp2
      refine (HJ.out _ _ _).2 ⟨fun k => if k = 6 then .slice (some ⟨wx.heap.size, 0, none⟩) 3 3 else v k, by simp [], ?_, ?_⟩
      · exact put_phi (f := phi g w5.heap.size x p) HF.out (phi_keep (fun k t cs _ h => h.al _)) (show phi g w5.heap.size x p 6 (.slice (some ⟨wx.heap.size, 0, none⟩) 3 3) _ from (⟨wx.heap.size, rfl, Nat.le_of_lt HI.out.2.2.1, Bk.nw _ _ _⟩))
      · rw [getD_set_ne _ (by decide), getD_set_ne _ (by decide)]; exact HI.out.ch hg2 hgl (fun h => (HI.out.1 h).bel (Bel.rf.al _)) (Ch.rf.al _)
    · -- operation 7
      cases ho
      have u20 : listed.getD 20 false = false := by
        cases hx : listed.getD 20 false
        · rfl
        · exfalso
          have c20 := hx
          have c18 : listed.getD 18 false = true := by first | (refine HC.out 20 _ rfl c20 ⟨18, .chain⟩ ?_ rfl; simp; done) | (refine HC.out 20 _ rfl c20 ⟨18, .data⟩ ?_ rfl; simp; done)
          have c17 : listed.getD 17 false = true := by first | (refine HC.out 18 _ rfl c18 ⟨17, .chain⟩ ?_ rfl; simp; done) | (refine HC.out 18 _ rfl c18 ⟨17, .data⟩ ?_ rfl; simp; done)
          have c13 : listed.getD 13 false = true := by first | (refine HC.out 17 _ rfl c17 ⟨13, .chain⟩ ?_ rfl; simp; done) | (refine HC.out 17 _ rfl c17 ⟨13, .data⟩ ?_ rfl; simp; done)
          have c12 : listed.getD 12 false = true := by first | (refine HC.out 13 _ rfl c13 ⟨12, .chain⟩ ?_ rfl; simp; done) | (refine HC.out 13 _ rfl c13 ⟨12, .data⟩ ?_ rfl; simp; done)
          have c8 : listed.getD 8 false = true := by first | (refine HC.out 12 _ rfl c12 ⟨8, .chain⟩ ?_ rfl; simp; done) | (refine HC.out 12 _ rfl c12 ⟨8, .data⟩ ?_ rfl; simp; done)
          have c7 : listed.getD 7 false = true := by first | (refine HC.out 8 _ rfl c8 ⟨7, .chain⟩ ?_ rfl; simp; done) | (refine HC.out 8 _ rfl c8 ⟨7, .data⟩ ?_ rfl; simp; done)
          have h9 := un hun
          rw [show listed.getD 7 false = true from c7] at h9
          cases h9
      have hok := HI.out.1 u20
      have g1 : v 5 = _ := HF.out 5 (haft ⟨5, .data⟩ (by simp) rfl)
      obtain ⟨h, g2, hb, hbk⟩ : Sl _ _ _ (v 6) wx := HF.out 6 (haft ⟨6, .data⟩ (by simp) rfl)
      have hl : Lst wx h [1, 9, 1000000] := ⟨hbk.lt, fun i hi => by rw [hbk.cell i]; simp at hi; rcases i with _ | _ | _ | i <;> first | rfl | omega⟩
      refine Ri9.wpOp_list rfl ?_
      rw [g1, g2]
      go_wp2_with (go_at_call 17; refine (pick_any g h [1, 9, 1000000] 3 rfl (by decide) (by decide) (by omega) _ hok hl).mono ?_; rintro e wy ⟨y, rfl, hy, ho2, hc⟩)
      refine (HJ.out _ _ _).2 ⟨fun k => if k = 7 then .int .i64 y else v k, by simp [g1, g2], ?_, ?_⟩
      · exact put_phi (f := phi g w5.heap.size x p) HF.out (phi_keep (fun k t cs hk h => hc.bk h (by omega))) (show phi g w5.heap.size x p 7 (.int .i64 y) _ from (⟨y, rfl, (in_b hy).1, (in_b hy).2⟩))
      · rw [getD_set_ne _ (by decide), getD_set_ne _ (by decide)]; exact HI.out.ch hg2 hgl (fun _ => ho2) hc
    · -- operation 8
      cases ho
      have u20 : listed.getD 20 false = false := by
        cases hx : listed.getD 20 false
        · rfl
        · exfalso
          have c20 := hx
          have c18 : listed.getD 18 false = true := by first | (refine HC.out 20 _ rfl c20 ⟨18, .chain⟩ ?_ rfl; simp; done) | (refine HC.out 20 _ rfl c20 ⟨18, .data⟩ ?_ rfl; simp; done)
          have c17 : listed.getD 17 false = true := by first | (refine HC.out 18 _ rfl c18 ⟨17, .chain⟩ ?_ rfl; simp; done) | (refine HC.out 18 _ rfl c18 ⟨17, .data⟩ ?_ rfl; simp; done)
          have c13 : listed.getD 13 false = true := by first | (refine HC.out 17 _ rfl c17 ⟨13, .chain⟩ ?_ rfl; simp; done) | (refine HC.out 17 _ rfl c17 ⟨13, .data⟩ ?_ rfl; simp; done)
          have c12 : listed.getD 12 false = true := by first | (refine HC.out 13 _ rfl c13 ⟨12, .chain⟩ ?_ rfl; simp; done) | (refine HC.out 13 _ rfl c13 ⟨12, .data⟩ ?_ rfl; simp; done)
          have c8 : listed.getD 8 false = true := by first | (refine HC.out 12 _ rfl c12 ⟨8, .chain⟩ ?_ rfl; simp; done) | (refine HC.out 12 _ rfl c12 ⟨8, .data⟩ ?_ rfl; simp; done)
          have h9 := un hun
          rw [show listed.getD 8 false = true from c8] at h9
          cases h9
      have hok := HI.out.1 u20
      have g1 : v 4 = _ := HF.out 4 (haft ⟨4, .data⟩ (by simp) rfl)
      obtain ⟨u, g2, hu1, hu2⟩ : In _ _ (v 7) := HF.out 7 (haft ⟨7, .data⟩ (by simp) rfl)
      refine Ri9.wpOp_list rfl ?_
      rw [g1, g2]
      go_wp2_with (go_at_call 16; refine (range_any g 1 u (by decide) (by omega) (by omega) _ hok).mono ?_; rintro e wy ⟨y, rfl, hy1, hy2, ho2, hc⟩)
      refine (HJ.out _ _ _).2 ⟨fun k => if k = 8 then .int .i64 y else v k, by simp [g1, g2], ?_, ?_⟩
      · exact put_phi (f := phi g w5.heap.size x p) HF.out (phi_keep (fun k t cs hk h => hc.bk h (by omega))) (show phi g w5.heap.size x p 8 (.int .i64 y) _ from (⟨y, rfl, by omega, by omega⟩))
      · rw [getD_set_ne _ (by decide), getD_set_ne _ (by decide)]; exact HI.out.ch hg2 hgl (fun _ => ho2) hc
    · -- operation 9
      cases ho
      refine Ri9.wpOp_list rfl ?_
      go_wp2
      refine (HJ.out _ _ _).2 ⟨fun k => if k = 9 then .pointer (some ⟨g, 0, none⟩) else v k, by simp [], ?_, ?_⟩
      · exact put_phi (f := phi g w5.heap.size x p) HF.out (fun _ _ h => h) (show phi g w5.heap.size x p 9 (.pointer (some ⟨g, 0, none⟩)) _ from rfl)
      · rw [getD_set_ne _ (by decide), getD_set_ne _ (by decide)]; exact HI.out
    · -- operation 10
      cases ho
      refine Ri9.wpOp_list rfl ?_
      go_wp2
      refine (HJ.out _ _ _).2 ⟨fun k => if k = 10 then .pointer (some ⟨g, 0, none⟩) else v k, by simp [], ?_, ?_⟩
      · exact put_phi (f := phi g w5.heap.size x p) HF.out (fun _ _ h => h) (show phi g w5.heap.size x p 10 (.pointer (some ⟨g, 0, none⟩)) _ from rfl)
      · rw [getD_set_ne _ (by decide), getD_set_ne _ (by decide)]; exact HI.out
    · -- operation 11
      cases ho
      refine Ri9.wpOp_list rfl ?_
      go_wp2
      refine (HJ.out _ _ _).2 ⟨fun k => if k = 11 then .slice (some ⟨wx.heap.size, 0, none⟩) 3 3 else v k, by simp [], ?_, ?_⟩
      · exact put_phi (f := phi g w5.heap.size x p) HF.out (phi_keep (fun k t cs _ h => h.al _)) (show phi g w5.heap.size x p 11 (.slice (some ⟨wx.heap.size, 0, none⟩) 3 3) _ from (⟨wx.heap.size, rfl, Nat.le_of_lt HI.out.2.2.1, Bk.nw _ _ _⟩))
      · rw [getD_set_ne _ (by decide), getD_set_ne _ (by decide)]; exact HI.out.ch hg2 hgl (fun h => (HI.out.1 h).bel (Bel.rf.al _)) (Ch.rf.al _)
    · -- operation 12
      cases ho
      have u20 : listed.getD 20 false = false := by
        cases hx : listed.getD 20 false
        · rfl
        · exfalso
          have c20 := hx
          have c18 : listed.getD 18 false = true := by first | (refine HC.out 20 _ rfl c20 ⟨18, .chain⟩ ?_ rfl; simp; done) | (refine HC.out 20 _ rfl c20 ⟨18, .data⟩ ?_ rfl; simp; done)
          have c17 : listed.getD 17 false = true := by first | (refine HC.out 18 _ rfl c18 ⟨17, .chain⟩ ?_ rfl; simp; done) | (refine HC.out 18 _ rfl c18 ⟨17, .data⟩ ?_ rfl; simp; done)
          have c13 : listed.getD 13 false = true := by first | (refine HC.out 17 _ rfl c17 ⟨13, .chain⟩ ?_ rfl; simp; done) | (refine HC.out 17 _ rfl c17 ⟨13, .data⟩ ?_ rfl; simp; done)
          have c12 : listed.getD 12 false = true := by first | (refine HC.out 13 _ rfl c13 ⟨12, .chain⟩ ?_ rfl; simp; done) | (refine HC.out 13 _ rfl c13 ⟨12, .data⟩ ?_ rfl; simp; done)
          have h9 := un hun
          rw [show listed.getD 12 false = true from c12] at h9
          cases h9
      have hok := HI.out.1 u20
      have g1 : v 10 = _ := HF.out 10 (haft ⟨10, .data⟩ (by simp) rfl)
      obtain ⟨h, g2, hb, hbk⟩ : Sl _ _ _ (v 11) wx := HF.out 11 (haft ⟨11, .data⟩ (by simp) rfl)
      have hl : Lst wx h [0, 500, 1000000000] := ⟨hbk.lt, fun i hi => by rw [hbk.cell i]; simp at hi; rcases i with _ | _ | _ | i <;> first | rfl | omega⟩
      refine Ri9.wpOp_list rfl ?_
      rw [g1, g2]
      go_wp2_with (go_at_call 17; refine (pick_any g h [0, 500, 1000000000] 3 rfl (by decide) (by decide) (by omega) _ hok hl).mono ?_; rintro e wy ⟨y, rfl, hy, ho2, hc⟩)
      refine (HJ.out _ _ _).2 ⟨fun k => if k = 12 then .int .i64 y else v k, by simp [g1, g2], ?_, ?_⟩
      · exact put_phi (f := phi g w5.heap.size x p) HF.out (phi_keep (fun k t cs hk h => hc.bk h (by omega))) (show phi g w5.heap.size x p 12 (.int .i64 y) _ from (⟨y, rfl, (in_c hy).1, (in_c hy).2⟩))
      · rw [getD_set_ne _ (by decide), getD_set_ne _ (by decide)]; exact HI.out.ch hg2 hgl (fun _ => ho2) hc
    · -- operation 13
      cases ho
      have u20 : listed.getD 20 false = false := by
        cases hx : listed.getD 20 false
        · rfl
        · exfalso
          have c20 := hx
          have c18 : listed.getD 18 false = true := by first | (refine HC.out 20 _ rfl c20 ⟨18, .chain⟩ ?_ rfl; simp; done) | (refine HC.out 20 _ rfl c20 ⟨18, .data⟩ ?_ rfl; simp; done)
          have c17 : listed.getD 17 false = true := by first | (refine HC.out 18 _ rfl c18 ⟨17, .chain⟩ ?_ rfl; simp; done) | (refine HC.out 18 _ rfl c18 ⟨17, .data⟩ ?_ rfl; simp; done)
          have c13 : listed.getD 13 false = true := by first | (refine HC.out 17 _ rfl c17 ⟨13, .chain⟩ ?_ rfl; simp; done) | (refine HC.out 17 _ rfl c17 ⟨13, .data⟩ ?_ rfl; simp; done)
          have h9 := un hun
          rw [show listed.getD 13 false = true from c13] at h9
          cases h9
      have hok := HI.out.1 u20
      have g1 : v 9 = _ := HF.out 9 (haft ⟨9, .data⟩ (by simp) rfl)
      obtain ⟨u, g2, hu1, hu2⟩ : In _ _ (v 12) := HF.out 12 (haft ⟨12, .data⟩ (by simp) rfl)
      refine Ri9.wpOp_list rfl ?_
      rw [g1, g2]
      go_wp2_with (go_at_call 16; refine (range_any g (-9) u (by decide) (by omega) (by omega) _ hok).mono ?_; rintro e wy ⟨y, rfl, hy1, hy2, ho2, hc⟩)
      refine (HJ.out _ _ _).2 ⟨fun k => if k = 13 then .int .i64 y else v k, by simp [g1, g2], ?_, ?_⟩
      · exact put_phi (f := phi g w5.heap.size x p) HF.out (phi_keep (fun k t cs hk h => hc.bk h (by omega))) (show phi g w5.heap.size x p 13 (.int .i64 y) _ from (⟨y, rfl, by omega, by omega⟩))
      · rw [getD_set_ne _ (by decide), getD_set_ne _ (by decide)]; exact HI.out.ch hg2 hgl (fun _ => ho2) hc
    · -- operation 14
      cases ho
      refine Ri9.wpOp_list rfl ?_
      go_wp2
      refine (HJ.out _ _ _).2 ⟨fun k => if k = 14 then .pointer (some ⟨g, 0, none⟩) else v k, by simp [], ?_, ?_⟩
      · exact put_phi (f := phi g w5.heap.size x p) HF.out (fun _ _ h => h) (show phi g w5.heap.size x p 14 (.pointer (some ⟨g, 0, none⟩)) _ from rfl)
      · rw [getD_set_ne _ (by decide), getD_set_ne _ (by decide)]; exact HI.out
    · -- operation 15
      cases ho
      refine Ri9.wpOp_list rfl ?_
      go_wp2
      refine (HJ.out _ _ _).2 ⟨fun k => if k = 15 then .pointer (some ⟨g, 0, none⟩) else v k, by simp [], ?_, ?_⟩
      · exact put_phi (f := phi g w5.heap.size x p) HF.out (fun _ _ h => h) (show phi g w5.heap.size x p 15 (.pointer (some ⟨g, 0, none⟩)) _ from rfl)
      · rw [getD_set_ne _ (by decide), getD_set_ne _ (by decide)]; exact HI.out
    · -- operation 16
      cases ho
      refine Ri9.wpOp_list rfl ?_
      go_wp2
      refine (HJ.out _ _ _).2 ⟨fun k => if k = 16 then .slice (some ⟨wx.heap.size, 0, none⟩) 3 3 else v k, by simp [], ?_, ?_⟩
      · exact put_phi (f := phi g w5.heap.size x p) HF.out (phi_keep (fun k t cs _ h => h.al _)) (show phi g w5.heap.size x p 16 (.slice (some ⟨wx.heap.size, 0, none⟩) 3 3) _ from (⟨wx.heap.size, rfl, Nat.le_of_lt HI.out.2.2.1, Bk.nw _ _ _⟩))
      · rw [getD_set_ne _ (by decide), getD_set_ne _ (by decide)]; exact HI.out.ch hg2 hgl (fun h => (HI.out.1 h).bel (Bel.rf.al _)) (Ch.rf.al _)
    · -- operation 17
      cases ho
      have u20 : listed.getD 20 false = false := by
        cases hx : listed.getD 20 false
        · rfl
        · exfalso
          have c20 := hx
          have c18 : listed.getD 18 false = true := by first | (refine HC.out 20 _ rfl c20 ⟨18, .chain⟩ ?_ rfl; simp; done) | (refine HC.out 20 _ rfl c20 ⟨18, .data⟩ ?_ rfl; simp; done)
          have c17 : listed.getD 17 false = true := by first | (refine HC.out 18 _ rfl c18 ⟨17, .chain⟩ ?_ rfl; simp; done) | (refine HC.out 18 _ rfl c18 ⟨17, .data⟩ ?_ rfl; simp; done)
          have h9 := un hun
          rw [show listed.getD 17 false = true from c17] at h9
          cases h9
      have hok := HI.out.1 u20
      have g1 : v 15 = _ := HF.out 15 (haft ⟨15, .data⟩ (by simp) rfl)
      obtain ⟨h, g2, hb, hbk⟩ : Sl _ _ _ (v 16) wx := HF.out 16 (haft ⟨16, .data⟩ (by simp) rfl)
      have hl : Lst wx h [1, 9, 1000000] := ⟨hbk.lt, fun i hi => by rw [hbk.cell i]; simp at hi; rcases i with _ | _ | _ | i <;> first | rfl | omega⟩
      refine Ri9.wpOp_list rfl ?_
      rw [g1, g2]
      go_wp2_with (go_at_call 17; refine (pick_any g h [1, 9, 1000000] 3 rfl (by decide) (by decide) (by omega) _ hok hl).mono ?_; rintro e wy ⟨y, rfl, hy, ho2, hc⟩)
      refine (HJ.out _ _ _).2 ⟨fun k => if k = 17 then .int .i64 y else v k, by simp [g1, g2], ?_, ?_⟩
      · exact put_phi (f := phi g w5.heap.size x p) HF.out (phi_keep (fun k t cs hk h => hc.bk h (by omega))) (show phi g w5.heap.size x p 17 (.int .i64 y) _ from (⟨y, rfl, (in_b hy).1, (in_b hy).2⟩))
      · rw [getD_set_ne _ (by decide), getD_set_ne _ (by decide)]; exact HI.out.ch hg2 hgl (fun _ => ho2) hc
    · -- operation 18
      cases ho
      have u20 : listed.getD 20 false = false := by
        cases hx : listed.getD 20 false
        · rfl
        · exfalso
          have c20 := hx
          have c18 : listed.getD 18 false = true := by first | (refine HC.out 20 _ rfl c20 ⟨18, .chain⟩ ?_ rfl; simp; done) | (refine HC.out 20 _ rfl c20 ⟨18, .data⟩ ?_ rfl; simp; done)
          have h9 := un hun
          rw [show listed.getD 18 false = true from c18] at h9
          cases h9
      have hok := HI.out.1 u20
      have g1 : v 14 = _ := HF.out 14 (haft ⟨14, .data⟩ (by simp) rfl)
      obtain ⟨u, g2, hu1, hu2⟩ : In _ _ (v 17) := HF.out 17 (haft ⟨17, .data⟩ (by simp) rfl)
      refine Ri9.wpOp_list rfl ?_
      rw [g1, g2]
      go_wp2_with (go_at_call 16; refine (range_any g 1 u (by decide) (by omega) (by omega) _ hok).mono ?_; rintro e wy ⟨y, rfl, hy1, hy2, ho2, hc⟩)
      refine (HJ.out _ _ _).2 ⟨fun k => if k = 18 then .int .i64 y else v k, by simp [g1, g2], ?_, ?_⟩
      · exact put_phi (f := phi g w5.heap.size x p) HF.out (phi_keep (fun k t cs hk h => hc.bk h (by omega))) (show phi g w5.heap.size x p 18 (.int .i64 y) _ from (⟨y, rfl, by omega, by omega⟩))
      · rw [getD_set_ne _ (by decide), getD_set_ne _ (by decide)]; exact HI.out.ch hg2 hgl (fun _ => ho2) hc
    · -- operation 19
      cases ho
      obtain ⟨s, hs2, g1⟩ : ∃ s ∈ names, v 3 = .string s := HF.out 3 (haft ⟨3, .data⟩ (by simp) rfl)
      obtain ⟨y1, g2, y1l, y1h⟩ : In _ _ (v 8) := HF.out 8 (haft ⟨8, .data⟩ (by simp) rfl)
      obtain ⟨y2, g3, y2l, y2h⟩ : In _ _ (v 13) := HF.out 13 (haft ⟨13, .data⟩ (by simp) rfl)
      obtain ⟨y3, g4, y3l, y3h⟩ : In _ _ (v 18) := HF.out 18 (haft ⟨18, .data⟩ (by simp) rfl)
      refine Ri9.wpOp_list rfl ?_
      rw [g1, g2, g3, g4]
      go_wp2
      refine (HJ.out _ _ _).2 ⟨fun k => if k = 19 then .agg #[.string s, .int .i64 y1, .int .i64 y2, .int .i64 y3] else v k, by simp [g1, g2, g3, g4], ?_, ?_⟩
      · exact put_phi (f := phi g w5.heap.size x p) HF.out (fun _ _ h => h) (show phi g w5.heap.size x p 19 (.agg #[.string s, .int .i64 y1, .int .i64 y2, .int .i64 y3]) _ from (⟨s, y1, y2, y3, rfl, low_names hs2, by omega, by omega, by omega, by omega, by omega, by omega⟩))
      · rw [getD_set_ne _ (by decide), getD_set_ne _ (by decide)]; exact HI.out
    · -- operation 20
      cases ho
      have u20 : listed.getD 20 false = false := un hun
      have g1 : v 0 = _ := HF.out 0 (haft ⟨0, .data⟩ (by simp) rfl)
      have hb := HI.out.2.2.2.2.1
      rw [u20, if_neg (by decide)] at hb
      have hb := Lib.hid hb
      have f0 : wx.frozen? ⟨w.heap.size, 0, none⟩ = false := hb.out.fr 0
      have f1 : wx.frozen? ⟨w.heap.size, 1, none⟩ = false := hb.out.fr 1
      have z0 : wx.cell? ⟨w.heap.size, 0, none⟩ = some (.int .i64 0) := hb.out.cell 0
      have z1 : wx.cell? ⟨w.heap.size, 1, none⟩ = some (.int .i64 0) := hb.out.cell 1
      refine Ri9.wpOp_list rfl ?_
      rw [g1]
      go_wp2
      refine (HJ.out _ _ _).2 ⟨fun k => if k = 20 then undef else v k, by simp [g1], ?_, ?_⟩
      · exact put_phi (f := phi g w5.heap.size x p) HF.out (phi_keep (fun k t cs hk h => (h.far (by show k ≠ w.heap.size; omega) _).far (by show k ≠ w.heap.size; omega) _)) (show phi g w5.heap.size x p 20 undef _ from trivial)
      · have e21 : (listed.setIfInBounds 20 true).getD 21 false = listed.getD 21 false := getD_set_ne _ (by decide)
        have e20 : (listed.setIfInBounds 20 true).getD 20 false = true := set_get hun
        show WI g w5.heap.size x p ((listed.setIfInBounds 20 true).getD 20 false) ((listed.setIfInBounds 20 true).getD 21 false) w _
        rw [e20, e21]
        obtain ⟨h1, h2, h3, h4, h5, cs, h6, h7⟩ := HI.out
        refine ⟨fun h => (by cases h), (h2.st (by exact Nat.le_refl _) _).st (by exact Nat.le_refl _) _, by simpa [World.setCell] using h3, (h4.far (by show w5.heap.size ≠ w.heap.size; omega) _).far (by show w5.heap.size ≠ w.heap.size; omega) _, ?_, cs, (h6.far (by show w.heap.size + 1 ≠ w.heap.size; omega) _).far (by show w.heap.size + 1 ≠ w.heap.size; omega) _, h7⟩
        rw [if_pos rfl]
        exact (hb.out.st 0 _).st 1 _
    · -- operation 21
      cases ho
      have l20 : listed.getD 20 false = true := haft ⟨20, .chain⟩ (by simp) rfl
      obtain ⟨s, m, a, d, g1, hgd⟩ : ∃ s m a d, v 19 = .agg #[.string s, .int .i64 m, .int .i64 a, .int .i64 d] ∧ GoodU s m a d := HF.out 19 (haft ⟨19, .data⟩ (by simp) rfl)
      obtain ⟨cs, hb, hz, -⟩ := HI.out.2.2.2.2.2
      rw [hz (un hun)] at hb
      have hb := Lib.hid hb
      have HGD := Lib.hid hgd
      have f0 : wx.frozen? ⟨w.heap.size + 1, 0, none⟩ = false := hb.out.fr 0
      have f1 : wx.frozen? ⟨w.heap.size + 1, 1, none⟩ = false := hb.out.fr 1
      have f2 : wx.frozen? ⟨w.heap.size + 1, 2, none⟩ = false := hb.out.fr 2
      have f3 : wx.frozen? ⟨w.heap.size + 1, 3, none⟩ = false := hb.out.fr 3
      have z0 : wx.cell? ⟨w.heap.size + 1, 0, none⟩ = some (.string ⟨#[]⟩) := hb.out.cell 0
      have z1 : wx.cell? ⟨w.heap.size + 1, 1, none⟩ = some (.int .i64 0) := hb.out.cell 1
      have z2 : wx.cell? ⟨w.heap.size + 1, 2, none⟩ = some (.int .i64 0) := hb.out.cell 2
      have z3 : wx.cell? ⟨w.heap.size + 1, 3, none⟩ = some (.int .i64 0) := hb.out.cell 3
      clear hz hgd
      refine Ri9.wpOp_list rfl ?_
      rw [g1]
      go_wp2
      refine (HJ.out _ _ _).2 ⟨fun k => if k = 21 then undef else v k, by simp [g1], ?_, ?_⟩
      · exact put_phi (f := phi g w5.heap.size x p) HF.out (phi_keep (fun k t cs hk h => ((((h.far (by show k ≠ w.heap.size + 1; omega) _).far (by show k ≠ w.heap.size + 1; omega) _).far (by show k ≠ w.heap.size + 1; omega) _).far (by show k ≠ w.heap.size + 1; omega) _))) (show phi g w5.heap.size x p 21 undef _ from trivial)
      · have e21 : (listed.setIfInBounds 21 true).getD 21 false = true := set_get hun
        have e20 : (listed.setIfInBounds 21 true).getD 20 false = listed.getD 20 false := getD_set_ne _ (by decide)
        show WI g w5.heap.size x p ((listed.setIfInBounds 21 true).getD 20 false) ((listed.setIfInBounds 21 true).getD 21 false) w _
        rw [e20, e21]
        obtain ⟨h1, h2, h3, h4, h5, cs, h6, h7⟩ := HI.out
        refine ⟨fun h => (by rw [l20] at h; cases h), (((h2.st (by show _ ≤ w.heap.size + 1; omega) _).st (by show _ ≤ w.heap.size + 1; omega) _).st (by show _ ≤ w.heap.size + 1; omega) _).st (by show _ ≤ w.heap.size + 1; omega) _, by simpa [World.setCell] using h3, ((((h4.far (by show w5.heap.size ≠ w.heap.size + 1; omega) _).far (by show w5.heap.size ≠ w.heap.size + 1; omega) _).far (by show w5.heap.size ≠ w.heap.size + 1; omega) _).far (by show w5.heap.size ≠ w.heap.size + 1; omega) _), ((((h5.far (by show w.heap.size ≠ w.heap.size + 1; omega) _).far (by show w.heap.size ≠ w.heap.size + 1; omega) _).far (by show w.heap.size ≠ w.heap.size + 1; omega) _).far (by show w.heap.size ≠ w.heap.size + 1; omega) _), _, (((hb.out.st 0 _).st 1 _).st 2 _).st 3 _, fun h => (by cases h), fun _ => ⟨s, m, a, d, rfl, HGD.out⟩⟩
    · exact absurd ho (by simp)
  · intro listed a wx hJ hall
    obtain ⟨v, rfl, hf, hi⟩ := (HJ.out _ _ _).1 hJ
    rw [hall 20 (by decide), hall 21 (by decide)] at hi
    obtain ⟨-, hbe, -, -, hA, cs, hB, -, hcs⟩ := hi
    rw [if_pos rfl] at hA
    obtain ⟨s, m, a, d, rfl, hgd⟩ := hcs rfl
    have q0 := hA.cell 0
    have q1 := hA.cell 1
    have r0 := hB.cell 0
    have r1 := hB.cell 1
    have r2 := hB.cell 2
    have r3 := hB.cell 3
    have HBE := Lib.hid hbe
    have HGD := Lib.hid hgd
    clear hJ hall hf hA hB hcs hbe hgd
    simp at q0 q1 r0 r1 r2 r3
    go_wp2
    refine bodyPost_ret (v := .tuple #[.agg #[.int .i64 x, .int .i64 (p : Int)], .agg #[.string s, .int .i64 m, .int .i64 a, .int .i64 d]]) (by simp [results, Tryd.results5, go_sem, q0, q1, r0, r1, r2, r3]; try rfl) rfl ?_
    obtain ⟨g1, g2, g3, g4, g5, g6, g7⟩ := HGD.out
    exact ⟨x, p, s, m, a, d, rfl, ⟨HXB.out.1, HXB.out.2, by omega, g1, g2, g3, g4, g5, g6, g7⟩, HBE.out⟩
end Go.Proofs.YtgclojonjglikaaDoor.Un
