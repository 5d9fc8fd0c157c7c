/- Merged: Wd16. -/
import Derived.Test.YtmgdoglnckkobaaGs1
import Derived.Test.YtmgdoglnckkobaaGs2
import Derived.Test.YtmgdoglnckkobaaGs3
import Derived.Test.YtmgdoglnckkobaaGs4
import Derived.Test.YtmgdoglnckkobaaGs5
namespace Go.Proofs.Ytmgdoglnckkobaa.Wd
open List (setIfInBounds_toArray set_cons_zero set_cons_succ)
open Go.ChangeShapes Go.WideShapes Go.RowKit Wo Sr Wi Ms
set_option linter.unusedVariables false
set_option linter.unusedSimpArgs false
/-- the symbols that so many bits of a full word leave -/
def Us (k : Nat) (F S B : List Int) : Prop := ∀ p, p < k → S.getD p 0 = F.getD p 0 / 2 ^ (4 - (B.getD p 0).toNat)
theorem us_snoc {k : Nat} {F S B : List Int} {s y : Int} (h : Us k F S B) (hl : S.length = k) (hb : B.length = k) (hs : s = F.getD k 0 / 2 ^ (4 - y.toNat)) : Us (k + 1) F (S ++ [s]) (B ++ [y]) := fun p hp => by
  rw [List.getD_eq_getElem?_getD (l := S ++ [s]), List.getD_eq_getElem?_getD (l := B ++ [y])]
  rcases Nat.lt_or_ge p k with q | q
  · rw [List.getElem?_append_left (by rw [hl]; exact q), List.getElem?_append_left (by rw [hb]; exact q), ← List.getD_eq_getElem?_getD, ← List.getD_eq_getElem?_getD]
    exact h p q
  · obtain rfl : p = k := by omega
    rw [List.getElem?_append_right (by rw [hl]; exact Nat.le_refl _), List.getElem?_append_right (by rw [hb]; exact Nat.le_refl _), hl, hb, Nat.sub_self]
    exact hs
/-- a word that holds a full one -/
def SomeUp (g n : Nat) (F : List Int) (w : World) (e : Ending) (w' : World) : Prop := ∃ sA bA sc bc S B, e = .returned (Wx n sA bA sc bc) ∧ Wv n S B ∧ Us n F S B ∧ Zi w' sA n S ∧ Zi w' bA n B ∧ Ok w' g ∧ Ch g w w' ∧ Fz w sA n ∧ Fz w bA n
def opU : Oper := ⟨none, .store 22 (.tmp 33) (.tmp 27), 0, "make.go:196", #[⟨17, .data⟩, ⟨11, .data⟩, ⟨16, .chain⟩, ⟨0, .phase⟩, ⟨1, .phase⟩, ⟨2, .phase⟩, ⟨3, .phase⟩, ⟨4, .phase⟩, ⟨5, .phase⟩, ⟨6, .phase⟩, ⟨7, .phase⟩, ⟨8, .phase⟩, ⟨9, .phase⟩, ⟨10, .phase⟩, ⟨11, .phase⟩, ⟨12, .phase⟩, ⟨13, .phase⟩, ⟨14, .textOnly Departure.lateStores⟩, ⟨15, .textOnly Departure.lateStores⟩, ⟨16, .textOnly Departure.lateStoresUnsure⟩], none⟩
set_option maxHeartbeats 8000000 in
set_option maxRecDepth 100000 in
theorem upper_any (g : Nat) (n : Nat) (n1 : 1 ≤ n) (n8 : n ≤ 8) (sF bF : Option Addr) (fc fd : Nat) (F : List Int) (hF : ∀ p, p < n → 0 ≤ F.getD p 0 ∧ F.getD p 0 < 16) (w : World) (h : Ok w g) (hz : Zi w sF n F) (hne : ∀ ad, sF = some ad → ad.block ≠ g) :
    Calls Try.prog 38 #[.pointer (some ⟨g, 0, none⟩), Wx n sF bF fc fd] w (SomeUp g n F w) := by
  obtain ⟨ad, e, had, _⟩ := hz.2 n1
  subst e
  have HFZ : Hid (Zi w (some ad) n F ∧ ∀ ad', some ad = some ad' → ad'.block ≠ g) := ⟨hz, hne⟩
  have HFF := Lib.hid hF
  clear hz hne had hF
  have HGB := Lib.hid h.lt
  have HZQ : Hid (Ok (((w.alloc (.cells #[.slice (some ad) n fc, .slice bF n fd] 59)).alloc (.cells #[.slice none 0 0, .slice none 0 0] 59)).alloc (.cells #[.slice none 0 0, .slice none 0 0] 59)) g ∧ Bk (((w.alloc (.cells #[.slice (some ad) n fc, .slice bF n fd] 59)).alloc (.cells #[.slice none 0 0, .slice none 0 0] 59)).alloc (.cells #[.slice none 0 0, .slice none 0 0] 59)) w.heap.size 59 #[.slice (some ad) n fc, .slice bF n fd] ∧ Bk (((w.alloc (.cells #[.slice (some ad) n fc, .slice bF n fd] 59)).alloc (.cells #[.slice none 0 0, .slice none 0 0] 59)).alloc (.cells #[.slice none 0 0, .slice none 0 0] 59)) (w.heap.size + 1) 59 #[.slice none 0 0, .slice none 0 0] ∧ Bk (((w.alloc (.cells #[.slice (some ad) n fc, .slice bF n fd] 59)).alloc (.cells #[.slice none 0 0, .slice none 0 0] 59)).alloc (.cells #[.slice none 0 0, .slice none 0 0] 59)) (w.heap.size + 1 + 1) 59 #[.slice none 0 0, .slice none 0 0] ∧ Bel w (((w.alloc (.cells #[.slice (some ad) n fc, .slice bF n fd] 59)).alloc (.cells #[.slice none 0 0, .slice none 0 0] 59)).alloc (.cells #[.slice none 0 0, .slice none 0 0] 59))) := ⟨h.bel (by repeat (first | exact Bel.rf | with_reducible refine Bel.drwN ?_ _ | with_reducible refine Bel.drw ?_ | with_reducible refine Bel.al ?_ _)), ((Bk.nw _ _ _).al _).al _, (Bk.nq _ _ _ (by simp)).al _, Bk.nq _ _ _ (by simp), (by repeat (first | exact Bel.rf | with_reducible refine Bel.drwN ?_ _ | with_reducible refine Bel.drw ?_ | with_reducible refine Bel.al ?_ _))⟩
  have ni : (n : Int) ≤ 8 := by omega
  clear h
  unfold Wx
  go_enter Try.func38, Try.ntmps38
  go_wp2_with fail
  go_loopw [11, 6, 7] (fun s11 s6 s7 wr => ∃ (i : Nat) (u v : Value) (S B : List Int) (V : World), V = wr ∧ s11 = .int .i64 (i : Int) ∧ i ≤ n ∧ Gd i S B ∧ Us i F S B ∧ Wq g (w.heap.size + 1 + 1 + 1) w wr u v i i S B ∧ Bk wr w.heap.size 59 #[.slice (some ad) n fc, .slice bF n fd] ∧ Bk wr (w.heap.size + 1) 59 #[.slice none 0 0, .slice none 0 0] ∧ Bk wr (w.heap.size + 1 + 1) 59 #[u, v]) (fun s11 _ _ _ => n - (intOf s11).toNat)
  case atStart => exact ⟨0, _, _, [], [], _, rfl, by go_num, by omega, ⟨rfl, rfl, fun p hp => by omega⟩, (fun p hp => by omega), ⟨World.ownsRow_nil _ _ _ _, World.ownsRow_nil _ _ _ _, fun b e => (by cases e), HZQ.out.1.bel (by repeat (first | exact Bel.rf | with_reducible refine Bel.drwN ?_ _ | with_reducible refine Bel.drw ?_ | with_reducible refine Bel.al ?_ _)), Ch.of_bel (by repeat (first | exact Bel.rf | with_reducible refine Bel.drwN ?_ _ | with_reducible refine Bel.drw ?_ | with_reducible refine Bel.al ?_ _)), (by first | exact Nat.le_refl _ | (simp; done) | (simp; omega)), (by have := HGB.out; omega), (by omega)⟩, HZQ.out.2.1.bel (by repeat (first | exact Bel.rf | with_reducible refine Bel.drwN ?_ _ | with_reducible refine Bel.drw ?_ | with_reducible refine Bel.al ?_ _)), HZQ.out.2.2.1.bel (by repeat (first | exact Bel.rf | with_reducible refine Bel.drwN ?_ _ | with_reducible refine Bel.drw ?_ | with_reducible refine Bel.al ?_ _)), HZQ.out.2.2.2.1.bel (by repeat (first | exact Bel.rf | with_reducible refine Bel.drwN ?_ _ | with_reducible refine Bel.drw ?_ | with_reducible refine Bel.al ?_ _))⟩
  case round =>
    obtain ⟨i, u, v, S, B, wr, hwr, rfl, hi, hgd, hus, hq, hk1, hk2, hk3⟩ := hrel
    subst hwr
    have HQ := Lib.hid hq
    have HGD := Lib.hid hgd
    have HUS := Lib.hid hus
    have HK := Lib.hid (And.intro hk1 (And.intro hk2 hk3))
    have q4 := hk1.cell 0
    simp only [List.getElem?_toArray, List.getElem?_cons_zero, List.getElem?_cons_succ] at q4
    clear hq hgd hus hk1 hk2 hk3
    rcases Nat.lt_or_ge i n with hlt | hge
    · have ii : (i : Int) < (n : Int) := by omega
      have i0 : (0 : Int) ≤ (i : Int) := by omega
      go_wp2_with fail
      go_at_call 10
      refine (n_any g 5 (by decide) (by decide) _ (HQ.out.ok.bel (by repeat (first | exact Bel.rf | with_reducible refine Bel.drwN ?_ _ | with_reducible refine Bel.drw ?_ | with_reducible refine Bel.al ?_ _)))).mono ?_
      rintro e w6 ⟨y, rfl, y0, y5, ho, hc⟩
      have hcc : Ch g wr w6 := (Ch.of_bel (by repeat (first | exact Bel.rf | with_reducible refine Bel.drwN ?_ _ | with_reducible refine Bel.drw ?_ | with_reducible refine Bel.al ?_ _))).tr hc
      have HQ6 : Hid (Wq g (w.heap.size + 1 + 1 + 1) w w6 u v i i S B ∧ Bk w6 w.heap.size 59 #[.slice (some ad) n fc, .slice bF n fd] ∧ Bk w6 (w.heap.size + 1) 59 #[.slice none 0 0, .slice none 0 0] ∧ Bk w6 (w.heap.size + 1 + 1) 59 #[u, v]) := ⟨HQ.out.to ho hcc, hcc.bk HK.out.1 (by have := HGB.out; omega), hcc.bk HK.out.2.1 (by have := HGB.out; omega), hcc.bk HK.out.2.2 (by have := HGB.out; omega)⟩
      have HFC : Hid (∀ V, Ch g w V → V.cell? (ad.add i) = some (.int .i64 (F.getD i 0))) := fun V hV => by
        obtain ⟨ad', e, _, hc⟩ := (HFZ.out.1.ch hV HFZ.out.2).2 (by omega)
        cases e
        exact hc i hlt
      obtain ⟨x, hx⟩ : ∃ x, F.getD i 0 = x := ⟨_, rfl⟩
      obtain ⟨x0, x1⟩ := HFF.out i hlt
      have HX := Lib.hid hx
      rw [hx] at HFC x0 x1
      clear hx
      have HI1 : Hid (i + 1 ≤ 1000000) := (by omega : _ ≤ _)
      have HB6 : Hid (∀ r, u.ownBlock = some r → r < w6.heap.size) := fun r e => (HQ6.out.1.ou.lt r e).2
      have KS : Hid (∀ W, Ch g w W → Bk W w.heap.size 59 #[.slice (some ad) n fc, .slice bF n fd] → Bk W (w.heap.size + 1 + 1) 59 #[u, v] → W.cell? (⟨w.heap.size + 1 + 1, 0, none⟩ : Addr) = some u ∧ W.cell? (⟨w.heap.size + 1 + 1, 1, none⟩ : Addr) = some v ∧ W.cell? (⟨w.heap.size, 0, none⟩ : Addr) = some (.slice (some ad) n fc) ∧ W.cell? (ad.add i) = some (.int .i64 x)) := fun W hc h2 h => by
        have u0 := h.cell 0
        have u1 := h.cell 1
        have u2 := h2.cell 0
        simp only [List.getElem?_toArray, List.getElem?_cons_zero, List.getElem?_cons_succ] at u0 u1 u2
        exact ⟨u0, u1, u2, HFC.out W hc⟩
      clear q4 ho hc hcc
      have hb5 : y = 0 ∨ y = 1 ∨ y = 2 ∨ y = 3 ∨ y = 4 := by omega
      have HY := Lib.hid hb5
      clear hb5 y0 y5
      rcases HY.out with rfl | rfl | rfl | rfl | rfl
      · have wv1 : IntKind.i64.wrap 1 = 1 := by decide
        have wv2 : IntKind.i64.wrap (2 ^ 0) = 1 := by decide
        obtain ⟨s, hs⟩ : ∃ s, x / 16 = s := ⟨_, rfl⟩
        have wv3 : IntKind.i64.wrap 4 = 4 := by decide
        have hs9 : s = F.getD i 0 / 2 ^ (4 - (0 : Int).toNat) := by rw [HX.out]; exact hs.symm
        have HS5 : Hid (0 ≤ s ∧ s < 2 ^ (0 : Int).toNat ∧ s = F.getD i 0 / 2 ^ (4 - (0 : Int).toNat)) := ⟨by rw [← hs]; exact Int.ediv_nonneg x0 (by decide), (by show s < 1; (try simp at hs); omega), hs9⟩
        clear HY hs9
        go_wp2_with fail
        refine wp_region_noPanic ?_
        refine Rb.wp_region_till (S := fun W => W.cell? (⟨w.heap.size + 1 + 1, 0, none⟩ : Addr) = some u ∧ W.cell? (⟨w.heap.size + 1 + 1, 1, none⟩ : Addr) = some v ∧ W.cell? (⟨w.heap.size, 0, none⟩ : Addr) = some (.slice (some ad) n fc) ∧ W.cell? (ad.add i) = some (.int .i64 x)) 18 (by kernel_rfl) ?_ (fun hH0 => ?_)
        · (try dsimp only); exact KS.out _ (HQ6.out.1.ch.tr (Ch.of_bel (by repeat (first | exact Bel.rf | with_reducible refine Bel.drwN ?_ _ | with_reducible refine Bel.drw ?_ | with_reducible refine Bel.al ?_ _)))) (HQ6.out.2.1.bel (by repeat (first | exact Bel.rf | with_reducible refine Bel.drwN ?_ _ | with_reducible refine Bel.drw ?_ | with_reducible refine Bel.al ?_ _))) (HQ6.out.2.2.2.bel (by repeat (first | exact Bel.rf | with_reducible refine Bel.drwN ?_ _ | with_reducible refine Bel.drw ?_ | with_reducible refine Bel.al ?_ _)))
        refine Rb.till_take (i := 0) (oi := ⟨some 16, .fieldAddr 59 (.tmp 5) 0, 0, "make.go:196", #[], none⟩) (v := ?_) rfl (by kernel_rfl) (by kernel_rfl) (by kernel_rfl) (fun _ _ _ h => h) (by decide) opU rfl (by kernel_rfl) (by kernel_rfl) (Or.inl ⟨by kernel_rfl, ?_⟩) (by assumption) ?_
        rotate_left
        · (intro w hSw; (try dsimp only at hSw); obtain ⟨d1, d2, d3, d4⟩ := hSw; go_simp; try with_reducible rfl)
        try simp only [Act.put, setIfInBounds_toArray, set_cons_zero, set_cons_succ]
        refine Rb.till_take (i := 1) (oi := ⟨some 17, .load 22 (.tmp 16), 22, "make.go:196", #[⟨0, .data⟩], none⟩) (v := ?_) rfl (by kernel_rfl) (by kernel_rfl) (by kernel_rfl) (fun _ _ _ h => h) (by decide) opU rfl (by kernel_rfl) (by kernel_rfl) (Or.inl ⟨by kernel_rfl, ?_⟩) (by assumption) ?_
        rotate_left
        · (intro w hSw; (try dsimp only at hSw); obtain ⟨d1, d2, d3, d4⟩ := hSw; go_simp; try with_reducible rfl)
        try simp only [Act.put, setIfInBounds_toArray, set_cons_zero, set_cons_succ]
        refine Rb.till_take (i := 2) (oi := ⟨some 18, .fieldAddr 59 (.tmp 3) 0, 0, "make.go:196", #[], none⟩) (v := ?_) rfl (by kernel_rfl) (by kernel_rfl) (by kernel_rfl) (fun _ _ _ h => h) (by decide) opU rfl (by kernel_rfl) (by kernel_rfl) (Or.inl ⟨by kernel_rfl, ?_⟩) (by assumption) ?_
        rotate_left
        · (intro w hSw; (try dsimp only at hSw); obtain ⟨d1, d2, d3, d4⟩ := hSw; go_simp; try with_reducible rfl)
        try simp only [Act.put, setIfInBounds_toArray, set_cons_zero, set_cons_succ]
        refine Rb.till_take (i := 3) (oi := ⟨some 19, .load 22 (.tmp 18), 22, "make.go:196", #[⟨2, .data⟩], none⟩) (v := ?_) rfl (by kernel_rfl) (by kernel_rfl) (by kernel_rfl) (fun _ _ _ h => h) (by decide) opU rfl (by kernel_rfl) (by kernel_rfl) (Or.inl ⟨by kernel_rfl, ?_⟩) (by assumption) ?_
        rotate_left
        · (intro w hSw; (try dsimp only at hSw); obtain ⟨d1, d2, d3, d4⟩ := hSw; go_simp; try with_reducible rfl)
        try simp only [Act.put, setIfInBounds_toArray, set_cons_zero, set_cons_succ]
        refine Rb.till_take (i := 4) (oi := ⟨some 20, .move (.tmp 6), 3, "make.go:196", #[], none⟩) (v := ?_) rfl (by kernel_rfl) (by kernel_rfl) (by kernel_rfl) (fun _ _ _ h => h) (by decide) opU rfl (by kernel_rfl) (by kernel_rfl) (Or.inl ⟨by kernel_rfl, ?_⟩) (by assumption) ?_
        rotate_left
        · (intro w hSw; (try dsimp only at hSw); obtain ⟨d1, d2, d3, d4⟩ := hSw; go_simp; try with_reducible rfl)
        try simp only [Act.put, setIfInBounds_toArray, set_cons_zero, set_cons_succ]
        refine Rb.till_take (i := 5) (oi := ⟨some 21, .indexAddr 22 (.tmp 19) (.tmp 20), 0, "make.go:196", #[⟨3, .data⟩, ⟨4, .data⟩], none⟩) (v := ?_) rfl (by kernel_rfl) (by kernel_rfl) (by kernel_rfl) (fun _ _ _ h => h) (by decide) opU rfl (by kernel_rfl) (by kernel_rfl) (Or.inl ⟨by kernel_rfl, ?_⟩) (by assumption) ?_
        rotate_left
        · (intro w hSw; (try dsimp only at hSw); obtain ⟨d1, d2, d3, d4⟩ := hSw; go_simp; try with_reducible rfl)
        try simp only [Act.put, setIfInBounds_toArray, set_cons_zero, set_cons_succ]
        refine Rb.till_take (i := 6) (oi := ⟨some 22, .load 3 (.tmp 21), 3, "make.go:196", #[⟨5, .data⟩], none⟩) (v := ?_) rfl (by kernel_rfl) (by kernel_rfl) (by kernel_rfl) (fun _ _ _ h => h) (by decide) opU rfl (by kernel_rfl) (by kernel_rfl) (Or.inl ⟨by kernel_rfl, ?_⟩) (by assumption) ?_
        rotate_left
        · (intro w hSw; (try dsimp only at hSw); obtain ⟨d1, d2, d3, d4⟩ := hSw; go_simp; try with_reducible rfl)
        try simp only [Act.put, setIfInBounds_toArray, set_cons_zero, set_cons_succ]
        refine Rb.till_take (i := 7) (oi := ⟨some 23, .move (.tmp 7), 3, "make.go:196", #[], none⟩) (v := ?_) rfl (by kernel_rfl) (by kernel_rfl) (by kernel_rfl) (fun _ _ _ h => h) (by decide) opU rfl (by kernel_rfl) (by kernel_rfl) (Or.inl ⟨by kernel_rfl, ?_⟩) (by assumption) ?_
        rotate_left
        · (intro w hSw; (try dsimp only at hSw); obtain ⟨d1, d2, d3, d4⟩ := hSw; go_simp; try with_reducible rfl)
        try simp only [Act.put, setIfInBounds_toArray, set_cons_zero, set_cons_succ]
        refine Rb.till_take (i := 8) (oi := ⟨some 24, .binOp BinOp.sub 3 (.const (.int IntKind.i64 4)) (.tmp 23) 3, 3, "make.go:196", #[⟨7, .data⟩], none⟩) (v := ?_) rfl (by kernel_rfl) (by kernel_rfl) (by kernel_rfl) (fun _ _ _ h => h) (by decide) opU rfl (by kernel_rfl) (by kernel_rfl) (Or.inl ⟨by kernel_rfl, ?_⟩) (by assumption) ?_
        rotate_left
        · (intro w hSw; (try dsimp only at hSw); obtain ⟨d1, d2, d3, d4⟩ := hSw; go_simp; try with_reducible rfl)
        try simp only [Act.put, setIfInBounds_toArray, set_cons_zero, set_cons_succ]
        refine Rb.till_take (i := 9) (oi := ⟨some 25, .binOp BinOp.shr 3 (.tmp 22) (.tmp 24) 3, 3, "make.go:196", #[⟨6, .data⟩, ⟨8, .data⟩], none⟩) (v := ?_) rfl (by kernel_rfl) (by kernel_rfl) (by kernel_rfl) (fun _ _ _ h => h) (by decide) opU rfl (by kernel_rfl) (by kernel_rfl) (Or.inl ⟨by kernel_rfl, ?_⟩) (by assumption) ?_
        rotate_left
        · (intro w hSw; (try dsimp only at hSw); obtain ⟨d1, d2, d3, d4⟩ := hSw; go_simp; try with_reducible rfl)
        try simp only [Act.put, setIfInBounds_toArray, set_cons_zero, set_cons_succ]
        refine Rb.till_take (i := 12) (oi := ⟨some 28, .fieldAddr 59 (.tmp 5) 1, 0, "make.go:196", #[], none⟩) (v := ?_) rfl (by kernel_rfl) (by kernel_rfl) (by kernel_rfl) (fun _ _ _ h => h) (by decide) opU rfl (by kernel_rfl) (by kernel_rfl) (Or.inl ⟨by kernel_rfl, ?_⟩) (by assumption) ?_
        rotate_left
        · (intro w hSw; (try dsimp only at hSw); obtain ⟨d1, d2, d3, d4⟩ := hSw; go_simp; try with_reducible rfl)
        try simp only [Act.put, setIfInBounds_toArray, set_cons_zero, set_cons_succ]
        refine Rb.till_take (i := 13) (oi := ⟨some 29, .load 22 (.tmp 28), 22, "make.go:196", #[⟨12, .data⟩], none⟩) (v := ?_) rfl (by kernel_rfl) (by kernel_rfl) (by kernel_rfl) (fun _ _ _ h => h) (by decide) opU rfl (by kernel_rfl) (by kernel_rfl) (Or.inl ⟨by kernel_rfl, ?_⟩) (by assumption) ?_
        rotate_left
        · (intro w hSw; (try dsimp only at hSw); obtain ⟨d1, d2, d3, d4⟩ := hSw; go_simp; try with_reducible rfl)
        try simp only [Act.put, setIfInBounds_toArray, set_cons_zero, set_cons_succ]
        refine Rb.till_free (i := 14) (oi := ⟨some 30, .move (.tmp 7), 3, "make.go:196", #[], none⟩) (v := ?_) rfl (by kernel_rfl) (by kernel_rfl) (by kernel_rfl) (fun _ _ _ h => h) (by decide) (Or.inl ⟨by kernel_rfl, ?_⟩) (fun _ => by assumption) ?_
        rotate_left
        · (intro w hSw; clear hSw; go_simp; try with_reducible rfl)
        try simp only [Act.put, setIfInBounds_toArray, set_cons_zero, set_cons_succ]
        refine Rb.till_ready (rs := [10, 15]) (by kernel_rfl) (by simp) ?_
        refine Rb.AllT.cons (o := ⟨some 26, .buildSlice 22 1 #[(0, .tmp 25)], 22, "make.go:196", #[⟨9, .data⟩], none⟩) rfl (fun K hK => ?_) (Rb.AllT.cons (o := ⟨some 31, .buildSlice 22 1 #[(0, .tmp 30)], 22, "make.go:196", #[⟨14, .data⟩], none⟩) rfl (fun K hK => ?_) (Rb.AllT.nil))
        · go_simp
          try go_wp2_with fail
          refine hK.out _ _ ?_ (fun hH1 => ?_)
          · (try dsimp only); exact KS.out _ (HQ6.out.1.ch.tr (Ch.of_bel (by repeat (first | exact Bel.rf | with_reducible refine Bel.drwN ?_ _ | with_reducible refine Bel.drw ?_ | with_reducible refine Bel.al ?_ _)))) (HQ6.out.2.1.bel (by repeat (first | exact Bel.rf | with_reducible refine Bel.drwN ?_ _ | with_reducible refine Bel.drw ?_ | with_reducible refine Bel.al ?_ _))) (HQ6.out.2.2.2.bel (by repeat (first | exact Bel.rf | with_reducible refine Bel.drwN ?_ _ | with_reducible refine Bel.drw ?_ | with_reducible refine Bel.al ?_ _)))
          clear hK K hH0
          try simp only [Act.put, setIfInBounds_toArray, set_cons_zero, set_cons_succ]
          refine Rb.till_ready (rs := [11, 15]) (by kernel_rfl) (by simp) ?_
          refine Rb.AllT.cons (o := ⟨some 27, .call { callee := Callee.builtin Builtin.append, args := #[.tmp 17, .tmp 26], argTypes := #[22, 22] }, 22, "make.go:196", #[⟨1, .data⟩, ⟨10, .data⟩], none⟩) rfl (fun K hK => ?_) (Rb.AllT.cons (o := ⟨some 31, .buildSlice 22 1 #[(0, .tmp 30)], 22, "make.go:196", #[⟨14, .data⟩], none⟩) rfl (fun K hK => ?_) (Rb.AllT.nil))
          · refine step_app _ rfl (.tmp 17) (.tmp 26) rfl (w.heap.size + 1 + 1 + 1) u i S rfl (own_bel HQ6.out.1.ou (by repeat (first | exact Bel.rf | with_reducible refine Bel.drwN ?_ _ | with_reducible refine Bel.drw ?_ | with_reducible refine Bel.al ?_ _))) ⟨w6.heap.size, 0, none⟩ 1 1 [s] rfl (zi_bk (L := [s]) ((by repeat (first | (refine Bk.nq _ _ _ ?_; simp; done) | with_reducible refine Bk.drwN ?_ _ | with_reducible refine Bk.drw ?_ | with_reducible refine Bk.al ?_ _)) : Bk _ w6.heap.size 3 (zs [s]).toArray) 1 rfl) HI1.out (by have := HQ6.out.1.sz; simp; omega) ?_; intro v7 x7 h7 hg7 ha7; obtain ⟨A7, c7, hv7, _⟩ := own_any h7; subst hv7; have HQ7 : Hid (Wq g (w.heap.size + 1 + 1 + 1) w x7 (.slice A7 (i + 1) c7) v (i + 1) i (S ++ [s]) B ∧ Bk x7 w.heap.size 59 #[.slice (some ad) n fc, .slice bF n fd] ∧ Bk x7 (w.heap.size + 1) 59 #[.slice none 0 0, .slice none 0 0] ∧ Bk x7 (w.heap.size + 1 + 1) 59 #[u, v]) := ⟨(HQ6.out.1.up (by repeat (first | exact Bel.rf | with_reducible refine Bel.drwN ?_ _ | with_reducible refine Bel.drw ?_ | with_reducible refine Bel.al ?_ _))).ax h7 hg7 ha7, bk_grw (HQ6.out.2.1.bel (by repeat (first | exact Bel.rf | with_reducible refine Bel.drwN ?_ _ | with_reducible refine Bel.drw ?_ | with_reducible refine Bel.al ?_ _))) hg7 (fun e => by have := (HQ6.out.1.ou.lt _ e).1; omega), bk_grw (HQ6.out.2.2.1.bel (by repeat (first | exact Bel.rf | with_reducible refine Bel.drwN ?_ _ | with_reducible refine Bel.drw ?_ | with_reducible refine Bel.al ?_ _))) hg7 (fun e => by have := (HQ6.out.1.ou.lt _ e).1; omega), bk_grw (HQ6.out.2.2.2.bel (by repeat (first | exact Bel.rf | with_reducible refine Bel.drwN ?_ _ | with_reducible refine Bel.drw ?_ | with_reducible refine Bel.al ?_ _))) hg7 (fun e => by have := (HQ6.out.1.ou.lt _ e).1; omega)⟩; clear h7 hg7 ha7
            try go_wp2_with fail
            refine hK.out _ _ ?_ (fun hH2 => ?_)
            · (try dsimp only); exact KS.out _ (HQ7.out.1.ch.tr (Ch.of_bel (by repeat (first | exact Bel.rf | with_reducible refine Bel.drwN ?_ _ | with_reducible refine Bel.drw ?_ | with_reducible refine Bel.al ?_ _)))) (HQ7.out.2.1.bel (by repeat (first | exact Bel.rf | with_reducible refine Bel.drwN ?_ _ | with_reducible refine Bel.drw ?_ | with_reducible refine Bel.al ?_ _))) (HQ7.out.2.2.2.bel (by repeat (first | exact Bel.rf | with_reducible refine Bel.drwN ?_ _ | with_reducible refine Bel.drw ?_ | with_reducible refine Bel.al ?_ _)))
            clear hK K hH1
            try simp only [Act.put, setIfInBounds_toArray, set_cons_zero, set_cons_succ]
            refine Rb.till_take (i := 17) (oi := ⟨some 33, .fieldAddr 59 (.tmp 5) 0, 0, "make.go:196", #[⟨0, .phase⟩, ⟨1, .phase⟩, ⟨2, .phase⟩, ⟨3, .phase⟩, ⟨4, .phase⟩, ⟨5, .phase⟩, ⟨6, .phase⟩, ⟨7, .phase⟩, ⟨8, .phase⟩, ⟨9, .phase⟩, ⟨10, .phase⟩, ⟨11, .phase⟩, ⟨12, .phase⟩, ⟨13, .phase⟩, ⟨14, .textOnly Departure.lateStores⟩, ⟨15, .textOnly Departure.lateStores⟩, ⟨16, .textOnly Departure.lateStoresUnsure⟩], none⟩) (v := ?_) rfl (by kernel_rfl) (by kernel_rfl) (by kernel_rfl) (fun _ _ _ h => h) (by decide) opU rfl (by kernel_rfl) (by kernel_rfl) (Or.inl ⟨by kernel_rfl, ?_⟩) (by assumption) ?_
            rotate_left
            · (intro w hSw; (try dsimp only at hSw); obtain ⟨d1, d2, d3, d4⟩ := hSw; go_simp; try with_reducible rfl)
            try simp only [Act.put, setIfInBounds_toArray, set_cons_zero, set_cons_succ]
            refine Rb.till_ready (rs := [15]) (by kernel_rfl) (by simp) ?_
            refine Rb.AllT.cons (o := ⟨some 31, .buildSlice 22 1 #[(0, .tmp 30)], 22, "make.go:196", #[⟨14, .data⟩], none⟩) rfl (fun K hK => ?_) (Rb.AllT.nil)
            · go_simp
              try go_wp2_with fail
              refine hK.out _ _ ?_ (fun hH3 => ?_)
              · (try dsimp only); exact KS.out _ (HQ7.out.1.ch.tr (Ch.of_bel (by repeat (first | exact Bel.rf | with_reducible refine Bel.drwN ?_ _ | with_reducible refine Bel.drw ?_ | with_reducible refine Bel.al ?_ _)))) (HQ7.out.2.1.bel (by repeat (first | exact Bel.rf | with_reducible refine Bel.drwN ?_ _ | with_reducible refine Bel.drw ?_ | with_reducible refine Bel.al ?_ _))) (HQ7.out.2.2.2.bel (by repeat (first | exact Bel.rf | with_reducible refine Bel.drwN ?_ _ | with_reducible refine Bel.drw ?_ | with_reducible refine Bel.al ?_ _)))
              clear hK K hH2
              try simp only [Act.put, setIfInBounds_toArray, set_cons_zero, set_cons_succ]
              refine Rb.till_ready (rs := [16]) (by kernel_rfl) (by simp) ?_
              refine Rb.AllT.cons (o := ⟨some 32, .call { callee := Callee.builtin Builtin.append, args := #[.tmp 29, .tmp 31], argTypes := #[22, 22] }, 22, "make.go:196", #[⟨13, .data⟩, ⟨15, .data⟩, ⟨11, .chain⟩], none⟩) rfl (fun K hK => ?_) (Rb.AllT.nil)
              · refine step_app _ rfl (.tmp 29) (.tmp 31) rfl (w.heap.size + 1 + 1 + 1) v i B rfl (own_bel HQ7.out.1.ov (by repeat (first | exact Bel.rf | with_reducible refine Bel.drwN ?_ _ | with_reducible refine Bel.drw ?_ | with_reducible refine Bel.al ?_ _))) ⟨x7.heap.size, 0, none⟩ 1 1 [0] rfl (zi_bk (L := [0]) ((by repeat (first | (refine Bk.nq _ _ _ ?_; simp; done) | with_reducible refine Bk.drwN ?_ _ | with_reducible refine Bk.drw ?_ | with_reducible refine Bk.al ?_ _)) : Bk _ x7.heap.size 3 (zs [0]).toArray) 1 rfl) HI1.out (by have := HQ7.out.1.sz; simp; omega) ?_; intro v12 x12 h12 hg12 ha12; obtain ⟨A12, c12, hv12, _⟩ := own_any h12; subst hv12; have HQ12 : Hid (Wq g (w.heap.size + 1 + 1 + 1) w x12 (.slice A7 (i + 1) c7) (.slice A12 (i + 1) c12) (i + 1) (i + 1) (S ++ [s]) (B ++ [0]) ∧ Bk x12 w.heap.size 59 #[.slice (some ad) n fc, .slice bF n fd] ∧ Bk x12 (w.heap.size + 1) 59 #[.slice none 0 0, .slice none 0 0] ∧ Bk x12 (w.heap.size + 1 + 1) 59 #[u, v]) := ⟨((HQ7.out.1.up (by repeat (first | exact Bel.rf | with_reducible refine Bel.drwN ?_ _ | with_reducible refine Bel.drw ?_ | with_reducible refine Bel.al ?_ _))).sx.ax h12 hg12 ha12).sx, bk_grw (HQ7.out.2.1.bel (by repeat (first | exact Bel.rf | with_reducible refine Bel.drwN ?_ _ | with_reducible refine Bel.drw ?_ | with_reducible refine Bel.al ?_ _))) hg12 (fun e => by have := (HQ7.out.1.ov.lt _ e).1; omega), bk_grw (HQ7.out.2.2.1.bel (by repeat (first | exact Bel.rf | with_reducible refine Bel.drwN ?_ _ | with_reducible refine Bel.drw ?_ | with_reducible refine Bel.al ?_ _))) hg12 (fun e => by have := (HQ7.out.1.ov.lt _ e).1; omega), bk_grw (HQ7.out.2.2.2.bel (by repeat (first | exact Bel.rf | with_reducible refine Bel.drwN ?_ _ | with_reducible refine Bel.drw ?_ | with_reducible refine Bel.al ?_ _))) hg12 (fun e => by have := (HQ7.out.1.ov.lt _ e).1; omega)⟩; have y0 := HQ12.out.2.2.2.cell 0; have y1 := HQ12.out.2.2.2.cell 1; have z0 := HQ12.out.2.2.2.fr 0; have z1 := HQ12.out.2.2.2.fr 1; simp only [List.getElem?_toArray, List.getElem?_cons_zero, List.getElem?_cons_succ] at y0 y1; clear h12 hg12 ha12
                try go_wp2_with fail
                refine hK.out _ _ ?_ (fun hH4 => ?_)
                · (try dsimp only); exact KS.out _ (HQ12.out.1.ch.tr (Ch.of_bel (by repeat (first | exact Bel.rf | with_reducible refine Bel.drwN ?_ _ | with_reducible refine Bel.drw ?_ | with_reducible refine Bel.al ?_ _)))) (HQ12.out.2.1.bel (by repeat (first | exact Bel.rf | with_reducible refine Bel.drwN ?_ _ | with_reducible refine Bel.drw ?_ | with_reducible refine Bel.al ?_ _))) (HQ12.out.2.2.2.bel (by repeat (first | exact Bel.rf | with_reducible refine Bel.drwN ?_ _ | with_reducible refine Bel.drw ?_ | with_reducible refine Bel.al ?_ _)))
                clear hK K hH3
                try simp only [Act.put, setIfInBounds_toArray, set_cons_zero, set_cons_succ]
                refine Rb.till_ready (rs := [18]) (by kernel_rfl) (by simp) ?_
                refine Rb.AllT.past (o := ⟨none, .store 22 (.tmp 33) (.tmp 27), 0, "make.go:196", #[⟨17, .data⟩, ⟨11, .data⟩, ⟨16, .chain⟩, ⟨0, .phase⟩, ⟨1, .phase⟩, ⟨2, .phase⟩, ⟨3, .phase⟩, ⟨4, .phase⟩, ⟨5, .phase⟩, ⟨6, .phase⟩, ⟨7, .phase⟩, ⟨8, .phase⟩, ⟨9, .phase⟩, ⟨10, .phase⟩, ⟨11, .phase⟩, ⟨12, .phase⟩, ⟨13, .phase⟩, ⟨14, .textOnly Departure.lateStores⟩, ⟨15, .textOnly Departure.lateStores⟩, ⟨16, .textOnly Departure.lateStoresUnsure⟩], none⟩) rfl (by kernel_rfl) (fun K hK => ?_) (Rb.AllT.nil)
                · go_simp
                  try go_wp2_with fail
                  refine hK.out _ _ trivial (fun hH5 => ?_)
                  clear hK K hH4
                  try simp only [Act.put, setIfInBounds_toArray, set_cons_zero, set_cons_succ]
                  refine Rb.till_free (i := 19) (oi := ⟨some 34, .fieldAddr 59 (.tmp 5) 1, 0, "make.go:196", #[⟨0, .phase⟩, ⟨1, .phase⟩, ⟨2, .phase⟩, ⟨3, .phase⟩, ⟨4, .phase⟩, ⟨5, .phase⟩, ⟨6, .phase⟩, ⟨7, .phase⟩, ⟨8, .phase⟩, ⟨9, .phase⟩, ⟨10, .phase⟩, ⟨11, .phase⟩, ⟨12, .phase⟩, ⟨13, .phase⟩, ⟨14, .phase⟩, ⟨15, .phase⟩, ⟨16, .phase⟩, ⟨17, .phase⟩, ⟨18, .phase⟩], none⟩) (v := ?_) rfl (by kernel_rfl) (by kernel_rfl) (by kernel_rfl) (fun _ _ _ h => h) (by decide) (Or.inl ⟨by kernel_rfl, ?_⟩) (fun h => absurd h (by decide)) ?_
                  rotate_left
                  · (intro w hSw; clear hSw; go_simp; try with_reducible rfl)
                  try simp only [Act.put, setIfInBounds_toArray, set_cons_zero, set_cons_succ]
                  refine Rb.till_ready (rs := [20]) (by kernel_rfl) (by simp) ?_
                  refine Rb.AllT.past (o := ⟨none, .store 22 (.tmp 34) (.tmp 32), 0, "make.go:196", #[⟨19, .data⟩, ⟨16, .data⟩, ⟨18, .chain⟩, ⟨0, .phase⟩, ⟨1, .phase⟩, ⟨2, .phase⟩, ⟨3, .phase⟩, ⟨4, .phase⟩, ⟨5, .phase⟩, ⟨6, .phase⟩, ⟨7, .phase⟩, ⟨8, .phase⟩, ⟨9, .phase⟩, ⟨10, .phase⟩, ⟨11, .phase⟩, ⟨12, .phase⟩, ⟨13, .phase⟩, ⟨14, .phase⟩, ⟨15, .phase⟩, ⟨16, .phase⟩, ⟨17, .phase⟩, ⟨18, .phase⟩], none⟩) rfl (by kernel_rfl) (fun K hK => ?_) (Rb.AllT.nil)
                  · go_simp
                    try go_wp2_with fail
                    refine hK.out _ _ trivial (fun hH6 => ?_)
                    clear hK K hH5
                    try simp only [Act.put, setIfInBounds_toArray, set_cons_zero, set_cons_succ]
                    refine Rb.till_done (by kernel_rfl) ?_ _
                    refine NoPanic.normal ?_
                    have HFL : Hid (Gd (i + 1) (S ++ [s]) (B ++ [0]) ∧ Us (i + 1) F (S ++ [s]) (B ++ [0]) ∧ Wq g (w.heap.size + 1 + 1 + 1) w ((x12.setCell ⟨w.heap.size + 1 + 1, 0, none⟩ (.slice A7 (i + 1) c7)).setCell ⟨w.heap.size + 1 + 1, 1, none⟩ (.slice A12 (i + 1) c12)) (.slice A7 (i + 1) c7) (.slice A12 (i + 1) c12) (i + 1) (i + 1) (S ++ [s]) (B ++ [0]) ∧ Bk ((x12.setCell ⟨w.heap.size + 1 + 1, 0, none⟩ (.slice A7 (i + 1) c7)).setCell ⟨w.heap.size + 1 + 1, 1, none⟩ (.slice A12 (i + 1) c12)) w.heap.size 59 #[.slice (some ad) n fc, .slice bF n fd] ∧ Bk ((x12.setCell ⟨w.heap.size + 1 + 1, 0, none⟩ (.slice A7 (i + 1) c7)).setCell ⟨w.heap.size + 1 + 1, 1, none⟩ (.slice A12 (i + 1) c12)) (w.heap.size + 1) 59 #[.slice none 0 0, .slice none 0 0] ∧ Bk ((x12.setCell ⟨w.heap.size + 1 + 1, 0, none⟩ (.slice A7 (i + 1) c7)).setCell ⟨w.heap.size + 1 + 1, 1, none⟩ (.slice A12 (i + 1) c12)) (w.heap.size + 1 + 1) 59 #[.slice A7 (i + 1) c7, .slice A12 (i + 1) c12]) := ⟨gd_snoc HGD.out (by decide) (by decide) HS5.out.1 HS5.out.2.1, us_snoc HUS.out HGD.out.1 HGD.out.2.1 HS5.out.2.2, (HQ12.out.1.st (by omega) (by omega) (by have := HGB.out; omega) _ _).st (by omega) (by omega) (by have := HGB.out; omega) _ _, (HQ12.out.2.1.far (by dsimp only; omega) _).far (by dsimp only; omega) _, (HQ12.out.2.2.1.far (by dsimp only; omega) _).far (by dsimp only; omega) _, (HQ12.out.2.2.2.st 0 _).st 1 _⟩
                    go_wp2_with fail
                    go_roundw
                    case rel => exact ⟨i + 1, _, _, _, _, _, rfl, by go_num, by omega, HFL.out.1, HFL.out.2.1, HFL.out.2.2.1, HFL.out.2.2.2.1, HFL.out.2.2.2.2.1, HFL.out.2.2.2.2.2⟩
                    case measure => simp [intOf]; omega
          · go_simp
            try go_wp2_with fail
            refine hK.out _ _ ?_ (fun hH2 => ?_)
            · (try dsimp only); exact KS.out _ (HQ6.out.1.ch.tr (Ch.of_bel (by repeat (first | exact Bel.rf | with_reducible refine Bel.drwN ?_ _ | with_reducible refine Bel.drw ?_ | with_reducible refine Bel.al ?_ _)))) (HQ6.out.2.1.bel (by repeat (first | exact Bel.rf | with_reducible refine Bel.drwN ?_ _ | with_reducible refine Bel.drw ?_ | with_reducible refine Bel.al ?_ _))) (HQ6.out.2.2.2.bel (by repeat (first | exact Bel.rf | with_reducible refine Bel.drwN ?_ _ | with_reducible refine Bel.drw ?_ | with_reducible refine Bel.al ?_ _)))
            clear hK K hH1
            try simp only [Act.put, setIfInBounds_toArray, set_cons_zero, set_cons_succ]
            refine Rb.till_ready (rs := [11]) (by kernel_rfl) (by simp) ?_
            refine Rb.AllT.cons (o := ⟨some 27, .call { callee := Callee.builtin Builtin.append, args := #[.tmp 17, .tmp 26], argTypes := #[22, 22] }, 22, "make.go:196", #[⟨1, .data⟩, ⟨10, .data⟩], none⟩) rfl (fun K hK => ?_) (Rb.AllT.nil)
            · refine step_app _ rfl (.tmp 17) (.tmp 26) rfl (w.heap.size + 1 + 1 + 1) u i S rfl (own_bel HQ6.out.1.ou (by repeat (first | exact Bel.rf | with_reducible refine Bel.drwN ?_ _ | with_reducible refine Bel.drw ?_ | with_reducible refine Bel.al ?_ _))) ⟨w6.heap.size, 0, none⟩ 1 1 [s] rfl (zi_bk (L := [s]) ((by repeat (first | (refine Bk.nq _ _ _ ?_; simp; done) | with_reducible refine Bk.drwN ?_ _ | with_reducible refine Bk.drw ?_ | with_reducible refine Bk.al ?_ _)) : Bk _ w6.heap.size 3 (zs [s]).toArray) 1 rfl) HI1.out (by have := HQ6.out.1.sz; simp; omega) ?_; intro v7 x7 h7 hg7 ha7; obtain ⟨A7, c7, hv7, _⟩ := own_any h7; subst hv7; have HQ7 : Hid (Wq g (w.heap.size + 1 + 1 + 1) w x7 (.slice A7 (i + 1) c7) v (i + 1) i (S ++ [s]) B ∧ Bk x7 w.heap.size 59 #[.slice (some ad) n fc, .slice bF n fd] ∧ Bk x7 (w.heap.size + 1) 59 #[.slice none 0 0, .slice none 0 0] ∧ Bk x7 (w.heap.size + 1 + 1) 59 #[u, v]) := ⟨(HQ6.out.1.up (by repeat (first | exact Bel.rf | with_reducible refine Bel.drwN ?_ _ | with_reducible refine Bel.drw ?_ | with_reducible refine Bel.al ?_ _))).ax h7 hg7 ha7, bk_grw (HQ6.out.2.1.bel (by repeat (first | exact Bel.rf | with_reducible refine Bel.drwN ?_ _ | with_reducible refine Bel.drw ?_ | with_reducible refine Bel.al ?_ _))) hg7 (fun e => by have := (HQ6.out.1.ou.lt _ e).1; omega), bk_grw (HQ6.out.2.2.1.bel (by repeat (first | exact Bel.rf | with_reducible refine Bel.drwN ?_ _ | with_reducible refine Bel.drw ?_ | with_reducible refine Bel.al ?_ _))) hg7 (fun e => by have := (HQ6.out.1.ou.lt _ e).1; omega), bk_grw (HQ6.out.2.2.2.bel (by repeat (first | exact Bel.rf | with_reducible refine Bel.drwN ?_ _ | with_reducible refine Bel.drw ?_ | with_reducible refine Bel.al ?_ _))) hg7 (fun e => by have := (HQ6.out.1.ou.lt _ e).1; omega)⟩; have HX7 : Hid (Bk x7 (w6.heap.size + 1) 3 (zs [0]).toArray) := bk_grw ((by repeat (first | (refine Bk.nq _ _ _ ?_; simp; done) | with_reducible refine Bk.drwN ?_ _ | with_reducible refine Bk.drw ?_ | with_reducible refine Bk.al ?_ _)) : Bk _ (w6.heap.size + 1) 3 (zs [0]).toArray) hg7 (fun e => by have := HB6.out _ e; omega); clear h7 hg7 ha7
              try go_wp2_with fail
              refine hK.out _ _ ?_ (fun hH3 => ?_)
              · (try dsimp only); exact KS.out _ (HQ7.out.1.ch.tr (Ch.of_bel (by repeat (first | exact Bel.rf | with_reducible refine Bel.drwN ?_ _ | with_reducible refine Bel.drw ?_ | with_reducible refine Bel.al ?_ _)))) (HQ7.out.2.1.bel (by repeat (first | exact Bel.rf | with_reducible refine Bel.drwN ?_ _ | with_reducible refine Bel.drw ?_ | with_reducible refine Bel.al ?_ _))) (HQ7.out.2.2.2.bel (by repeat (first | exact Bel.rf | with_reducible refine Bel.drwN ?_ _ | with_reducible refine Bel.drw ?_ | with_reducible refine Bel.al ?_ _)))
              clear hK K hH2
              try simp only [Act.put, setIfInBounds_toArray, set_cons_zero, set_cons_succ]
              refine Rb.till_take (i := 17) (oi := ⟨some 33, .fieldAddr 59 (.tmp 5) 0, 0, "make.go:196", #[⟨0, .phase⟩, ⟨1, .phase⟩, ⟨2, .phase⟩, ⟨3, .phase⟩, ⟨4, .phase⟩, ⟨5, .phase⟩, ⟨6, .phase⟩, ⟨7, .phase⟩, ⟨8, .phase⟩, ⟨9, .phase⟩, ⟨10, .phase⟩, ⟨11, .phase⟩, ⟨12, .phase⟩, ⟨13, .phase⟩, ⟨14, .textOnly Departure.lateStores⟩, ⟨15, .textOnly Departure.lateStores⟩, ⟨16, .textOnly Departure.lateStoresUnsure⟩], none⟩) (v := ?_) rfl (by kernel_rfl) (by kernel_rfl) (by kernel_rfl) (fun _ _ _ h => h) (by decide) opU rfl (by kernel_rfl) (by kernel_rfl) (Or.inl ⟨by kernel_rfl, ?_⟩) (by assumption) ?_
              rotate_left
              · (intro w hSw; (try dsimp only at hSw); obtain ⟨d1, d2, d3, d4⟩ := hSw; go_simp; try with_reducible rfl)
              try simp only [Act.put, setIfInBounds_toArray, set_cons_zero, set_cons_succ]
              refine Rb.till_ready (rs := [16]) (by kernel_rfl) (by simp) ?_
              refine Rb.AllT.cons (o := ⟨some 32, .call { callee := Callee.builtin Builtin.append, args := #[.tmp 29, .tmp 31], argTypes := #[22, 22] }, 22, "make.go:196", #[⟨13, .data⟩, ⟨15, .data⟩, ⟨11, .chain⟩], none⟩) rfl (fun K hK => ?_) (Rb.AllT.nil)
              · refine step_app _ rfl (.tmp 29) (.tmp 31) rfl (w.heap.size + 1 + 1 + 1) v i B rfl (own_bel HQ7.out.1.ov (by repeat (first | exact Bel.rf | with_reducible refine Bel.drwN ?_ _ | with_reducible refine Bel.drw ?_ | with_reducible refine Bel.al ?_ _))) ⟨w6.heap.size + 1, 0, none⟩ 1 1 [0] rfl (zi_bk (L := [0]) (HX7.out.bel (by repeat (first | exact Bel.rf | with_reducible refine Bel.drwN ?_ _ | with_reducible refine Bel.drw ?_ | with_reducible refine Bel.al ?_ _))) 1 rfl) HI1.out (by have := HQ7.out.1.sz; simp; omega) ?_; intro v12 x12 h12 hg12 ha12; obtain ⟨A12, c12, hv12, _⟩ := own_any h12; subst hv12; have HQ12 : Hid (Wq g (w.heap.size + 1 + 1 + 1) w x12 (.slice A7 (i + 1) c7) (.slice A12 (i + 1) c12) (i + 1) (i + 1) (S ++ [s]) (B ++ [0]) ∧ Bk x12 w.heap.size 59 #[.slice (some ad) n fc, .slice bF n fd] ∧ Bk x12 (w.heap.size + 1) 59 #[.slice none 0 0, .slice none 0 0] ∧ Bk x12 (w.heap.size + 1 + 1) 59 #[u, v]) := ⟨((HQ7.out.1.up (by repeat (first | exact Bel.rf | with_reducible refine Bel.drwN ?_ _ | with_reducible refine Bel.drw ?_ | with_reducible refine Bel.al ?_ _))).sx.ax h12 hg12 ha12).sx, bk_grw (HQ7.out.2.1.bel (by repeat (first | exact Bel.rf | with_reducible refine Bel.drwN ?_ _ | with_reducible refine Bel.drw ?_ | with_reducible refine Bel.al ?_ _))) hg12 (fun e => by have := (HQ7.out.1.ov.lt _ e).1; omega), bk_grw (HQ7.out.2.2.1.bel (by repeat (first | exact Bel.rf | with_reducible refine Bel.drwN ?_ _ | with_reducible refine Bel.drw ?_ | with_reducible refine Bel.al ?_ _))) hg12 (fun e => by have := (HQ7.out.1.ov.lt _ e).1; omega), bk_grw (HQ7.out.2.2.2.bel (by repeat (first | exact Bel.rf | with_reducible refine Bel.drwN ?_ _ | with_reducible refine Bel.drw ?_ | with_reducible refine Bel.al ?_ _))) hg12 (fun e => by have := (HQ7.out.1.ov.lt _ e).1; omega)⟩; have y0 := HQ12.out.2.2.2.cell 0; have y1 := HQ12.out.2.2.2.cell 1; have z0 := HQ12.out.2.2.2.fr 0; have z1 := HQ12.out.2.2.2.fr 1; simp only [List.getElem?_toArray, List.getElem?_cons_zero, List.getElem?_cons_succ] at y0 y1; clear h12 hg12 ha12
                try go_wp2_with fail
                refine hK.out _ _ ?_ (fun hH4 => ?_)
                · (try dsimp only); exact KS.out _ (HQ12.out.1.ch.tr (Ch.of_bel (by repeat (first | exact Bel.rf | with_reducible refine Bel.drwN ?_ _ | with_reducible refine Bel.drw ?_ | with_reducible refine Bel.al ?_ _)))) (HQ12.out.2.1.bel (by repeat (first | exact Bel.rf | with_reducible refine Bel.drwN ?_ _ | with_reducible refine Bel.drw ?_ | with_reducible refine Bel.al ?_ _))) (HQ12.out.2.2.2.bel (by repeat (first | exact Bel.rf | with_reducible refine Bel.drwN ?_ _ | with_reducible refine Bel.drw ?_ | with_reducible refine Bel.al ?_ _)))
                clear hK K hH3
                try simp only [Act.put, setIfInBounds_toArray, set_cons_zero, set_cons_succ]
                refine Rb.till_ready (rs := [18]) (by kernel_rfl) (by simp) ?_
                refine Rb.AllT.past (o := ⟨none, .store 22 (.tmp 33) (.tmp 27), 0, "make.go:196", #[⟨17, .data⟩, ⟨11, .data⟩, ⟨16, .chain⟩, ⟨0, .phase⟩, ⟨1, .phase⟩, ⟨2, .phase⟩, ⟨3, .phase⟩, ⟨4, .phase⟩, ⟨5, .phase⟩, ⟨6, .phase⟩, ⟨7, .phase⟩, ⟨8, .phase⟩, ⟨9, .phase⟩, ⟨10, .phase⟩, ⟨11, .phase⟩, ⟨12, .phase⟩, ⟨13, .phase⟩, ⟨14, .textOnly Departure.lateStores⟩, ⟨15, .textOnly Departure.lateStores⟩, ⟨16, .textOnly Departure.lateStoresUnsure⟩], none⟩) rfl (by kernel_rfl) (fun K hK => ?_) (Rb.AllT.nil)
                · go_simp
                  try go_wp2_with fail
                  refine hK.out _ _ trivial (fun hH5 => ?_)
                  clear hK K hH4
                  try simp only [Act.put, setIfInBounds_toArray, set_cons_zero, set_cons_succ]
                  refine Rb.till_free (i := 19) (oi := ⟨some 34, .fieldAddr 59 (.tmp 5) 1, 0, "make.go:196", #[⟨0, .phase⟩, ⟨1, .phase⟩, ⟨2, .phase⟩, ⟨3, .phase⟩, ⟨4, .phase⟩, ⟨5, .phase⟩, ⟨6, .phase⟩, ⟨7, .phase⟩, ⟨8, .phase⟩, ⟨9, .phase⟩, ⟨10, .phase⟩, ⟨11, .phase⟩, ⟨12, .phase⟩, ⟨13, .phase⟩, ⟨14, .phase⟩, ⟨15, .phase⟩, ⟨16, .phase⟩, ⟨17, .phase⟩, ⟨18, .phase⟩], none⟩) (v := ?_) rfl (by kernel_rfl) (by kernel_rfl) (by kernel_rfl) (fun _ _ _ h => h) (by decide) (Or.inl ⟨by kernel_rfl, ?_⟩) (fun h => absurd h (by decide)) ?_
                  rotate_left
                  · (intro w hSw; clear hSw; go_simp; try with_reducible rfl)
                  try simp only [Act.put, setIfInBounds_toArray, set_cons_zero, set_cons_succ]
                  refine Rb.till_ready (rs := [20]) (by kernel_rfl) (by simp) ?_
                  refine Rb.AllT.past (o := ⟨none, .store 22 (.tmp 34) (.tmp 32), 0, "make.go:196", #[⟨19, .data⟩, ⟨16, .data⟩, ⟨18, .chain⟩, ⟨0, .phase⟩, ⟨1, .phase⟩, ⟨2, .phase⟩, ⟨3, .phase⟩, ⟨4, .phase⟩, ⟨5, .phase⟩, ⟨6, .phase⟩, ⟨7, .phase⟩, ⟨8, .phase⟩, ⟨9, .phase⟩, ⟨10, .phase⟩, ⟨11, .phase⟩, ⟨12, .phase⟩, ⟨13, .phase⟩, ⟨14, .phase⟩, ⟨15, .phase⟩, ⟨16, .phase⟩, ⟨17, .phase⟩, ⟨18, .phase⟩], none⟩) rfl (by kernel_rfl) (fun K hK => ?_) (Rb.AllT.nil)
                  · go_simp
                    try go_wp2_with fail
                    refine hK.out _ _ trivial (fun hH6 => ?_)
                    clear hK K hH5
                    try simp only [Act.put, setIfInBounds_toArray, set_cons_zero, set_cons_succ]
                    refine Rb.till_done (by kernel_rfl) ?_ _
                    refine NoPanic.normal ?_
                    have HFL : Hid (Gd (i + 1) (S ++ [s]) (B ++ [0]) ∧ Us (i + 1) F (S ++ [s]) (B ++ [0]) ∧ Wq g (w.heap.size + 1 + 1 + 1) w ((x12.setCell ⟨w.heap.size + 1 + 1, 0, none⟩ (.slice A7 (i + 1) c7)).setCell ⟨w.heap.size + 1 + 1, 1, none⟩ (.slice A12 (i + 1) c12)) (.slice A7 (i + 1) c7) (.slice A12 (i + 1) c12) (i + 1) (i + 1) (S ++ [s]) (B ++ [0]) ∧ Bk ((x12.setCell ⟨w.heap.size + 1 + 1, 0, none⟩ (.slice A7 (i + 1) c7)).setCell ⟨w.heap.size + 1 + 1, 1, none⟩ (.slice A12 (i + 1) c12)) w.heap.size 59 #[.slice (some ad) n fc, .slice bF n fd] ∧ Bk ((x12.setCell ⟨w.heap.size + 1 + 1, 0, none⟩ (.slice A7 (i + 1) c7)).setCell ⟨w.heap.size + 1 + 1, 1, none⟩ (.slice A12 (i + 1) c12)) (w.heap.size + 1) 59 #[.slice none 0 0, .slice none 0 0] ∧ Bk ((x12.setCell ⟨w.heap.size + 1 + 1, 0, none⟩ (.slice A7 (i + 1) c7)).setCell ⟨w.heap.size + 1 + 1, 1, none⟩ (.slice A12 (i + 1) c12)) (w.heap.size + 1 + 1) 59 #[.slice A7 (i + 1) c7, .slice A12 (i + 1) c12]) := ⟨gd_snoc HGD.out (by decide) (by decide) HS5.out.1 HS5.out.2.1, us_snoc HUS.out HGD.out.1 HGD.out.2.1 HS5.out.2.2, (HQ12.out.1.st (by omega) (by omega) (by have := HGB.out; omega) _ _).st (by omega) (by omega) (by have := HGB.out; omega) _ _, (HQ12.out.2.1.far (by dsimp only; omega) _).far (by dsimp only; omega) _, (HQ12.out.2.2.1.far (by dsimp only; omega) _).far (by dsimp only; omega) _, (HQ12.out.2.2.2.st 0 _).st 1 _⟩
                    go_wp2_with fail
                    go_roundw
                    case rel => exact ⟨i + 1, _, _, _, _, _, rfl, by go_num, by omega, HFL.out.1, HFL.out.2.1, HFL.out.2.2.1, HFL.out.2.2.2.1, HFL.out.2.2.2.2.1, HFL.out.2.2.2.2.2⟩
                    case measure => simp [intOf]; omega
        · go_simp
          try go_wp2_with fail
          refine hK.out _ _ ?_ (fun hH1 => ?_)
          · (try dsimp only); exact KS.out _ (HQ6.out.1.ch.tr (Ch.of_bel (by repeat (first | exact Bel.rf | with_reducible refine Bel.drwN ?_ _ | with_reducible refine Bel.drw ?_ | with_reducible refine Bel.al ?_ _)))) (HQ6.out.2.1.bel (by repeat (first | exact Bel.rf | with_reducible refine Bel.drwN ?_ _ | with_reducible refine Bel.drw ?_ | with_reducible refine Bel.al ?_ _))) (HQ6.out.2.2.2.bel (by repeat (first | exact Bel.rf | with_reducible refine Bel.drwN ?_ _ | with_reducible refine Bel.drw ?_ | with_reducible refine Bel.al ?_ _)))
          clear hK K hH0
          try simp only [Act.put, setIfInBounds_toArray, set_cons_zero, set_cons_succ]
          refine Rb.till_ready (rs := [10]) (by kernel_rfl) (by simp) ?_
          refine Rb.AllT.cons (o := ⟨some 26, .buildSlice 22 1 #[(0, .tmp 25)], 22, "make.go:196", #[⟨9, .data⟩], none⟩) rfl (fun K hK => ?_) (Rb.AllT.nil)
          · go_simp
            try go_wp2_with fail
            refine hK.out _ _ ?_ (fun hH2 => ?_)
            · (try dsimp only); exact KS.out _ (HQ6.out.1.ch.tr (Ch.of_bel (by repeat (first | exact Bel.rf | with_reducible refine Bel.drwN ?_ _ | with_reducible refine Bel.drw ?_ | with_reducible refine Bel.al ?_ _)))) (HQ6.out.2.1.bel (by repeat (first | exact Bel.rf | with_reducible refine Bel.drwN ?_ _ | with_reducible refine Bel.drw ?_ | with_reducible refine Bel.al ?_ _))) (HQ6.out.2.2.2.bel (by repeat (first | exact Bel.rf | with_reducible refine Bel.drwN ?_ _ | with_reducible refine Bel.drw ?_ | with_reducible refine Bel.al ?_ _)))
            clear hK K hH1
            try simp only [Act.put, setIfInBounds_toArray, set_cons_zero, set_cons_succ]
            refine Rb.till_ready (rs := [11]) (by kernel_rfl) (by simp) ?_
            refine Rb.AllT.cons (o := ⟨some 27, .call { callee := Callee.builtin Builtin.append, args := #[.tmp 17, .tmp 26], argTypes := #[22, 22] }, 22, "make.go:196", #[⟨1, .data⟩, ⟨10, .data⟩], none⟩) rfl (fun K hK => ?_) (Rb.AllT.nil)
            · refine step_app _ rfl (.tmp 17) (.tmp 26) rfl (w.heap.size + 1 + 1 + 1) u i S rfl (own_bel HQ6.out.1.ou (by repeat (first | exact Bel.rf | with_reducible refine Bel.drwN ?_ _ | with_reducible refine Bel.drw ?_ | with_reducible refine Bel.al ?_ _))) ⟨w6.heap.size + 1, 0, none⟩ 1 1 [s] rfl (zi_bk (L := [s]) ((by repeat (first | (refine Bk.nq _ _ _ ?_; simp; done) | with_reducible refine Bk.drwN ?_ _ | with_reducible refine Bk.drw ?_ | with_reducible refine Bk.al ?_ _)) : Bk _ (w6.heap.size + 1) 3 (zs [s]).toArray) 1 rfl) HI1.out (by have := HQ6.out.1.sz; simp; omega) ?_; intro v7 x7 h7 hg7 ha7; obtain ⟨A7, c7, hv7, _⟩ := own_any h7; subst hv7; have HQ7 : Hid (Wq g (w.heap.size + 1 + 1 + 1) w x7 (.slice A7 (i + 1) c7) v (i + 1) i (S ++ [s]) B ∧ Bk x7 w.heap.size 59 #[.slice (some ad) n fc, .slice bF n fd] ∧ Bk x7 (w.heap.size + 1) 59 #[.slice none 0 0, .slice none 0 0] ∧ Bk x7 (w.heap.size + 1 + 1) 59 #[u, v]) := ⟨(HQ6.out.1.up (by repeat (first | exact Bel.rf | with_reducible refine Bel.drwN ?_ _ | with_reducible refine Bel.drw ?_ | with_reducible refine Bel.al ?_ _))).ax h7 hg7 ha7, bk_grw (HQ6.out.2.1.bel (by repeat (first | exact Bel.rf | with_reducible refine Bel.drwN ?_ _ | with_reducible refine Bel.drw ?_ | with_reducible refine Bel.al ?_ _))) hg7 (fun e => by have := (HQ6.out.1.ou.lt _ e).1; omega), bk_grw (HQ6.out.2.2.1.bel (by repeat (first | exact Bel.rf | with_reducible refine Bel.drwN ?_ _ | with_reducible refine Bel.drw ?_ | with_reducible refine Bel.al ?_ _))) hg7 (fun e => by have := (HQ6.out.1.ou.lt _ e).1; omega), bk_grw (HQ6.out.2.2.2.bel (by repeat (first | exact Bel.rf | with_reducible refine Bel.drwN ?_ _ | with_reducible refine Bel.drw ?_ | with_reducible refine Bel.al ?_ _))) hg7 (fun e => by have := (HQ6.out.1.ou.lt _ e).1; omega)⟩; have HX7 : Hid (Bk x7 w6.heap.size 3 (zs [0]).toArray) := bk_grw ((by repeat (first | (refine Bk.nq _ _ _ ?_; simp; done) | with_reducible refine Bk.drwN ?_ _ | with_reducible refine Bk.drw ?_ | with_reducible refine Bk.al ?_ _)) : Bk _ w6.heap.size 3 (zs [0]).toArray) hg7 (fun e => by have := HB6.out _ e; omega); clear h7 hg7 ha7
              try go_wp2_with fail
              refine hK.out _ _ ?_ (fun hH3 => ?_)
              · (try dsimp only); exact KS.out _ (HQ7.out.1.ch.tr (Ch.of_bel (by repeat (first | exact Bel.rf | with_reducible refine Bel.drwN ?_ _ | with_reducible refine Bel.drw ?_ | with_reducible refine Bel.al ?_ _)))) (HQ7.out.2.1.bel (by repeat (first | exact Bel.rf | with_reducible refine Bel.drwN ?_ _ | with_reducible refine Bel.drw ?_ | with_reducible refine Bel.al ?_ _))) (HQ7.out.2.2.2.bel (by repeat (first | exact Bel.rf | with_reducible refine Bel.drwN ?_ _ | with_reducible refine Bel.drw ?_ | with_reducible refine Bel.al ?_ _)))
              clear hK K hH2
              try simp only [Act.put, setIfInBounds_toArray, set_cons_zero, set_cons_succ]
              refine Rb.till_take (i := 17) (oi := ⟨some 33, .fieldAddr 59 (.tmp 5) 0, 0, "make.go:196", #[⟨0, .phase⟩, ⟨1, .phase⟩, ⟨2, .phase⟩, ⟨3, .phase⟩, ⟨4, .phase⟩, ⟨5, .phase⟩, ⟨6, .phase⟩, ⟨7, .phase⟩, ⟨8, .phase⟩, ⟨9, .phase⟩, ⟨10, .phase⟩, ⟨11, .phase⟩, ⟨12, .phase⟩, ⟨13, .phase⟩, ⟨14, .textOnly Departure.lateStores⟩, ⟨15, .textOnly Departure.lateStores⟩, ⟨16, .textOnly Departure.lateStoresUnsure⟩], none⟩) (v := ?_) rfl (by kernel_rfl) (by kernel_rfl) (by kernel_rfl) (fun _ _ _ h => h) (by decide) opU rfl (by kernel_rfl) (by kernel_rfl) (Or.inl ⟨by kernel_rfl, ?_⟩) (by assumption) ?_
              rotate_left
              · (intro w hSw; (try dsimp only at hSw); obtain ⟨d1, d2, d3, d4⟩ := hSw; go_simp; try with_reducible rfl)
              try simp only [Act.put, setIfInBounds_toArray, set_cons_zero, set_cons_succ]
              refine Rb.till_ready (rs := [16]) (by kernel_rfl) (by simp) ?_
              refine Rb.AllT.cons (o := ⟨some 32, .call { callee := Callee.builtin Builtin.append, args := #[.tmp 29, .tmp 31], argTypes := #[22, 22] }, 22, "make.go:196", #[⟨13, .data⟩, ⟨15, .data⟩, ⟨11, .chain⟩], none⟩) rfl (fun K hK => ?_) (Rb.AllT.nil)
              · refine step_app _ rfl (.tmp 29) (.tmp 31) rfl (w.heap.size + 1 + 1 + 1) v i B rfl (own_bel HQ7.out.1.ov (by repeat (first | exact Bel.rf | with_reducible refine Bel.drwN ?_ _ | with_reducible refine Bel.drw ?_ | with_reducible refine Bel.al ?_ _))) ⟨w6.heap.size, 0, none⟩ 1 1 [0] rfl (zi_bk (L := [0]) (HX7.out.bel (by repeat (first | exact Bel.rf | with_reducible refine Bel.drwN ?_ _ | with_reducible refine Bel.drw ?_ | with_reducible refine Bel.al ?_ _))) 1 rfl) HI1.out (by have := HQ7.out.1.sz; simp; omega) ?_; intro v12 x12 h12 hg12 ha12; obtain ⟨A12, c12, hv12, _⟩ := own_any h12; subst hv12; have HQ12 : Hid (Wq g (w.heap.size + 1 + 1 + 1) w x12 (.slice A7 (i + 1) c7) (.slice A12 (i + 1) c12) (i + 1) (i + 1) (S ++ [s]) (B ++ [0]) ∧ Bk x12 w.heap.size 59 #[.slice (some ad) n fc, .slice bF n fd] ∧ Bk x12 (w.heap.size + 1) 59 #[.slice none 0 0, .slice none 0 0] ∧ Bk x12 (w.heap.size + 1 + 1) 59 #[u, v]) := ⟨((HQ7.out.1.up (by repeat (first | exact Bel.rf | with_reducible refine Bel.drwN ?_ _ | with_reducible refine Bel.drw ?_ | with_reducible refine Bel.al ?_ _))).sx.ax h12 hg12 ha12).sx, bk_grw (HQ7.out.2.1.bel (by repeat (first | exact Bel.rf | with_reducible refine Bel.drwN ?_ _ | with_reducible refine Bel.drw ?_ | with_reducible refine Bel.al ?_ _))) hg12 (fun e => by have := (HQ7.out.1.ov.lt _ e).1; omega), bk_grw (HQ7.out.2.2.1.bel (by repeat (first | exact Bel.rf | with_reducible refine Bel.drwN ?_ _ | with_reducible refine Bel.drw ?_ | with_reducible refine Bel.al ?_ _))) hg12 (fun e => by have := (HQ7.out.1.ov.lt _ e).1; omega), bk_grw (HQ7.out.2.2.2.bel (by repeat (first | exact Bel.rf | with_reducible refine Bel.drwN ?_ _ | with_reducible refine Bel.drw ?_ | with_reducible refine Bel.al ?_ _))) hg12 (fun e => by have := (HQ7.out.1.ov.lt _ e).1; omega)⟩; have y0 := HQ12.out.2.2.2.cell 0; have y1 := HQ12.out.2.2.2.cell 1; have z0 := HQ12.out.2.2.2.fr 0; have z1 := HQ12.out.2.2.2.fr 1; simp only [List.getElem?_toArray, List.getElem?_cons_zero, List.getElem?_cons_succ] at y0 y1; clear h12 hg12 ha12
                try go_wp2_with fail
                refine hK.out _ _ ?_ (fun hH4 => ?_)
                · (try dsimp only); exact KS.out _ (HQ12.out.1.ch.tr (Ch.of_bel (by repeat (first | exact Bel.rf | with_reducible refine Bel.drwN ?_ _ | with_reducible refine Bel.drw ?_ | with_reducible refine Bel.al ?_ _)))) (HQ12.out.2.1.bel (by repeat (first | exact Bel.rf | with_reducible refine Bel.drwN ?_ _ | with_reducible refine Bel.drw ?_ | with_reducible refine Bel.al ?_ _))) (HQ12.out.2.2.2.bel (by repeat (first | exact Bel.rf | with_reducible refine Bel.drwN ?_ _ | with_reducible refine Bel.drw ?_ | with_reducible refine Bel.al ?_ _)))
                clear hK K hH3
                try simp only [Act.put, setIfInBounds_toArray, set_cons_zero, set_cons_succ]
                refine Rb.till_ready (rs := [18]) (by kernel_rfl) (by simp) ?_
                refine Rb.AllT.past (o := ⟨none, .store 22 (.tmp 33) (.tmp 27), 0, "make.go:196", #[⟨17, .data⟩, ⟨11, .data⟩, ⟨16, .chain⟩, ⟨0, .phase⟩, ⟨1, .phase⟩, ⟨2, .phase⟩, ⟨3, .phase⟩, ⟨4, .phase⟩, ⟨5, .phase⟩, ⟨6, .phase⟩, ⟨7, .phase⟩, ⟨8, .phase⟩, ⟨9, .phase⟩, ⟨10, .phase⟩, ⟨11, .phase⟩, ⟨12, .phase⟩, ⟨13, .phase⟩, ⟨14, .textOnly Departure.lateStores⟩, ⟨15, .textOnly Departure.lateStores⟩, ⟨16, .textOnly Departure.lateStoresUnsure⟩], none⟩) rfl (by kernel_rfl) (fun K hK => ?_) (Rb.AllT.nil)
                · go_simp
                  try go_wp2_with fail
                  refine hK.out _ _ trivial (fun hH5 => ?_)
                  clear hK K hH4
                  try simp only [Act.put, setIfInBounds_toArray, set_cons_zero, set_cons_succ]
                  refine Rb.till_free (i := 19) (oi := ⟨some 34, .fieldAddr 59 (.tmp 5) 1, 0, "make.go:196", #[⟨0, .phase⟩, ⟨1, .phase⟩, ⟨2, .phase⟩, ⟨3, .phase⟩, ⟨4, .phase⟩, ⟨5, .phase⟩, ⟨6, .phase⟩, ⟨7, .phase⟩, ⟨8, .phase⟩, ⟨9, .phase⟩, ⟨10, .phase⟩, ⟨11, .phase⟩, ⟨12, .phase⟩, ⟨13, .phase⟩, ⟨14, .phase⟩, ⟨15, .phase⟩, ⟨16, .phase⟩, ⟨17, .phase⟩, ⟨18, .phase⟩], none⟩) (v := ?_) rfl (by kernel_rfl) (by kernel_rfl) (by kernel_rfl) (fun _ _ _ h => h) (by decide) (Or.inl ⟨by kernel_rfl, ?_⟩) (fun h => absurd h (by decide)) ?_
                  rotate_left
                  · (intro w hSw; clear hSw; go_simp; try with_reducible rfl)
                  try simp only [Act.put, setIfInBounds_toArray, set_cons_zero, set_cons_succ]
                  refine Rb.till_ready (rs := [20]) (by kernel_rfl) (by simp) ?_
                  refine Rb.AllT.past (o := ⟨none, .store 22 (.tmp 34) (.tmp 32), 0, "make.go:196", #[⟨19, .data⟩, ⟨16, .data⟩, ⟨18, .chain⟩, ⟨0, .phase⟩, ⟨1, .phase⟩, ⟨2, .phase⟩, ⟨3, .phase⟩, ⟨4, .phase⟩, ⟨5, .phase⟩, ⟨6, .phase⟩, ⟨7, .phase⟩, ⟨8, .phase⟩, ⟨9, .phase⟩, ⟨10, .phase⟩, ⟨11, .phase⟩, ⟨12, .phase⟩, ⟨13, .phase⟩, ⟨14, .phase⟩, ⟨15, .phase⟩, ⟨16, .phase⟩, ⟨17, .phase⟩, ⟨18, .phase⟩], none⟩) rfl (by kernel_rfl) (fun K hK => ?_) (Rb.AllT.nil)
                  · go_simp
                    try go_wp2_with fail
                    refine hK.out _ _ trivial (fun hH6 => ?_)
                    clear hK K hH5
                    try simp only [Act.put, setIfInBounds_toArray, set_cons_zero, set_cons_succ]
                    refine Rb.till_done (by kernel_rfl) ?_ _
                    refine NoPanic.normal ?_
                    have HFL : Hid (Gd (i + 1) (S ++ [s]) (B ++ [0]) ∧ Us (i + 1) F (S ++ [s]) (B ++ [0]) ∧ Wq g (w.heap.size + 1 + 1 + 1) w ((x12.setCell ⟨w.heap.size + 1 + 1, 0, none⟩ (.slice A7 (i + 1) c7)).setCell ⟨w.heap.size + 1 + 1, 1, none⟩ (.slice A12 (i + 1) c12)) (.slice A7 (i + 1) c7) (.slice A12 (i + 1) c12) (i + 1) (i + 1) (S ++ [s]) (B ++ [0]) ∧ Bk ((x12.setCell ⟨w.heap.size + 1 + 1, 0, none⟩ (.slice A7 (i + 1) c7)).setCell ⟨w.heap.size + 1 + 1, 1, none⟩ (.slice A12 (i + 1) c12)) w.heap.size 59 #[.slice (some ad) n fc, .slice bF n fd] ∧ Bk ((x12.setCell ⟨w.heap.size + 1 + 1, 0, none⟩ (.slice A7 (i + 1) c7)).setCell ⟨w.heap.size + 1 + 1, 1, none⟩ (.slice A12 (i + 1) c12)) (w.heap.size + 1) 59 #[.slice none 0 0, .slice none 0 0] ∧ Bk ((x12.setCell ⟨w.heap.size + 1 + 1, 0, none⟩ (.slice A7 (i + 1) c7)).setCell ⟨w.heap.size + 1 + 1, 1, none⟩ (.slice A12 (i + 1) c12)) (w.heap.size + 1 + 1) 59 #[.slice A7 (i + 1) c7, .slice A12 (i + 1) c12]) := ⟨gd_snoc HGD.out (by decide) (by decide) HS5.out.1 HS5.out.2.1, us_snoc HUS.out HGD.out.1 HGD.out.2.1 HS5.out.2.2, (HQ12.out.1.st (by omega) (by omega) (by have := HGB.out; omega) _ _).st (by omega) (by omega) (by have := HGB.out; omega) _ _, (HQ12.out.2.1.far (by dsimp only; omega) _).far (by dsimp only; omega) _, (HQ12.out.2.2.1.far (by dsimp only; omega) _).far (by dsimp only; omega) _, (HQ12.out.2.2.2.st 0 _).st 1 _⟩
                    go_wp2_with fail
                    go_roundw
                    case rel => exact ⟨i + 1, _, _, _, _, _, rfl, by go_num, by omega, HFL.out.1, HFL.out.2.1, HFL.out.2.2.1, HFL.out.2.2.2.1, HFL.out.2.2.2.2.1, HFL.out.2.2.2.2.2⟩
                    case measure => simp [intOf]; omega
      · have wv1 : IntKind.i64.wrap 2 = 2 := by decide
        have wv2 : IntKind.i64.wrap (2 ^ 1) = 2 := by decide
        obtain ⟨s, hs⟩ : ∃ s, x / 8 = s := ⟨_, rfl⟩
        have wv3 : IntKind.i64.wrap 3 = 3 := by decide
        have hs9 : s = F.getD i 0 / 2 ^ (4 - (1 : Int).toNat) := by rw [HX.out]; exact hs.symm
        have HS5 : Hid (0 ≤ s ∧ s < 2 ^ (1 : Int).toNat ∧ s = F.getD i 0 / 2 ^ (4 - (1 : Int).toNat)) := ⟨by rw [← hs]; exact Int.ediv_nonneg x0 (by decide), (by show s < 2; (try simp at hs); omega), hs9⟩
        clear HY hs9
        go_wp2_with fail
        refine wp_region_noPanic ?_
        refine Rb.wp_region_till (S := fun W => W.cell? (⟨w.heap.size + 1 + 1, 0, none⟩ : Addr) = some u ∧ W.cell? (⟨w.heap.size + 1 + 1, 1, none⟩ : Addr) = some v ∧ W.cell? (⟨w.heap.size, 0, none⟩ : Addr) = some (.slice (some ad) n fc) ∧ W.cell? (ad.add i) = some (.int .i64 x)) 18 (by kernel_rfl) ?_ (fun hH0 => ?_)
        · (try dsimp only); exact KS.out _ (HQ6.out.1.ch.tr (Ch.of_bel (by repeat (first | exact Bel.rf | with_reducible refine Bel.drwN ?_ _ | with_reducible refine Bel.drw ?_ | with_reducible refine Bel.al ?_ _)))) (HQ6.out.2.1.bel (by repeat (first | exact Bel.rf | with_reducible refine Bel.drwN ?_ _ | with_reducible refine Bel.drw ?_ | with_reducible refine Bel.al ?_ _))) (HQ6.out.2.2.2.bel (by repeat (first | exact Bel.rf | with_reducible refine Bel.drwN ?_ _ | with_reducible refine Bel.drw ?_ | with_reducible refine Bel.al ?_ _)))
        refine Rb.till_take (i := 0) (oi := ⟨some 16, .fieldAddr 59 (.tmp 5) 0, 0, "make.go:196", #[], none⟩) (v := ?_) rfl (by kernel_rfl) (by kernel_rfl) (by kernel_rfl) (fun _ _ _ h => h) (by decide) opU rfl (by kernel_rfl) (by kernel_rfl) (Or.inl ⟨by kernel_rfl, ?_⟩) (by assumption) ?_
        rotate_left
        · (intro w hSw; (try dsimp only at hSw); obtain ⟨d1, d2, d3, d4⟩ := hSw; go_simp; try with_reducible rfl)
        try simp only [Act.put, setIfInBounds_toArray, set_cons_zero, set_cons_succ]
        refine Rb.till_take (i := 1) (oi := ⟨some 17, .load 22 (.tmp 16), 22, "make.go:196", #[⟨0, .data⟩], none⟩) (v := ?_) rfl (by kernel_rfl) (by kernel_rfl) (by kernel_rfl) (fun _ _ _ h => h) (by decide) opU rfl (by kernel_rfl) (by kernel_rfl) (Or.inl ⟨by kernel_rfl, ?_⟩) (by assumption) ?_
        rotate_left
        · (intro w hSw; (try dsimp only at hSw); obtain ⟨d1, d2, d3, d4⟩ := hSw; go_simp; try with_reducible rfl)
        try simp only [Act.put, setIfInBounds_toArray, set_cons_zero, set_cons_succ]
        refine Rb.till_take (i := 2) (oi := ⟨some 18, .fieldAddr 59 (.tmp 3) 0, 0, "make.go:196", #[], none⟩) (v := ?_) rfl (by kernel_rfl) (by kernel_rfl) (by kernel_rfl) (fun _ _ _ h => h) (by decide) opU rfl (by kernel_rfl) (by kernel_rfl) (Or.inl ⟨by kernel_rfl, ?_⟩) (by assumption) ?_
        rotate_left
        · (intro w hSw; (try dsimp only at hSw); obtain ⟨d1, d2, d3, d4⟩ := hSw; go_simp; try with_reducible rfl)
        try simp only [Act.put, setIfInBounds_toArray, set_cons_zero, set_cons_succ]
        refine Rb.till_take (i := 3) (oi := ⟨some 19, .load 22 (.tmp 18), 22, "make.go:196", #[⟨2, .data⟩], none⟩) (v := ?_) rfl (by kernel_rfl) (by kernel_rfl) (by kernel_rfl) (fun _ _ _ h => h) (by decide) opU rfl (by kernel_rfl) (by kernel_rfl) (Or.inl ⟨by kernel_rfl, ?_⟩) (by assumption) ?_
        rotate_left
        · (intro w hSw; (try dsimp only at hSw); obtain ⟨d1, d2, d3, d4⟩ := hSw; go_simp; try with_reducible rfl)
        try simp only [Act.put, setIfInBounds_toArray, set_cons_zero, set_cons_succ]
        refine Rb.till_take (i := 4) (oi := ⟨some 20, .move (.tmp 6), 3, "make.go:196", #[], none⟩) (v := ?_) rfl (by kernel_rfl) (by kernel_rfl) (by kernel_rfl) (fun _ _ _ h => h) (by decide) opU rfl (by kernel_rfl) (by kernel_rfl) (Or.inl ⟨by kernel_rfl, ?_⟩) (by assumption) ?_
        rotate_left
        · (intro w hSw; (try dsimp only at hSw); obtain ⟨d1, d2, d3, d4⟩ := hSw; go_simp; try with_reducible rfl)
        try simp only [Act.put, setIfInBounds_toArray, set_cons_zero, set_cons_succ]
        refine Rb.till_take (i := 5) (oi := ⟨some 21, .indexAddr 22 (.tmp 19) (.tmp 20), 0, "make.go:196", #[⟨3, .data⟩, ⟨4, .data⟩], none⟩) (v := ?_) rfl (by kernel_rfl) (by kernel_rfl) (by kernel_rfl) (fun _ _ _ h => h) (by decide) opU rfl (by kernel_rfl) (by kernel_rfl) (Or.inl ⟨by kernel_rfl, ?_⟩) (by assumption) ?_
        rotate_left
        · (intro w hSw; (try dsimp only at hSw); obtain ⟨d1, d2, d3, d4⟩ := hSw; go_simp; try with_reducible rfl)
        try simp only [Act.put, setIfInBounds_toArray, set_cons_zero, set_cons_succ]
        refine Rb.till_take (i := 6) (oi := ⟨some 22, .load 3 (.tmp 21), 3, "make.go:196", #[⟨5, .data⟩], none⟩) (v := ?_) rfl (by kernel_rfl) (by kernel_rfl) (by kernel_rfl) (fun _ _ _ h => h) (by decide) opU rfl (by kernel_rfl) (by kernel_rfl) (Or.inl ⟨by kernel_rfl, ?_⟩) (by assumption) ?_
        rotate_left
        · (intro w hSw; (try dsimp only at hSw); obtain ⟨d1, d2, d3, d4⟩ := hSw; go_simp; try with_reducible rfl)
        try simp only [Act.put, setIfInBounds_toArray, set_cons_zero, set_cons_succ]
        refine Rb.till_take (i := 7) (oi := ⟨some 23, .move (.tmp 7), 3, "make.go:196", #[], none⟩) (v := ?_) rfl (by kernel_rfl) (by kernel_rfl) (by kernel_rfl) (fun _ _ _ h => h) (by decide) opU rfl (by kernel_rfl) (by kernel_rfl) (Or.inl ⟨by kernel_rfl, ?_⟩) (by assumption) ?_
        rotate_left
        · (intro w hSw; (try dsimp only at hSw); obtain ⟨d1, d2, d3, d4⟩ := hSw; go_simp; try with_reducible rfl)
        try simp only [Act.put, setIfInBounds_toArray, set_cons_zero, set_cons_succ]
        refine Rb.till_take (i := 8) (oi := ⟨some 24, .binOp BinOp.sub 3 (.const (.int IntKind.i64 4)) (.tmp 23) 3, 3, "make.go:196", #[⟨7, .data⟩], none⟩) (v := ?_) rfl (by kernel_rfl) (by kernel_rfl) (by kernel_rfl) (fun _ _ _ h => h) (by decide) opU rfl (by kernel_rfl) (by kernel_rfl) (Or.inl ⟨by kernel_rfl, ?_⟩) (by assumption) ?_
        rotate_left
        · (intro w hSw; (try dsimp only at hSw); obtain ⟨d1, d2, d3, d4⟩ := hSw; go_simp; try with_reducible rfl)
        try simp only [Act.put, setIfInBounds_toArray, set_cons_zero, set_cons_succ]
        refine Rb.till_take (i := 9) (oi := ⟨some 25, .binOp BinOp.shr 3 (.tmp 22) (.tmp 24) 3, 3, "make.go:196", #[⟨6, .data⟩, ⟨8, .data⟩], none⟩) (v := ?_) rfl (by kernel_rfl) (by kernel_rfl) (by kernel_rfl) (fun _ _ _ h => h) (by decide) opU rfl (by kernel_rfl) (by kernel_rfl) (Or.inl ⟨by kernel_rfl, ?_⟩) (by assumption) ?_
        rotate_left
        · (intro w hSw; (try dsimp only at hSw); obtain ⟨d1, d2, d3, d4⟩ := hSw; go_simp; try with_reducible rfl)
        try simp only [Act.put, setIfInBounds_toArray, set_cons_zero, set_cons_succ]
        refine Rb.till_take (i := 12) (oi := ⟨some 28, .fieldAddr 59 (.tmp 5) 1, 0, "make.go:196", #[], none⟩) (v := ?_) rfl (by kernel_rfl) (by kernel_rfl) (by kernel_rfl) (fun _ _ _ h => h) (by decide) opU rfl (by kernel_rfl) (by kernel_rfl) (Or.inl ⟨by kernel_rfl, ?_⟩) (by assumption) ?_
        rotate_left
        · (intro w hSw; (try dsimp only at hSw); obtain ⟨d1, d2, d3, d4⟩ := hSw; go_simp; try with_reducible rfl)
        try simp only [Act.put, setIfInBounds_toArray, set_cons_zero, set_cons_succ]
        refine Rb.till_take (i := 13) (oi := ⟨some 29, .load 22 (.tmp 28), 22, "make.go:196", #[⟨12, .data⟩], none⟩) (v := ?_) rfl (by kernel_rfl) (by kernel_rfl) (by kernel_rfl) (fun _ _ _ h => h) (by decide) opU rfl (by kernel_rfl) (by kernel_rfl) (Or.inl ⟨by kernel_rfl, ?_⟩) (by assumption) ?_
        rotate_left
        · (intro w hSw; (try dsimp only at hSw); obtain ⟨d1, d2, d3, d4⟩ := hSw; go_simp; try with_reducible rfl)
        try simp only [Act.put, setIfInBounds_toArray, set_cons_zero, set_cons_succ]
        refine Rb.till_free (i := 14) (oi := ⟨some 30, .move (.tmp 7), 3, "make.go:196", #[], none⟩) (v := ?_) rfl (by kernel_rfl) (by kernel_rfl) (by kernel_rfl) (fun _ _ _ h => h) (by decide) (Or.inl ⟨by kernel_rfl, ?_⟩) (fun _ => by assumption) ?_
        rotate_left
        · (intro w hSw; clear hSw; go_simp; try with_reducible rfl)
        try simp only [Act.put, setIfInBounds_toArray, set_cons_zero, set_cons_succ]
        refine Rb.till_ready (rs := [10, 15]) (by kernel_rfl) (by simp) ?_
        refine Rb.AllT.cons (o := ⟨some 26, .buildSlice 22 1 #[(0, .tmp 25)], 22, "make.go:196", #[⟨9, .data⟩], none⟩) rfl (fun K hK => ?_) (Rb.AllT.cons (o := ⟨some 31, .buildSlice 22 1 #[(0, .tmp 30)], 22, "make.go:196", #[⟨14, .data⟩], none⟩) rfl (fun K hK => ?_) (Rb.AllT.nil))
        · go_simp
          try go_wp2_with fail
          refine hK.out _ _ ?_ (fun hH1 => ?_)
          · (try dsimp only); exact KS.out _ (HQ6.out.1.ch.tr (Ch.of_bel (by repeat (first | exact Bel.rf | with_reducible refine Bel.drwN ?_ _ | with_reducible refine Bel.drw ?_ | with_reducible refine Bel.al ?_ _)))) (HQ6.out.2.1.bel (by repeat (first | exact Bel.rf | with_reducible refine Bel.drwN ?_ _ | with_reducible refine Bel.drw ?_ | with_reducible refine Bel.al ?_ _))) (HQ6.out.2.2.2.bel (by repeat (first | exact Bel.rf | with_reducible refine Bel.drwN ?_ _ | with_reducible refine Bel.drw ?_ | with_reducible refine Bel.al ?_ _)))
          clear hK K hH0
          try simp only [Act.put, setIfInBounds_toArray, set_cons_zero, set_cons_succ]
          refine Rb.till_ready (rs := [11, 15]) (by kernel_rfl) (by simp) ?_
          refine Rb.AllT.cons (o := ⟨some 27, .call { callee := Callee.builtin Builtin.append, args := #[.tmp 17, .tmp 26], argTypes := #[22, 22] }, 22, "make.go:196", #[⟨1, .data⟩, ⟨10, .data⟩], none⟩) rfl (fun K hK => ?_) (Rb.AllT.cons (o := ⟨some 31, .buildSlice 22 1 #[(0, .tmp 30)], 22, "make.go:196", #[⟨14, .data⟩], none⟩) rfl (fun K hK => ?_) (Rb.AllT.nil))
          · refine step_app _ rfl (.tmp 17) (.tmp 26) rfl (w.heap.size + 1 + 1 + 1) u i S rfl (own_bel HQ6.out.1.ou (by repeat (first | exact Bel.rf | with_reducible refine Bel.drwN ?_ _ | with_reducible refine Bel.drw ?_ | with_reducible refine Bel.al ?_ _))) ⟨w6.heap.size, 0, none⟩ 1 1 [s] rfl (zi_bk (L := [s]) ((by repeat (first | (refine Bk.nq _ _ _ ?_; simp; done) | with_reducible refine Bk.drwN ?_ _ | with_reducible refine Bk.drw ?_ | with_reducible refine Bk.al ?_ _)) : Bk _ w6.heap.size 3 (zs [s]).toArray) 1 rfl) HI1.out (by have := HQ6.out.1.sz; simp; omega) ?_; intro v7 x7 h7 hg7 ha7; obtain ⟨A7, c7, hv7, _⟩ := own_any h7; subst hv7; have HQ7 : Hid (Wq g (w.heap.size + 1 + 1 + 1) w x7 (.slice A7 (i + 1) c7) v (i + 1) i (S ++ [s]) B ∧ Bk x7 w.heap.size 59 #[.slice (some ad) n fc, .slice bF n fd] ∧ Bk x7 (w.heap.size + 1) 59 #[.slice none 0 0, .slice none 0 0] ∧ Bk x7 (w.heap.size + 1 + 1) 59 #[u, v]) := ⟨(HQ6.out.1.up (by repeat (first | exact Bel.rf | with_reducible refine Bel.drwN ?_ _ | with_reducible refine Bel.drw ?_ | with_reducible refine Bel.al ?_ _))).ax h7 hg7 ha7, bk_grw (HQ6.out.2.1.bel (by repeat (first | exact Bel.rf | with_reducible refine Bel.drwN ?_ _ | with_reducible refine Bel.drw ?_ | with_reducible refine Bel.al ?_ _))) hg7 (fun e => by have := (HQ6.out.1.ou.lt _ e).1; omega), bk_grw (HQ6.out.2.2.1.bel (by repeat (first | exact Bel.rf | with_reducible refine Bel.drwN ?_ _ | with_reducible refine Bel.drw ?_ | with_reducible refine Bel.al ?_ _))) hg7 (fun e => by have := (HQ6.out.1.ou.lt _ e).1; omega), bk_grw (HQ6.out.2.2.2.bel (by repeat (first | exact Bel.rf | with_reducible refine Bel.drwN ?_ _ | with_reducible refine Bel.drw ?_ | with_reducible refine Bel.al ?_ _))) hg7 (fun e => by have := (HQ6.out.1.ou.lt _ e).1; omega)⟩; clear h7 hg7 ha7
            try go_wp2_with fail
            refine hK.out _ _ ?_ (fun hH2 => ?_)
            · (try dsimp only); exact KS.out _ (HQ7.out.1.ch.tr (Ch.of_bel (by repeat (first | exact Bel.rf | with_reducible refine Bel.drwN ?_ _ | with_reducible refine Bel.drw ?_ | with_reducible refine Bel.al ?_ _)))) (HQ7.out.2.1.bel (by repeat (first | exact Bel.rf | with_reducible refine Bel.drwN ?_ _ | with_reducible refine Bel.drw ?_ | with_reducible refine Bel.al ?_ _))) (HQ7.out.2.2.2.bel (by repeat (first | exact Bel.rf | with_reducible refine Bel.drwN ?_ _ | with_reducible refine Bel.drw ?_ | with_reducible refine Bel.al ?_ _)))
            clear hK K hH1
            try simp only [Act.put, setIfInBounds_toArray, set_cons_zero, set_cons_succ]
            refine Rb.till_take (i := 17) (oi := ⟨some 33, .fieldAddr 59 (.tmp 5) 0, 0, "make.go:196", #[⟨0, .phase⟩, ⟨1, .phase⟩, ⟨2, .phase⟩, ⟨3, .phase⟩, ⟨4, .phase⟩, ⟨5, .phase⟩, ⟨6, .phase⟩, ⟨7, .phase⟩, ⟨8, .phase⟩, ⟨9, .phase⟩, ⟨10, .phase⟩, ⟨11, .phase⟩, ⟨12, .phase⟩, ⟨13, .phase⟩, ⟨14, .textOnly Departure.lateStores⟩, ⟨15, .textOnly Departure.lateStores⟩, ⟨16, .textOnly Departure.lateStoresUnsure⟩], none⟩) (v := ?_) rfl (by kernel_rfl) (by kernel_rfl) (by kernel_rfl) (fun _ _ _ h => h) (by decide) opU rfl (by kernel_rfl) (by kernel_rfl) (Or.inl ⟨by kernel_rfl, ?_⟩) (by assumption) ?_
            rotate_left
            · (intro w hSw; (try dsimp only at hSw); obtain ⟨d1, d2, d3, d4⟩ := hSw; go_simp; try with_reducible rfl)
            try simp only [Act.put, setIfInBounds_toArray, set_cons_zero, set_cons_succ]
            refine Rb.till_ready (rs := [15]) (by kernel_rfl) (by simp) ?_
            refine Rb.AllT.cons (o := ⟨some 31, .buildSlice 22 1 #[(0, .tmp 30)], 22, "make.go:196", #[⟨14, .data⟩], none⟩) rfl (fun K hK => ?_) (Rb.AllT.nil)
            · go_simp
              try go_wp2_with fail
              refine hK.out _ _ ?_ (fun hH3 => ?_)
              · (try dsimp only); exact KS.out _ (HQ7.out.1.ch.tr (Ch.of_bel (by repeat (first | exact Bel.rf | with_reducible refine Bel.drwN ?_ _ | with_reducible refine Bel.drw ?_ | with_reducible refine Bel.al ?_ _)))) (HQ7.out.2.1.bel (by repeat (first | exact Bel.rf | with_reducible refine Bel.drwN ?_ _ | with_reducible refine Bel.drw ?_ | with_reducible refine Bel.al ?_ _))) (HQ7.out.2.2.2.bel (by repeat (first | exact Bel.rf | with_reducible refine Bel.drwN ?_ _ | with_reducible refine Bel.drw ?_ | with_reducible refine Bel.al ?_ _)))
              clear hK K hH2
              try simp only [Act.put, setIfInBounds_toArray, set_cons_zero, set_cons_succ]
              refine Rb.till_ready (rs := [16]) (by kernel_rfl) (by simp) ?_
              refine Rb.AllT.cons (o := ⟨some 32, .call { callee := Callee.builtin Builtin.append, args := #[.tmp 29, .tmp 31], argTypes := #[22, 22] }, 22, "make.go:196", #[⟨13, .data⟩, ⟨15, .data⟩, ⟨11, .chain⟩], none⟩) rfl (fun K hK => ?_) (Rb.AllT.nil)
              · refine step_app _ rfl (.tmp 29) (.tmp 31) rfl (w.heap.size + 1 + 1 + 1) v i B rfl (own_bel HQ7.out.1.ov (by repeat (first | exact Bel.rf | with_reducible refine Bel.drwN ?_ _ | with_reducible refine Bel.drw ?_ | with_reducible refine Bel.al ?_ _))) ⟨x7.heap.size, 0, none⟩ 1 1 [1] rfl (zi_bk (L := [1]) ((by repeat (first | (refine Bk.nq _ _ _ ?_; simp; done) | with_reducible refine Bk.drwN ?_ _ | with_reducible refine Bk.drw ?_ | with_reducible refine Bk.al ?_ _)) : Bk _ x7.heap.size 3 (zs [1]).toArray) 1 rfl) HI1.out (by have := HQ7.out.1.sz; simp; omega) ?_; intro v12 x12 h12 hg12 ha12; obtain ⟨A12, c12, hv12, _⟩ := own_any h12; subst hv12; have HQ12 : Hid (Wq g (w.heap.size + 1 + 1 + 1) w x12 (.slice A7 (i + 1) c7) (.slice A12 (i + 1) c12) (i + 1) (i + 1) (S ++ [s]) (B ++ [1]) ∧ Bk x12 w.heap.size 59 #[.slice (some ad) n fc, .slice bF n fd] ∧ Bk x12 (w.heap.size + 1) 59 #[.slice none 0 0, .slice none 0 0] ∧ Bk x12 (w.heap.size + 1 + 1) 59 #[u, v]) := ⟨((HQ7.out.1.up (by repeat (first | exact Bel.rf | with_reducible refine Bel.drwN ?_ _ | with_reducible refine Bel.drw ?_ | with_reducible refine Bel.al ?_ _))).sx.ax h12 hg12 ha12).sx, bk_grw (HQ7.out.2.1.bel (by repeat (first | exact Bel.rf | with_reducible refine Bel.drwN ?_ _ | with_reducible refine Bel.drw ?_ | with_reducible refine Bel.al ?_ _))) hg12 (fun e => by have := (HQ7.out.1.ov.lt _ e).1; omega), bk_grw (HQ7.out.2.2.1.bel (by repeat (first | exact Bel.rf | with_reducible refine Bel.drwN ?_ _ | with_reducible refine Bel.drw ?_ | with_reducible refine Bel.al ?_ _))) hg12 (fun e => by have := (HQ7.out.1.ov.lt _ e).1; omega), bk_grw (HQ7.out.2.2.2.bel (by repeat (first | exact Bel.rf | with_reducible refine Bel.drwN ?_ _ | with_reducible refine Bel.drw ?_ | with_reducible refine Bel.al ?_ _))) hg12 (fun e => by have := (HQ7.out.1.ov.lt _ e).1; omega)⟩; have y0 := HQ12.out.2.2.2.cell 0; have y1 := HQ12.out.2.2.2.cell 1; have z0 := HQ12.out.2.2.2.fr 0; have z1 := HQ12.out.2.2.2.fr 1; simp only [List.getElem?_toArray, List.getElem?_cons_zero, List.getElem?_cons_succ] at y0 y1; clear h12 hg12 ha12
                try go_wp2_with fail
                refine hK.out _ _ ?_ (fun hH4 => ?_)
                · (try dsimp only); exact KS.out _ (HQ12.out.1.ch.tr (Ch.of_bel (by repeat (first | exact Bel.rf | with_reducible refine Bel.drwN ?_ _ | with_reducible refine Bel.drw ?_ | with_reducible refine Bel.al ?_ _)))) (HQ12.out.2.1.bel (by repeat (first | exact Bel.rf | with_reducible refine Bel.drwN ?_ _ | with_reducible refine Bel.drw ?_ | with_reducible refine Bel.al ?_ _))) (HQ12.out.2.2.2.bel (by repeat (first | exact Bel.rf | with_reducible refine Bel.drwN ?_ _ | with_reducible refine Bel.drw ?_ | with_reducible refine Bel.al ?_ _)))
                clear hK K hH3
                try simp only [Act.put, setIfInBounds_toArray, set_cons_zero, set_cons_succ]
                refine Rb.till_ready (rs := [18]) (by kernel_rfl) (by simp) ?_
                refine Rb.AllT.past (o := ⟨none, .store 22 (.tmp 33) (.tmp 27), 0, "make.go:196", #[⟨17, .data⟩, ⟨11, .data⟩, ⟨16, .chain⟩, ⟨0, .phase⟩, ⟨1, .phase⟩, ⟨2, .phase⟩, ⟨3, .phase⟩, ⟨4, .phase⟩, ⟨5, .phase⟩, ⟨6, .phase⟩, ⟨7, .phase⟩, ⟨8, .phase⟩, ⟨9, .phase⟩, ⟨10, .phase⟩, ⟨11, .phase⟩, ⟨12, .phase⟩, ⟨13, .phase⟩, ⟨14, .textOnly Departure.lateStores⟩, ⟨15, .textOnly Departure.lateStores⟩, ⟨16, .textOnly Departure.lateStoresUnsure⟩], none⟩) rfl (by kernel_rfl) (fun K hK => ?_) (Rb.AllT.nil)
                · go_simp
                  try go_wp2_with fail
                  refine hK.out _ _ trivial (fun hH5 => ?_)
                  clear hK K hH4
                  try simp only [Act.put, setIfInBounds_toArray, set_cons_zero, set_cons_succ]
                  refine Rb.till_free (i := 19) (oi := ⟨some 34, .fieldAddr 59 (.tmp 5) 1, 0, "make.go:196", #[⟨0, .phase⟩, ⟨1, .phase⟩, ⟨2, .phase⟩, ⟨3, .phase⟩, ⟨4, .phase⟩, ⟨5, .phase⟩, ⟨6, .phase⟩, ⟨7, .phase⟩, ⟨8, .phase⟩, ⟨9, .phase⟩, ⟨10, .phase⟩, ⟨11, .phase⟩, ⟨12, .phase⟩, ⟨13, .phase⟩, ⟨14, .phase⟩, ⟨15, .phase⟩, ⟨16, .phase⟩, ⟨17, .phase⟩, ⟨18, .phase⟩], none⟩) (v := ?_) rfl (by kernel_rfl) (by kernel_rfl) (by kernel_rfl) (fun _ _ _ h => h) (by decide) (Or.inl ⟨by kernel_rfl, ?_⟩) (fun h => absurd h (by decide)) ?_
                  rotate_left
                  · (intro w hSw; clear hSw; go_simp; try with_reducible rfl)
                  try simp only [Act.put, setIfInBounds_toArray, set_cons_zero, set_cons_succ]
                  refine Rb.till_ready (rs := [20]) (by kernel_rfl) (by simp) ?_
                  refine Rb.AllT.past (o := ⟨none, .store 22 (.tmp 34) (.tmp 32), 0, "make.go:196", #[⟨19, .data⟩, ⟨16, .data⟩, ⟨18, .chain⟩, ⟨0, .phase⟩, ⟨1, .phase⟩, ⟨2, .phase⟩, ⟨3, .phase⟩, ⟨4, .phase⟩, ⟨5, .phase⟩, ⟨6, .phase⟩, ⟨7, .phase⟩, ⟨8, .phase⟩, ⟨9, .phase⟩, ⟨10, .phase⟩, ⟨11, .phase⟩, ⟨12, .phase⟩, ⟨13, .phase⟩, ⟨14, .phase⟩, ⟨15, .phase⟩, ⟨16, .phase⟩, ⟨17, .phase⟩, ⟨18, .phase⟩], none⟩) rfl (by kernel_rfl) (fun K hK => ?_) (Rb.AllT.nil)
                  · go_simp
                    try go_wp2_with fail
                    refine hK.out _ _ trivial (fun hH6 => ?_)
                    clear hK K hH5
                    try simp only [Act.put, setIfInBounds_toArray, set_cons_zero, set_cons_succ]
                    refine Rb.till_done (by kernel_rfl) ?_ _
                    refine NoPanic.normal ?_
                    have HFL : Hid (Gd (i + 1) (S ++ [s]) (B ++ [1]) ∧ Us (i + 1) F (S ++ [s]) (B ++ [1]) ∧ Wq g (w.heap.size + 1 + 1 + 1) w ((x12.setCell ⟨w.heap.size + 1 + 1, 0, none⟩ (.slice A7 (i + 1) c7)).setCell ⟨w.heap.size + 1 + 1, 1, none⟩ (.slice A12 (i + 1) c12)) (.slice A7 (i + 1) c7) (.slice A12 (i + 1) c12) (i + 1) (i + 1) (S ++ [s]) (B ++ [1]) ∧ Bk ((x12.setCell ⟨w.heap.size + 1 + 1, 0, none⟩ (.slice A7 (i + 1) c7)).setCell ⟨w.heap.size + 1 + 1, 1, none⟩ (.slice A12 (i + 1) c12)) w.heap.size 59 #[.slice (some ad) n fc, .slice bF n fd] ∧ Bk ((x12.setCell ⟨w.heap.size + 1 + 1, 0, none⟩ (.slice A7 (i + 1) c7)).setCell ⟨w.heap.size + 1 + 1, 1, none⟩ (.slice A12 (i + 1) c12)) (w.heap.size + 1) 59 #[.slice none 0 0, .slice none 0 0] ∧ Bk ((x12.setCell ⟨w.heap.size + 1 + 1, 0, none⟩ (.slice A7 (i + 1) c7)).setCell ⟨w.heap.size + 1 + 1, 1, none⟩ (.slice A12 (i + 1) c12)) (w.heap.size + 1 + 1) 59 #[.slice A7 (i + 1) c7, .slice A12 (i + 1) c12]) := ⟨gd_snoc HGD.out (by decide) (by decide) HS5.out.1 HS5.out.2.1, us_snoc HUS.out HGD.out.1 HGD.out.2.1 HS5.out.2.2, (HQ12.out.1.st (by omega) (by omega) (by have := HGB.out; omega) _ _).st (by omega) (by omega) (by have := HGB.out; omega) _ _, (HQ12.out.2.1.far (by dsimp only; omega) _).far (by dsimp only; omega) _, (HQ12.out.2.2.1.far (by dsimp only; omega) _).far (by dsimp only; omega) _, (HQ12.out.2.2.2.st 0 _).st 1 _⟩
                    go_wp2_with fail
                    go_roundw
                    case rel => exact ⟨i + 1, _, _, _, _, _, rfl, by go_num, by omega, HFL.out.1, HFL.out.2.1, HFL.out.2.2.1, HFL.out.2.2.2.1, HFL.out.2.2.2.2.1, HFL.out.2.2.2.2.2⟩
                    case measure => simp [intOf]; omega
          · go_simp
            try go_wp2_with fail
            refine hK.out _ _ ?_ (fun hH2 => ?_)
            · (try dsimp only); exact KS.out _ (HQ6.out.1.ch.tr (Ch.of_bel (by repeat (first | exact Bel.rf | with_reducible refine Bel.drwN ?_ _ | with_reducible refine Bel.drw ?_ | with_reducible refine Bel.al ?_ _)))) (HQ6.out.2.1.bel (by repeat (first | exact Bel.rf | with_reducible refine Bel.drwN ?_ _ | with_reducible refine Bel.drw ?_ | with_reducible refine Bel.al ?_ _))) (HQ6.out.2.2.2.bel (by repeat (first | exact Bel.rf | with_reducible refine Bel.drwN ?_ _ | with_reducible refine Bel.drw ?_ | with_reducible refine Bel.al ?_ _)))
            clear hK K hH1
            try simp only [Act.put, setIfInBounds_toArray, set_cons_zero, set_cons_succ]
            refine Rb.till_ready (rs := [11]) (by kernel_rfl) (by simp) ?_
            refine Rb.AllT.cons (o := ⟨some 27, .call { callee := Callee.builtin Builtin.append, args := #[.tmp 17, .tmp 26], argTypes := #[22, 22] }, 22, "make.go:196", #[⟨1, .data⟩, ⟨10, .data⟩], none⟩) rfl (fun K hK => ?_) (Rb.AllT.nil)
            · refine step_app _ rfl (.tmp 17) (.tmp 26) rfl (w.heap.size + 1 + 1 + 1) u i S rfl (own_bel HQ6.out.1.ou (by repeat (first | exact Bel.rf | with_reducible refine Bel.drwN ?_ _ | with_reducible refine Bel.drw ?_ | with_reducible refine Bel.al ?_ _))) ⟨w6.heap.size, 0, none⟩ 1 1 [s] rfl (zi_bk (L := [s]) ((by repeat (first | (refine Bk.nq _ _ _ ?_; simp; done) | with_reducible refine Bk.drwN ?_ _ | with_reducible refine Bk.drw ?_ | with_reducible refine Bk.al ?_ _)) : Bk _ w6.heap.size 3 (zs [s]).toArray) 1 rfl) HI1.out (by have := HQ6.out.1.sz; simp; omega) ?_; intro v7 x7 h7 hg7 ha7; obtain ⟨A7, c7, hv7, _⟩ := own_any h7; subst hv7; have HQ7 : Hid (Wq g (w.heap.size + 1 + 1 + 1) w x7 (.slice A7 (i + 1) c7) v (i + 1) i (S ++ [s]) B ∧ Bk x7 w.heap.size 59 #[.slice (some ad) n fc, .slice bF n fd] ∧ Bk x7 (w.heap.size + 1) 59 #[.slice none 0 0, .slice none 0 0] ∧ Bk x7 (w.heap.size + 1 + 1) 59 #[u, v]) := ⟨(HQ6.out.1.up (by repeat (first | exact Bel.rf | with_reducible refine Bel.drwN ?_ _ | with_reducible refine Bel.drw ?_ | with_reducible refine Bel.al ?_ _))).ax h7 hg7 ha7, bk_grw (HQ6.out.2.1.bel (by repeat (first | exact Bel.rf | with_reducible refine Bel.drwN ?_ _ | with_reducible refine Bel.drw ?_ | with_reducible refine Bel.al ?_ _))) hg7 (fun e => by have := (HQ6.out.1.ou.lt _ e).1; omega), bk_grw (HQ6.out.2.2.1.bel (by repeat (first | exact Bel.rf | with_reducible refine Bel.drwN ?_ _ | with_reducible refine Bel.drw ?_ | with_reducible refine Bel.al ?_ _))) hg7 (fun e => by have := (HQ6.out.1.ou.lt _ e).1; omega), bk_grw (HQ6.out.2.2.2.bel (by repeat (first | exact Bel.rf | with_reducible refine Bel.drwN ?_ _ | with_reducible refine Bel.drw ?_ | with_reducible refine Bel.al ?_ _))) hg7 (fun e => by have := (HQ6.out.1.ou.lt _ e).1; omega)⟩; have HX7 : Hid (Bk x7 (w6.heap.size + 1) 3 (zs [1]).toArray) := bk_grw ((by repeat (first | (refine Bk.nq _ _ _ ?_; simp; done) | with_reducible refine Bk.drwN ?_ _ | with_reducible refine Bk.drw ?_ | with_reducible refine Bk.al ?_ _)) : Bk _ (w6.heap.size + 1) 3 (zs [1]).toArray) hg7 (fun e => by have := HB6.out _ e; omega); clear h7 hg7 ha7
              try go_wp2_with fail
              refine hK.out _ _ ?_ (fun hH3 => ?_)
              · (try dsimp only); exact KS.out _ (HQ7.out.1.ch.tr (Ch.of_bel (by repeat (first | exact Bel.rf | with_reducible refine Bel.drwN ?_ _ | with_reducible refine Bel.drw ?_ | with_reducible refine Bel.al ?_ _)))) (HQ7.out.2.1.bel (by repeat (first | exact Bel.rf | with_reducible refine Bel.drwN ?_ _ | with_reducible refine Bel.drw ?_ | with_reducible refine Bel.al ?_ _))) (HQ7.out.2.2.2.bel (by repeat (first | exact Bel.rf | with_reducible refine Bel.drwN ?_ _ | with_reducible refine Bel.drw ?_ | with_reducible refine Bel.al ?_ _)))
              clear hK K hH2
              try simp only [Act.put, setIfInBounds_toArray, set_cons_zero, set_cons_succ]
              refine Rb.till_take (i := 17) (oi := ⟨some 33, .fieldAddr 59 (.tmp 5) 0, 0, "make.go:196", #[⟨0, .phase⟩, ⟨1, .phase⟩, ⟨2, .phase⟩, ⟨3, .phase⟩, ⟨4, .phase⟩, ⟨5, .phase⟩, ⟨6, .phase⟩, ⟨7, .phase⟩, ⟨8, .phase⟩, ⟨9, .phase⟩, ⟨10, .phase⟩, ⟨11, .phase⟩, ⟨12, .phase⟩, ⟨13, .phase⟩, ⟨14, .textOnly Departure.lateStores⟩, ⟨15, .textOnly Departure.lateStores⟩, ⟨16, .textOnly Departure.lateStoresUnsure⟩], none⟩) (v := ?_) rfl (by kernel_rfl) (by kernel_rfl) (by kernel_rfl) (fun _ _ _ h => h) (by decide) opU rfl (by kernel_rfl) (by kernel_rfl) (Or.inl ⟨by kernel_rfl, ?_⟩) (by assumption) ?_
              rotate_left
              · (intro w hSw; (try dsimp only at hSw); obtain ⟨d1, d2, d3, d4⟩ := hSw; go_simp; try with_reducible rfl)
              try simp only [Act.put, setIfInBounds_toArray, set_cons_zero, set_cons_succ]
              refine Rb.till_ready (rs := [16]) (by kernel_rfl) (by simp) ?_
              refine Rb.AllT.cons (o := ⟨some 32, .call { callee := Callee.builtin Builtin.append, args := #[.tmp 29, .tmp 31], argTypes := #[22, 22] }, 22, "make.go:196", #[⟨13, .data⟩, ⟨15, .data⟩, ⟨11, .chain⟩], none⟩) rfl (fun K hK => ?_) (Rb.AllT.nil)
              · refine step_app _ rfl (.tmp 29) (.tmp 31) rfl (w.heap.size + 1 + 1 + 1) v i B rfl (own_bel HQ7.out.1.ov (by repeat (first | exact Bel.rf | with_reducible refine Bel.drwN ?_ _ | with_reducible refine Bel.drw ?_ | with_reducible refine Bel.al ?_ _))) ⟨w6.heap.size + 1, 0, none⟩ 1 1 [1] rfl (zi_bk (L := [1]) (HX7.out.bel (by repeat (first | exact Bel.rf | with_reducible refine Bel.drwN ?_ _ | with_reducible refine Bel.drw ?_ | with_reducible refine Bel.al ?_ _))) 1 rfl) HI1.out (by have := HQ7.out.1.sz; simp; omega) ?_; intro v12 x12 h12 hg12 ha12; obtain ⟨A12, c12, hv12, _⟩ := own_any h12; subst hv12; have HQ12 : Hid (Wq g (w.heap.size + 1 + 1 + 1) w x12 (.slice A7 (i + 1) c7) (.slice A12 (i + 1) c12) (i + 1) (i + 1) (S ++ [s]) (B ++ [1]) ∧ Bk x12 w.heap.size 59 #[.slice (some ad) n fc, .slice bF n fd] ∧ Bk x12 (w.heap.size + 1) 59 #[.slice none 0 0, .slice none 0 0] ∧ Bk x12 (w.heap.size + 1 + 1) 59 #[u, v]) := ⟨((HQ7.out.1.up (by repeat (first | exact Bel.rf | with_reducible refine Bel.drwN ?_ _ | with_reducible refine Bel.drw ?_ | with_reducible refine Bel.al ?_ _))).sx.ax h12 hg12 ha12).sx, bk_grw (HQ7.out.2.1.bel (by repeat (first | exact Bel.rf | with_reducible refine Bel.drwN ?_ _ | with_reducible refine Bel.drw ?_ | with_reducible refine Bel.al ?_ _))) hg12 (fun e => by have := (HQ7.out.1.ov.lt _ e).1; omega), bk_grw (HQ7.out.2.2.1.bel (by repeat (first | exact Bel.rf | with_reducible refine Bel.drwN ?_ _ | with_reducible refine Bel.drw ?_ | with_reducible refine Bel.al ?_ _))) hg12 (fun e => by have := (HQ7.out.1.ov.lt _ e).1; omega), bk_grw (HQ7.out.2.2.2.bel (by repeat (first | exact Bel.rf | with_reducible refine Bel.drwN ?_ _ | with_reducible refine Bel.drw ?_ | with_reducible refine Bel.al ?_ _))) hg12 (fun e => by have := (HQ7.out.1.ov.lt _ e).1; omega)⟩; have y0 := HQ12.out.2.2.2.cell 0; have y1 := HQ12.out.2.2.2.cell 1; have z0 := HQ12.out.2.2.2.fr 0; have z1 := HQ12.out.2.2.2.fr 1; simp only [List.getElem?_toArray, List.getElem?_cons_zero, List.getElem?_cons_succ] at y0 y1; clear h12 hg12 ha12
                try go_wp2_with fail
                refine hK.out _ _ ?_ (fun hH4 => ?_)
                · (try dsimp only); exact KS.out _ (HQ12.out.1.ch.tr (Ch.of_bel (by repeat (first | exact Bel.rf | with_reducible refine Bel.drwN ?_ _ | with_reducible refine Bel.drw ?_ | with_reducible refine Bel.al ?_ _)))) (HQ12.out.2.1.bel (by repeat (first | exact Bel.rf | with_reducible refine Bel.drwN ?_ _ | with_reducible refine Bel.drw ?_ | with_reducible refine Bel.al ?_ _))) (HQ12.out.2.2.2.bel (by repeat (first | exact Bel.rf | with_reducible refine Bel.drwN ?_ _ | with_reducible refine Bel.drw ?_ | with_reducible refine Bel.al ?_ _)))
                clear hK K hH3
                try simp only [Act.put, setIfInBounds_toArray, set_cons_zero, set_cons_succ]
                refine Rb.till_ready (rs := [18]) (by kernel_rfl) (by simp) ?_
                refine Rb.AllT.past (o := ⟨none, .store 22 (.tmp 33) (.tmp 27), 0, "make.go:196", #[⟨17, .data⟩, ⟨11, .data⟩, ⟨16, .chain⟩, ⟨0, .phase⟩, ⟨1, .phase⟩, ⟨2, .phase⟩, ⟨3, .phase⟩, ⟨4, .phase⟩, ⟨5, .phase⟩, ⟨6, .phase⟩, ⟨7, .phase⟩, ⟨8, .phase⟩, ⟨9, .phase⟩, ⟨10, .phase⟩, ⟨11, .phase⟩, ⟨12, .phase⟩, ⟨13, .phase⟩, ⟨14, .textOnly Departure.lateStores⟩, ⟨15, .textOnly Departure.lateStores⟩, ⟨16, .textOnly Departure.lateStoresUnsure⟩], none⟩) rfl (by kernel_rfl) (fun K hK => ?_) (Rb.AllT.nil)
                · go_simp
                  try go_wp2_with fail
                  refine hK.out _ _ trivial (fun hH5 => ?_)
                  clear hK K hH4
                  try simp only [Act.put, setIfInBounds_toArray, set_cons_zero, set_cons_succ]
                  refine Rb.till_free (i := 19) (oi := ⟨some 34, .fieldAddr 59 (.tmp 5) 1, 0, "make.go:196", #[⟨0, .phase⟩, ⟨1, .phase⟩, ⟨2, .phase⟩, ⟨3, .phase⟩, ⟨4, .phase⟩, ⟨5, .phase⟩, ⟨6, .phase⟩, ⟨7, .phase⟩, ⟨8, .phase⟩, ⟨9, .phase⟩, ⟨10, .phase⟩, ⟨11, .phase⟩, ⟨12, .phase⟩, ⟨13, .phase⟩, ⟨14, .phase⟩, ⟨15, .phase⟩, ⟨16, .phase⟩, ⟨17, .phase⟩, ⟨18, .phase⟩], none⟩) (v := ?_) rfl (by kernel_rfl) (by kernel_rfl) (by kernel_rfl) (fun _ _ _ h => h) (by decide) (Or.inl ⟨by kernel_rfl, ?_⟩) (fun h => absurd h (by decide)) ?_
                  rotate_left
                  · (intro w hSw; clear hSw; go_simp; try with_reducible rfl)
                  try simp only [Act.put, setIfInBounds_toArray, set_cons_zero, set_cons_succ]
                  refine Rb.till_ready (rs := [20]) (by kernel_rfl) (by simp) ?_
                  refine Rb.AllT.past (o := ⟨none, .store 22 (.tmp 34) (.tmp 32), 0, "make.go:196", #[⟨19, .data⟩, ⟨16, .data⟩, ⟨18, .chain⟩, ⟨0, .phase⟩, ⟨1, .phase⟩, ⟨2, .phase⟩, ⟨3, .phase⟩, ⟨4, .phase⟩, ⟨5, .phase⟩, ⟨6, .phase⟩, ⟨7, .phase⟩, ⟨8, .phase⟩, ⟨9, .phase⟩, ⟨10, .phase⟩, ⟨11, .phase⟩, ⟨12, .phase⟩, ⟨13, .phase⟩, ⟨14, .phase⟩, ⟨15, .phase⟩, ⟨16, .phase⟩, ⟨17, .phase⟩, ⟨18, .phase⟩], none⟩) rfl (by kernel_rfl) (fun K hK => ?_) (Rb.AllT.nil)
                  · go_simp
                    try go_wp2_with fail
                    refine hK.out _ _ trivial (fun hH6 => ?_)
                    clear hK K hH5
                    try simp only [Act.put, setIfInBounds_toArray, set_cons_zero, set_cons_succ]
                    refine Rb.till_done (by kernel_rfl) ?_ _
                    refine NoPanic.normal ?_
                    have HFL : Hid (Gd (i + 1) (S ++ [s]) (B ++ [1]) ∧ Us (i + 1) F (S ++ [s]) (B ++ [1]) ∧ Wq g (w.heap.size + 1 + 1 + 1) w ((x12.setCell ⟨w.heap.size + 1 + 1, 0, none⟩ (.slice A7 (i + 1) c7)).setCell ⟨w.heap.size + 1 + 1, 1, none⟩ (.slice A12 (i + 1) c12)) (.slice A7 (i + 1) c7) (.slice A12 (i + 1) c12) (i + 1) (i + 1) (S ++ [s]) (B ++ [1]) ∧ Bk ((x12.setCell ⟨w.heap.size + 1 + 1, 0, none⟩ (.slice A7 (i + 1) c7)).setCell ⟨w.heap.size + 1 + 1, 1, none⟩ (.slice A12 (i + 1) c12)) w.heap.size 59 #[.slice (some ad) n fc, .slice bF n fd] ∧ Bk ((x12.setCell ⟨w.heap.size + 1 + 1, 0, none⟩ (.slice A7 (i + 1) c7)).setCell ⟨w.heap.size + 1 + 1, 1, none⟩ (.slice A12 (i + 1) c12)) (w.heap.size + 1) 59 #[.slice none 0 0, .slice none 0 0] ∧ Bk ((x12.setCell ⟨w.heap.size + 1 + 1, 0, none⟩ (.slice A7 (i + 1) c7)).setCell ⟨w.heap.size + 1 + 1, 1, none⟩ (.slice A12 (i + 1) c12)) (w.heap.size + 1 + 1) 59 #[.slice A7 (i + 1) c7, .slice A12 (i + 1) c12]) := ⟨gd_snoc HGD.out (by decide) (by decide) HS5.out.1 HS5.out.2.1, us_snoc HUS.out HGD.out.1 HGD.out.2.1 HS5.out.2.2, (HQ12.out.1.st (by omega) (by omega) (by have := HGB.out; omega) _ _).st (by omega) (by omega) (by have := HGB.out; omega) _ _, (HQ12.out.2.1.far (by dsimp only; omega) _).far (by dsimp only; omega) _, (HQ12.out.2.2.1.far (by dsimp only; omega) _).far (by dsimp only; omega) _, (HQ12.out.2.2.2.st 0 _).st 1 _⟩
                    go_wp2_with fail
                    go_roundw
                    case rel => exact ⟨i + 1, _, _, _, _, _, rfl, by go_num, by omega, HFL.out.1, HFL.out.2.1, HFL.out.2.2.1, HFL.out.2.2.2.1, HFL.out.2.2.2.2.1, HFL.out.2.2.2.2.2⟩
                    case measure => simp [intOf]; omega
        · go_simp
          try go_wp2_with fail
          refine hK.out _ _ ?_ (fun hH1 => ?_)
          · (try dsimp only); exact KS.out _ (HQ6.out.1.ch.tr (Ch.of_bel (by repeat (first | exact Bel.rf | with_reducible refine Bel.drwN ?_ _ | with_reducible refine Bel.drw ?_ | with_reducible refine Bel.al ?_ _)))) (HQ6.out.2.1.bel (by repeat (first | exact Bel.rf | with_reducible refine Bel.drwN ?_ _ | with_reducible refine Bel.drw ?_ | with_reducible refine Bel.al ?_ _))) (HQ6.out.2.2.2.bel (by repeat (first | exact Bel.rf | with_reducible refine Bel.drwN ?_ _ | with_reducible refine Bel.drw ?_ | with_reducible refine Bel.al ?_ _)))
          clear hK K hH0
          try simp only [Act.put, setIfInBounds_toArray, set_cons_zero, set_cons_succ]
          refine Rb.till_ready (rs := [10]) (by kernel_rfl) (by simp) ?_
          refine Rb.AllT.cons (o := ⟨some 26, .buildSlice 22 1 #[(0, .tmp 25)], 22, "make.go:196", #[⟨9, .data⟩], none⟩) rfl (fun K hK => ?_) (Rb.AllT.nil)
          · go_simp
            try go_wp2_with fail
            refine hK.out _ _ ?_ (fun hH2 => ?_)
            · (try dsimp only); exact KS.out _ (HQ6.out.1.ch.tr (Ch.of_bel (by repeat (first | exact Bel.rf | with_reducible refine Bel.drwN ?_ _ | with_reducible refine Bel.drw ?_ | with_reducible refine Bel.al ?_ _)))) (HQ6.out.2.1.bel (by repeat (first | exact Bel.rf | with_reducible refine Bel.drwN ?_ _ | with_reducible refine Bel.drw ?_ | with_reducible refine Bel.al ?_ _))) (HQ6.out.2.2.2.bel (by repeat (first | exact Bel.rf | with_reducible refine Bel.drwN ?_ _ | with_reducible refine Bel.drw ?_ | with_reducible refine Bel.al ?_ _)))
            clear hK K hH1
            try simp only [Act.put, setIfInBounds_toArray, set_cons_zero, set_cons_succ]
            refine Rb.till_ready (rs := [11]) (by kernel_rfl) (by simp) ?_
            refine Rb.AllT.cons (o := ⟨some 27, .call { callee := Callee.builtin Builtin.append, args := #[.tmp 17, .tmp 26], argTypes := #[22, 22] }, 22, "make.go:196", #[⟨1, .data⟩, ⟨10, .data⟩], none⟩) rfl (fun K hK => ?_) (Rb.AllT.nil)
            · refine step_app _ rfl (.tmp 17) (.tmp 26) rfl (w.heap.size + 1 + 1 + 1) u i S rfl (own_bel HQ6.out.1.ou (by repeat (first | exact Bel.rf | with_reducible refine Bel.drwN ?_ _ | with_reducible refine Bel.drw ?_ | with_reducible refine Bel.al ?_ _))) ⟨w6.heap.size + 1, 0, none⟩ 1 1 [s] rfl (zi_bk (L := [s]) ((by repeat (first | (refine Bk.nq _ _ _ ?_; simp; done) | with_reducible refine Bk.drwN ?_ _ | with_reducible refine Bk.drw ?_ | with_reducible refine Bk.al ?_ _)) : Bk _ (w6.heap.size + 1) 3 (zs [s]).toArray) 1 rfl) HI1.out (by have := HQ6.out.1.sz; simp; omega) ?_; intro v7 x7 h7 hg7 ha7; obtain ⟨A7, c7, hv7, _⟩ := own_any h7; subst hv7; have HQ7 : Hid (Wq g (w.heap.size + 1 + 1 + 1) w x7 (.slice A7 (i + 1) c7) v (i + 1) i (S ++ [s]) B ∧ Bk x7 w.heap.size 59 #[.slice (some ad) n fc, .slice bF n fd] ∧ Bk x7 (w.heap.size + 1) 59 #[.slice none 0 0, .slice none 0 0] ∧ Bk x7 (w.heap.size + 1 + 1) 59 #[u, v]) := ⟨(HQ6.out.1.up (by repeat (first | exact Bel.rf | with_reducible refine Bel.drwN ?_ _ | with_reducible refine Bel.drw ?_ | with_reducible refine Bel.al ?_ _))).ax h7 hg7 ha7, bk_grw (HQ6.out.2.1.bel (by repeat (first | exact Bel.rf | with_reducible refine Bel.drwN ?_ _ | with_reducible refine Bel.drw ?_ | with_reducible refine Bel.al ?_ _))) hg7 (fun e => by have := (HQ6.out.1.ou.lt _ e).1; omega), bk_grw (HQ6.out.2.2.1.bel (by repeat (first | exact Bel.rf | with_reducible refine Bel.drwN ?_ _ | with_reducible refine Bel.drw ?_ | with_reducible refine Bel.al ?_ _))) hg7 (fun e => by have := (HQ6.out.1.ou.lt _ e).1; omega), bk_grw (HQ6.out.2.2.2.bel (by repeat (first | exact Bel.rf | with_reducible refine Bel.drwN ?_ _ | with_reducible refine Bel.drw ?_ | with_reducible refine Bel.al ?_ _))) hg7 (fun e => by have := (HQ6.out.1.ou.lt _ e).1; omega)⟩; have HX7 : Hid (Bk x7 w6.heap.size 3 (zs [1]).toArray) := bk_grw ((by repeat (first | (refine Bk.nq _ _ _ ?_; simp; done) | with_reducible refine Bk.drwN ?_ _ | with_reducible refine Bk.drw ?_ | with_reducible refine Bk.al ?_ _)) : Bk _ w6.heap.size 3 (zs [1]).toArray) hg7 (fun e => by have := HB6.out _ e; omega); clear h7 hg7 ha7
              try go_wp2_with fail
              refine hK.out _ _ ?_ (fun hH3 => ?_)
              · (try dsimp only); exact KS.out _ (HQ7.out.1.ch.tr (Ch.of_bel (by repeat (first | exact Bel.rf | with_reducible refine Bel.drwN ?_ _ | with_reducible refine Bel.drw ?_ | with_reducible refine Bel.al ?_ _)))) (HQ7.out.2.1.bel (by repeat (first | exact Bel.rf | with_reducible refine Bel.drwN ?_ _ | with_reducible refine Bel.drw ?_ | with_reducible refine Bel.al ?_ _))) (HQ7.out.2.2.2.bel (by repeat (first | exact Bel.rf | with_reducible refine Bel.drwN ?_ _ | with_reducible refine Bel.drw ?_ | with_reducible refine Bel.al ?_ _)))
              clear hK K hH2
              try simp only [Act.put, setIfInBounds_toArray, set_cons_zero, set_cons_succ]
              refine Rb.till_take (i := 17) (oi := ⟨some 33, .fieldAddr 59 (.tmp 5) 0, 0, "make.go:196", #[⟨0, .phase⟩, ⟨1, .phase⟩, ⟨2, .phase⟩, ⟨3, .phase⟩, ⟨4, .phase⟩, ⟨5, .phase⟩, ⟨6, .phase⟩, ⟨7, .phase⟩, ⟨8, .phase⟩, ⟨9, .phase⟩, ⟨10, .phase⟩, ⟨11, .phase⟩, ⟨12, .phase⟩, ⟨13, .phase⟩, ⟨14, .textOnly Departure.lateStores⟩, ⟨15, .textOnly Departure.lateStores⟩, ⟨16, .textOnly Departure.lateStoresUnsure⟩], none⟩) (v := ?_) rfl (by kernel_rfl) (by kernel_rfl) (by kernel_rfl) (fun _ _ _ h => h) (by decide) opU rfl (by kernel_rfl) (by kernel_rfl) (Or.inl ⟨by kernel_rfl, ?_⟩) (by assumption) ?_
              rotate_left
              · (intro w hSw; (try dsimp only at hSw); obtain ⟨d1, d2, d3, d4⟩ := hSw; go_simp; try with_reducible rfl)
              try simp only [Act.put, setIfInBounds_toArray, set_cons_zero, set_cons_succ]
              refine Rb.till_ready (rs := [16]) (by kernel_rfl) (by simp) ?_
              refine Rb.AllT.cons (o := ⟨some 32, .call { callee := Callee.builtin Builtin.append, args := #[.tmp 29, .tmp 31], argTypes := #[22, 22] }, 22, "make.go:196", #[⟨13, .data⟩, ⟨15, .data⟩, ⟨11, .chain⟩], none⟩) rfl (fun K hK => ?_) (Rb.AllT.nil)
              · refine step_app _ rfl (.tmp 29) (.tmp 31) rfl (w.heap.size + 1 + 1 + 1) v i B rfl (own_bel HQ7.out.1.ov (by repeat (first | exact Bel.rf | with_reducible refine Bel.drwN ?_ _ | with_reducible refine Bel.drw ?_ | with_reducible refine Bel.al ?_ _))) ⟨w6.heap.size, 0, none⟩ 1 1 [1] rfl (zi_bk (L := [1]) (HX7.out.bel (by repeat (first | exact Bel.rf | with_reducible refine Bel.drwN ?_ _ | with_reducible refine Bel.drw ?_ | with_reducible refine Bel.al ?_ _))) 1 rfl) HI1.out (by have := HQ7.out.1.sz; simp; omega) ?_; intro v12 x12 h12 hg12 ha12; obtain ⟨A12, c12, hv12, _⟩ := own_any h12; subst hv12; have HQ12 : Hid (Wq g (w.heap.size + 1 + 1 + 1) w x12 (.slice A7 (i + 1) c7) (.slice A12 (i + 1) c12) (i + 1) (i + 1) (S ++ [s]) (B ++ [1]) ∧ Bk x12 w.heap.size 59 #[.slice (some ad) n fc, .slice bF n fd] ∧ Bk x12 (w.heap.size + 1) 59 #[.slice none 0 0, .slice none 0 0] ∧ Bk x12 (w.heap.size + 1 + 1) 59 #[u, v]) := ⟨((HQ7.out.1.up (by repeat (first | exact Bel.rf | with_reducible refine Bel.drwN ?_ _ | with_reducible refine Bel.drw ?_ | with_reducible refine Bel.al ?_ _))).sx.ax h12 hg12 ha12).sx, bk_grw (HQ7.out.2.1.bel (by repeat (first | exact Bel.rf | with_reducible refine Bel.drwN ?_ _ | with_reducible refine Bel.drw ?_ | with_reducible refine Bel.al ?_ _))) hg12 (fun e => by have := (HQ7.out.1.ov.lt _ e).1; omega), bk_grw (HQ7.out.2.2.1.bel (by repeat (first | exact Bel.rf | with_reducible refine Bel.drwN ?_ _ | with_reducible refine Bel.drw ?_ | with_reducible refine Bel.al ?_ _))) hg12 (fun e => by have := (HQ7.out.1.ov.lt _ e).1; omega), bk_grw (HQ7.out.2.2.2.bel (by repeat (first | exact Bel.rf | with_reducible refine Bel.drwN ?_ _ | with_reducible refine Bel.drw ?_ | with_reducible refine Bel.al ?_ _))) hg12 (fun e => by have := (HQ7.out.1.ov.lt _ e).1; omega)⟩; have y0 := HQ12.out.2.2.2.cell 0; have y1 := HQ12.out.2.2.2.cell 1; have z0 := HQ12.out.2.2.2.fr 0; have z1 := HQ12.out.2.2.2.fr 1; simp only [List.getElem?_toArray, List.getElem?_cons_zero, List.getElem?_cons_succ] at y0 y1; clear h12 hg12 ha12
                try go_wp2_with fail
                refine hK.out _ _ ?_ (fun hH4 => ?_)
                · (try dsimp only); exact KS.out _ (HQ12.out.1.ch.tr (Ch.of_bel (by repeat (first | exact Bel.rf | with_reducible refine Bel.drwN ?_ _ | with_reducible refine Bel.drw ?_ | with_reducible refine Bel.al ?_ _)))) (HQ12.out.2.1.bel (by repeat (first | exact Bel.rf | with_reducible refine Bel.drwN ?_ _ | with_reducible refine Bel.drw ?_ | with_reducible refine Bel.al ?_ _))) (HQ12.out.2.2.2.bel (by repeat (first | exact Bel.rf | with_reducible refine Bel.drwN ?_ _ | with_reducible refine Bel.drw ?_ | with_reducible refine Bel.al ?_ _)))
                clear hK K hH3
                try simp only [Act.put, setIfInBounds_toArray, set_cons_zero, set_cons_succ]
                refine Rb.till_ready (rs := [18]) (by kernel_rfl) (by simp) ?_
                refine Rb.AllT.past (o := ⟨none, .store 22 (.tmp 33) (.tmp 27), 0, "make.go:196", #[⟨17, .data⟩, ⟨11, .data⟩, ⟨16, .chain⟩, ⟨0, .phase⟩, ⟨1, .phase⟩, ⟨2, .phase⟩, ⟨3, .phase⟩, ⟨4, .phase⟩, ⟨5, .phase⟩, ⟨6, .phase⟩, ⟨7, .phase⟩, ⟨8, .phase⟩, ⟨9, .phase⟩, ⟨10, .phase⟩, ⟨11, .phase⟩, ⟨12, .phase⟩, ⟨13, .phase⟩, ⟨14, .textOnly Departure.lateStores⟩, ⟨15, .textOnly Departure.lateStores⟩, ⟨16, .textOnly Departure.lateStoresUnsure⟩], none⟩) rfl (by kernel_rfl) (fun K hK => ?_) (Rb.AllT.nil)
                · go_simp
                  try go_wp2_with fail
                  refine hK.out _ _ trivial (fun hH5 => ?_)
                  clear hK K hH4
                  try simp only [Act.put, setIfInBounds_toArray, set_cons_zero, set_cons_succ]
                  refine Rb.till_free (i := 19) (oi := ⟨some 34, .fieldAddr 59 (.tmp 5) 1, 0, "make.go:196", #[⟨0, .phase⟩, ⟨1, .phase⟩, ⟨2, .phase⟩, ⟨3, .phase⟩, ⟨4, .phase⟩, ⟨5, .phase⟩, ⟨6, .phase⟩, ⟨7, .phase⟩, ⟨8, .phase⟩, ⟨9, .phase⟩, ⟨10, .phase⟩, ⟨11, .phase⟩, ⟨12, .phase⟩, ⟨13, .phase⟩, ⟨14, .phase⟩, ⟨15, .phase⟩, ⟨16, .phase⟩, ⟨17, .phase⟩, ⟨18, .phase⟩], none⟩) (v := ?_) rfl (by kernel_rfl) (by kernel_rfl) (by kernel_rfl) (fun _ _ _ h => h) (by decide) (Or.inl ⟨by kernel_rfl, ?_⟩) (fun h => absurd h (by decide)) ?_
                  rotate_left
                  · (intro w hSw; clear hSw; go_simp; try with_reducible rfl)
                  try simp only [Act.put, setIfInBounds_toArray, set_cons_zero, set_cons_succ]
                  refine Rb.till_ready (rs := [20]) (by kernel_rfl) (by simp) ?_
                  refine Rb.AllT.past (o := ⟨none, .store 22 (.tmp 34) (.tmp 32), 0, "make.go:196", #[⟨19, .data⟩, ⟨16, .data⟩, ⟨18, .chain⟩, ⟨0, .phase⟩, ⟨1, .phase⟩, ⟨2, .phase⟩, ⟨3, .phase⟩, ⟨4, .phase⟩, ⟨5, .phase⟩, ⟨6, .phase⟩, ⟨7, .phase⟩, ⟨8, .phase⟩, ⟨9, .phase⟩, ⟨10, .phase⟩, ⟨11, .phase⟩, ⟨12, .phase⟩, ⟨13, .phase⟩, ⟨14, .phase⟩, ⟨15, .phase⟩, ⟨16, .phase⟩, ⟨17, .phase⟩, ⟨18, .phase⟩], none⟩) rfl (by kernel_rfl) (fun K hK => ?_) (Rb.AllT.nil)
                  · go_simp
                    try go_wp2_with fail
                    refine hK.out _ _ trivial (fun hH6 => ?_)
                    clear hK K hH5
                    try simp only [Act.put, setIfInBounds_toArray, set_cons_zero, set_cons_succ]
                    refine Rb.till_done (by kernel_rfl) ?_ _
                    refine NoPanic.normal ?_
                    have HFL : Hid (Gd (i + 1) (S ++ [s]) (B ++ [1]) ∧ Us (i + 1) F (S ++ [s]) (B ++ [1]) ∧ Wq g (w.heap.size + 1 + 1 + 1) w ((x12.setCell ⟨w.heap.size + 1 + 1, 0, none⟩ (.slice A7 (i + 1) c7)).setCell ⟨w.heap.size + 1 + 1, 1, none⟩ (.slice A12 (i + 1) c12)) (.slice A7 (i + 1) c7) (.slice A12 (i + 1) c12) (i + 1) (i + 1) (S ++ [s]) (B ++ [1]) ∧ Bk ((x12.setCell ⟨w.heap.size + 1 + 1, 0, none⟩ (.slice A7 (i + 1) c7)).setCell ⟨w.heap.size + 1 + 1, 1, none⟩ (.slice A12 (i + 1) c12)) w.heap.size 59 #[.slice (some ad) n fc, .slice bF n fd] ∧ Bk ((x12.setCell ⟨w.heap.size + 1 + 1, 0, none⟩ (.slice A7 (i + 1) c7)).setCell ⟨w.heap.size + 1 + 1, 1, none⟩ (.slice A12 (i + 1) c12)) (w.heap.size + 1) 59 #[.slice none 0 0, .slice none 0 0] ∧ Bk ((x12.setCell ⟨w.heap.size + 1 + 1, 0, none⟩ (.slice A7 (i + 1) c7)).setCell ⟨w.heap.size + 1 + 1, 1, none⟩ (.slice A12 (i + 1) c12)) (w.heap.size + 1 + 1) 59 #[.slice A7 (i + 1) c7, .slice A12 (i + 1) c12]) := ⟨gd_snoc HGD.out (by decide) (by decide) HS5.out.1 HS5.out.2.1, us_snoc HUS.out HGD.out.1 HGD.out.2.1 HS5.out.2.2, (HQ12.out.1.st (by omega) (by omega) (by have := HGB.out; omega) _ _).st (by omega) (by omega) (by have := HGB.out; omega) _ _, (HQ12.out.2.1.far (by dsimp only; omega) _).far (by dsimp only; omega) _, (HQ12.out.2.2.1.far (by dsimp only; omega) _).far (by dsimp only; omega) _, (HQ12.out.2.2.2.st 0 _).st 1 _⟩
                    go_wp2_with fail
                    go_roundw
                    case rel => exact ⟨i + 1, _, _, _, _, _, rfl, by go_num, by omega, HFL.out.1, HFL.out.2.1, HFL.out.2.2.1, HFL.out.2.2.2.1, HFL.out.2.2.2.2.1, HFL.out.2.2.2.2.2⟩
                    case measure => simp [intOf]; omega
      · have wv1 : IntKind.i64.wrap 4 = 4 := by decide
        have wv2 : IntKind.i64.wrap (2 ^ 2) = 4 := by decide
        obtain ⟨s, hs⟩ : ∃ s, x / 4 = s := ⟨_, rfl⟩
        have wv3 : IntKind.i64.wrap 2 = 2 := by decide
        have hs9 : s = F.getD i 0 / 2 ^ (4 - (2 : Int).toNat) := by rw [HX.out]; exact hs.symm
        have HS5 : Hid (0 ≤ s ∧ s < 2 ^ (2 : Int).toNat ∧ s = F.getD i 0 / 2 ^ (4 - (2 : Int).toNat)) := ⟨by rw [← hs]; exact Int.ediv_nonneg x0 (by decide), (by show s < 4; (try simp at hs); omega), hs9⟩
        clear HY hs9
        go_wp2_with fail
        refine wp_region_noPanic ?_
        refine Rb.wp_region_till (S := fun W => W.cell? (⟨w.heap.size + 1 + 1, 0, none⟩ : Addr) = some u ∧ W.cell? (⟨w.heap.size + 1 + 1, 1, none⟩ : Addr) = some v ∧ W.cell? (⟨w.heap.size, 0, none⟩ : Addr) = some (.slice (some ad) n fc) ∧ W.cell? (ad.add i) = some (.int .i64 x)) 18 (by kernel_rfl) ?_ (fun hH0 => ?_)
        · (try dsimp only); exact KS.out _ (HQ6.out.1.ch.tr (Ch.of_bel (by repeat (first | exact Bel.rf | with_reducible refine Bel.drwN ?_ _ | with_reducible refine Bel.drw ?_ | with_reducible refine Bel.al ?_ _)))) (HQ6.out.2.1.bel (by repeat (first | exact Bel.rf | with_reducible refine Bel.drwN ?_ _ | with_reducible refine Bel.drw ?_ | with_reducible refine Bel.al ?_ _))) (HQ6.out.2.2.2.bel (by repeat (first | exact Bel.rf | with_reducible refine Bel.drwN ?_ _ | with_reducible refine Bel.drw ?_ | with_reducible refine Bel.al ?_ _)))
        refine Rb.till_take (i := 0) (oi := ⟨some 16, .fieldAddr 59 (.tmp 5) 0, 0, "make.go:196", #[], none⟩) (v := ?_) rfl (by kernel_rfl) (by kernel_rfl) (by kernel_rfl) (fun _ _ _ h => h) (by decide) opU rfl (by kernel_rfl) (by kernel_rfl) (Or.inl ⟨by kernel_rfl, ?_⟩) (by assumption) ?_
        rotate_left
        · (intro w hSw; (try dsimp only at hSw); obtain ⟨d1, d2, d3, d4⟩ := hSw; go_simp; try with_reducible rfl)
        try simp only [Act.put, setIfInBounds_toArray, set_cons_zero, set_cons_succ]
        refine Rb.till_take (i := 1) (oi := ⟨some 17, .load 22 (.tmp 16), 22, "make.go:196", #[⟨0, .data⟩], none⟩) (v := ?_) rfl (by kernel_rfl) (by kernel_rfl) (by kernel_rfl) (fun _ _ _ h => h) (by decide) opU rfl (by kernel_rfl) (by kernel_rfl) (Or.inl ⟨by kernel_rfl, ?_⟩) (by assumption) ?_
        rotate_left
        · (intro w hSw; (try dsimp only at hSw); obtain ⟨d1, d2, d3, d4⟩ := hSw; go_simp; try with_reducible rfl)
        try simp only [Act.put, setIfInBounds_toArray, set_cons_zero, set_cons_succ]
        refine Rb.till_take (i := 2) (oi := ⟨some 18, .fieldAddr 59 (.tmp 3) 0, 0, "make.go:196", #[], none⟩) (v := ?_) rfl (by kernel_rfl) (by kernel_rfl) (by kernel_rfl) (fun _ _ _ h => h) (by decide) opU rfl (by kernel_rfl) (by kernel_rfl) (Or.inl ⟨by kernel_rfl, ?_⟩) (by assumption) ?_
        rotate_left
        · (intro w hSw; (try dsimp only at hSw); obtain ⟨d1, d2, d3, d4⟩ := hSw; go_simp; try with_reducible rfl)
        try simp only [Act.put, setIfInBounds_toArray, set_cons_zero, set_cons_succ]
        refine Rb.till_take (i := 3) (oi := ⟨some 19, .load 22 (.tmp 18), 22, "make.go:196", #[⟨2, .data⟩], none⟩) (v := ?_) rfl (by kernel_rfl) (by kernel_rfl) (by kernel_rfl) (fun _ _ _ h => h) (by decide) opU rfl (by kernel_rfl) (by kernel_rfl) (Or.inl ⟨by kernel_rfl, ?_⟩) (by assumption) ?_
        rotate_left
        · (intro w hSw; (try dsimp only at hSw); obtain ⟨d1, d2, d3, d4⟩ := hSw; go_simp; try with_reducible rfl)
        try simp only [Act.put, setIfInBounds_toArray, set_cons_zero, set_cons_succ]
        refine Rb.till_take (i := 4) (oi := ⟨some 20, .move (.tmp 6), 3, "make.go:196", #[], none⟩) (v := ?_) rfl (by kernel_rfl) (by kernel_rfl) (by kernel_rfl) (fun _ _ _ h => h) (by decide) opU rfl (by kernel_rfl) (by kernel_rfl) (Or.inl ⟨by kernel_rfl, ?_⟩) (by assumption) ?_
        rotate_left
        · (intro w hSw; (try dsimp only at hSw); obtain ⟨d1, d2, d3, d4⟩ := hSw; go_simp; try with_reducible rfl)
        try simp only [Act.put, setIfInBounds_toArray, set_cons_zero, set_cons_succ]
        refine Rb.till_take (i := 5) (oi := ⟨some 21, .indexAddr 22 (.tmp 19) (.tmp 20), 0, "make.go:196", #[⟨3, .data⟩, ⟨4, .data⟩], none⟩) (v := ?_) rfl (by kernel_rfl) (by kernel_rfl) (by kernel_rfl) (fun _ _ _ h => h) (by decide) opU rfl (by kernel_rfl) (by kernel_rfl) (Or.inl ⟨by kernel_rfl, ?_⟩) (by assumption) ?_
        rotate_left
        · (intro w hSw; (try dsimp only at hSw); obtain ⟨d1, d2, d3, d4⟩ := hSw; go_simp; try with_reducible rfl)
        try simp only [Act.put, setIfInBounds_toArray, set_cons_zero, set_cons_succ]
        refine Rb.till_take (i := 6) (oi := ⟨some 22, .load 3 (.tmp 21), 3, "make.go:196", #[⟨5, .data⟩], none⟩) (v := ?_) rfl (by kernel_rfl) (by kernel_rfl) (by kernel_rfl) (fun _ _ _ h => h) (by decide) opU rfl (by kernel_rfl) (by kernel_rfl) (Or.inl ⟨by kernel_rfl, ?_⟩) (by assumption) ?_
        rotate_left
        · (intro w hSw; (try dsimp only at hSw); obtain ⟨d1, d2, d3, d4⟩ := hSw; go_simp; try with_reducible rfl)
        try simp only [Act.put, setIfInBounds_toArray, set_cons_zero, set_cons_succ]
        refine Rb.till_take (i := 7) (oi := ⟨some 23, .move (.tmp 7), 3, "make.go:196", #[], none⟩) (v := ?_) rfl (by kernel_rfl) (by kernel_rfl) (by kernel_rfl) (fun _ _ _ h => h) (by decide) opU rfl (by kernel_rfl) (by kernel_rfl) (Or.inl ⟨by kernel_rfl, ?_⟩) (by assumption) ?_
        rotate_left
        · (intro w hSw; (try dsimp only at hSw); obtain ⟨d1, d2, d3, d4⟩ := hSw; go_simp; try with_reducible rfl)
        try simp only [Act.put, setIfInBounds_toArray, set_cons_zero, set_cons_succ]
        refine Rb.till_take (i := 8) (oi := ⟨some 24, .binOp BinOp.sub 3 (.const (.int IntKind.i64 4)) (.tmp 23) 3, 3, "make.go:196", #[⟨7, .data⟩], none⟩) (v := ?_) rfl (by kernel_rfl) (by kernel_rfl) (by kernel_rfl) (fun _ _ _ h => h) (by decide) opU rfl (by kernel_rfl) (by kernel_rfl) (Or.inl ⟨by kernel_rfl, ?_⟩) (by assumption) ?_
        rotate_left
        · (intro w hSw; (try dsimp only at hSw); obtain ⟨d1, d2, d3, d4⟩ := hSw; go_simp; try with_reducible rfl)
        try simp only [Act.put, setIfInBounds_toArray, set_cons_zero, set_cons_succ]
        refine Rb.till_take (i := 9) (oi := ⟨some 25, .binOp BinOp.shr 3 (.tmp 22) (.tmp 24) 3, 3, "make.go:196", #[⟨6, .data⟩, ⟨8, .data⟩], none⟩) (v := ?_) rfl (by kernel_rfl) (by kernel_rfl) (by kernel_rfl) (fun _ _ _ h => h) (by decide) opU rfl (by kernel_rfl) (by kernel_rfl) (Or.inl ⟨by kernel_rfl, ?_⟩) (by assumption) ?_
        rotate_left
        · (intro w hSw; (try dsimp only at hSw); obtain ⟨d1, d2, d3, d4⟩ := hSw; go_simp; try with_reducible rfl)
        try simp only [Act.put, setIfInBounds_toArray, set_cons_zero, set_cons_succ]
        refine Rb.till_take (i := 12) (oi := ⟨some 28, .fieldAddr 59 (.tmp 5) 1, 0, "make.go:196", #[], none⟩) (v := ?_) rfl (by kernel_rfl) (by kernel_rfl) (by kernel_rfl) (fun _ _ _ h => h) (by decide) opU rfl (by kernel_rfl) (by kernel_rfl) (Or.inl ⟨by kernel_rfl, ?_⟩) (by assumption) ?_
        rotate_left
        · (intro w hSw; (try dsimp only at hSw); obtain ⟨d1, d2, d3, d4⟩ := hSw; go_simp; try with_reducible rfl)
        try simp only [Act.put, setIfInBounds_toArray, set_cons_zero, set_cons_succ]
        refine Rb.till_take (i := 13) (oi := ⟨some 29, .load 22 (.tmp 28), 22, "make.go:196", #[⟨12, .data⟩], none⟩) (v := ?_) rfl (by kernel_rfl) (by kernel_rfl) (by kernel_rfl) (fun _ _ _ h => h) (by decide) opU rfl (by kernel_rfl) (by kernel_rfl) (Or.inl ⟨by kernel_rfl, ?_⟩) (by assumption) ?_
        rotate_left
        · (intro w hSw; (try dsimp only at hSw); obtain ⟨d1, d2, d3, d4⟩ := hSw; go_simp; try with_reducible rfl)
        try simp only [Act.put, setIfInBounds_toArray, set_cons_zero, set_cons_succ]
        refine Rb.till_free (i := 14) (oi := ⟨some 30, .move (.tmp 7), 3, "make.go:196", #[], none⟩) (v := ?_) rfl (by kernel_rfl) (by kernel_rfl) (by kernel_rfl) (fun _ _ _ h => h) (by decide) (Or.inl ⟨by kernel_rfl, ?_⟩) (fun _ => by assumption) ?_
        rotate_left
        · (intro w hSw; clear hSw; go_simp; try with_reducible rfl)
        try simp only [Act.put, setIfInBounds_toArray, set_cons_zero, set_cons_succ]
        refine Rb.till_ready (rs := [10, 15]) (by kernel_rfl) (by simp) ?_
        refine Rb.AllT.cons (o := ⟨some 26, .buildSlice 22 1 #[(0, .tmp 25)], 22, "make.go:196", #[⟨9, .data⟩], none⟩) rfl (fun K hK => ?_) (Rb.AllT.cons (o := ⟨some 31, .buildSlice 22 1 #[(0, .tmp 30)], 22, "make.go:196", #[⟨14, .data⟩], none⟩) rfl (fun K hK => ?_) (Rb.AllT.nil))
        · go_simp
          try go_wp2_with fail
          refine hK.out _ _ ?_ (fun hH1 => ?_)
          · (try dsimp only); exact KS.out _ (HQ6.out.1.ch.tr (Ch.of_bel (by repeat (first | exact Bel.rf | with_reducible refine Bel.drwN ?_ _ | with_reducible refine Bel.drw ?_ | with_reducible refine Bel.al ?_ _)))) (HQ6.out.2.1.bel (by repeat (first | exact Bel.rf | with_reducible refine Bel.drwN ?_ _ | with_reducible refine Bel.drw ?_ | with_reducible refine Bel.al ?_ _))) (HQ6.out.2.2.2.bel (by repeat (first | exact Bel.rf | with_reducible refine Bel.drwN ?_ _ | with_reducible refine Bel.drw ?_ | with_reducible refine Bel.al ?_ _)))
          clear hK K hH0
          try simp only [Act.put, setIfInBounds_toArray, set_cons_zero, set_cons_succ]
          refine Rb.till_ready (rs := [11, 15]) (by kernel_rfl) (by simp) ?_
          refine Rb.AllT.cons (o := ⟨some 27, .call { callee := Callee.builtin Builtin.append, args := #[.tmp 17, .tmp 26], argTypes := #[22, 22] }, 22, "make.go:196", #[⟨1, .data⟩, ⟨10, .data⟩], none⟩) rfl (fun K hK => ?_) (Rb.AllT.cons (o := ⟨some 31, .buildSlice 22 1 #[(0, .tmp 30)], 22, "make.go:196", #[⟨14, .data⟩], none⟩) rfl (fun K hK => ?_) (Rb.AllT.nil))
          · refine step_app _ rfl (.tmp 17) (.tmp 26) rfl (w.heap.size + 1 + 1 + 1) u i S rfl (own_bel HQ6.out.1.ou (by repeat (first | exact Bel.rf | with_reducible refine Bel.drwN ?_ _ | with_reducible refine Bel.drw ?_ | with_reducible refine Bel.al ?_ _))) ⟨w6.heap.size, 0, none⟩ 1 1 [s] rfl (zi_bk (L := [s]) ((by repeat (first | (refine Bk.nq _ _ _ ?_; simp; done) | with_reducible refine Bk.drwN ?_ _ | with_reducible refine Bk.drw ?_ | with_reducible refine Bk.al ?_ _)) : Bk _ w6.heap.size 3 (zs [s]).toArray) 1 rfl) HI1.out (by have := HQ6.out.1.sz; simp; omega) ?_; intro v7 x7 h7 hg7 ha7; obtain ⟨A7, c7, hv7, _⟩ := own_any h7; subst hv7; have HQ7 : Hid (Wq g (w.heap.size + 1 + 1 + 1) w x7 (.slice A7 (i + 1) c7) v (i + 1) i (S ++ [s]) B ∧ Bk x7 w.heap.size 59 #[.slice (some ad) n fc, .slice bF n fd] ∧ Bk x7 (w.heap.size + 1) 59 #[.slice none 0 0, .slice none 0 0] ∧ Bk x7 (w.heap.size + 1 + 1) 59 #[u, v]) := ⟨(HQ6.out.1.up (by repeat (first | exact Bel.rf | with_reducible refine Bel.drwN ?_ _ | with_reducible refine Bel.drw ?_ | with_reducible refine Bel.al ?_ _))).ax h7 hg7 ha7, bk_grw (HQ6.out.2.1.bel (by repeat (first | exact Bel.rf | with_reducible refine Bel.drwN ?_ _ | with_reducible refine Bel.drw ?_ | with_reducible refine Bel.al ?_ _))) hg7 (fun e => by have := (HQ6.out.1.ou.lt _ e).1; omega), bk_grw (HQ6.out.2.2.1.bel (by repeat (first | exact Bel.rf | with_reducible refine Bel.drwN ?_ _ | with_reducible refine Bel.drw ?_ | with_reducible refine Bel.al ?_ _))) hg7 (fun e => by have := (HQ6.out.1.ou.lt _ e).1; omega), bk_grw (HQ6.out.2.2.2.bel (by repeat (first | exact Bel.rf | with_reducible refine Bel.drwN ?_ _ | with_reducible refine Bel.drw ?_ | with_reducible refine Bel.al ?_ _))) hg7 (fun e => by have := (HQ6.out.1.ou.lt _ e).1; omega)⟩; clear h7 hg7 ha7
            try go_wp2_with fail
            refine hK.out _ _ ?_ (fun hH2 => ?_)
            · (try dsimp only); exact KS.out _ (HQ7.out.1.ch.tr (Ch.of_bel (by repeat (first | exact Bel.rf | with_reducible refine Bel.drwN ?_ _ | with_reducible refine Bel.drw ?_ | with_reducible refine Bel.al ?_ _)))) (HQ7.out.2.1.bel (by repeat (first | exact Bel.rf | with_reducible refine Bel.drwN ?_ _ | with_reducible refine Bel.drw ?_ | with_reducible refine Bel.al ?_ _))) (HQ7.out.2.2.2.bel (by repeat (first | exact Bel.rf | with_reducible refine Bel.drwN ?_ _ | with_reducible refine Bel.drw ?_ | with_reducible refine Bel.al ?_ _)))
            clear hK K hH1
            try simp only [Act.put, setIfInBounds_toArray, set_cons_zero, set_cons_succ]
            refine Rb.till_take (i := 17) (oi := ⟨some 33, .fieldAddr 59 (.tmp 5) 0, 0, "make.go:196", #[⟨0, .phase⟩, ⟨1, .phase⟩, ⟨2, .phase⟩, ⟨3, .phase⟩, ⟨4, .phase⟩, ⟨5, .phase⟩, ⟨6, .phase⟩, ⟨7, .phase⟩, ⟨8, .phase⟩, ⟨9, .phase⟩, ⟨10, .phase⟩, ⟨11, .phase⟩, ⟨12, .phase⟩, ⟨13, .phase⟩, ⟨14, .textOnly Departure.lateStores⟩, ⟨15, .textOnly Departure.lateStores⟩, ⟨16, .textOnly Departure.lateStoresUnsure⟩], none⟩) (v := ?_) rfl (by kernel_rfl) (by kernel_rfl) (by kernel_rfl) (fun _ _ _ h => h) (by decide) opU rfl (by kernel_rfl) (by kernel_rfl) (Or.inl ⟨by kernel_rfl, ?_⟩) (by assumption) ?_
            rotate_left
            · (intro w hSw; (try dsimp only at hSw); obtain ⟨d1, d2, d3, d4⟩ := hSw; go_simp; try with_reducible rfl)
            try simp only [Act.put, setIfInBounds_toArray, set_cons_zero, set_cons_succ]
            refine Rb.till_ready (rs := [15]) (by kernel_rfl) (by simp) ?_
            refine Rb.AllT.cons (o := ⟨some 31, .buildSlice 22 1 #[(0, .tmp 30)], 22, "make.go:196", #[⟨14, .data⟩], none⟩) rfl (fun K hK => ?_) (Rb.AllT.nil)
            · go_simp
              try go_wp2_with fail
              refine hK.out _ _ ?_ (fun hH3 => ?_)
              · (try dsimp only); exact KS.out _ (HQ7.out.1.ch.tr (Ch.of_bel (by repeat (first | exact Bel.rf | with_reducible refine Bel.drwN ?_ _ | with_reducible refine Bel.drw ?_ | with_reducible refine Bel.al ?_ _)))) (HQ7.out.2.1.bel (by repeat (first | exact Bel.rf | with_reducible refine Bel.drwN ?_ _ | with_reducible refine Bel.drw ?_ | with_reducible refine Bel.al ?_ _))) (HQ7.out.2.2.2.bel (by repeat (first | exact Bel.rf | with_reducible refine Bel.drwN ?_ _ | with_reducible refine Bel.drw ?_ | with_reducible refine Bel.al ?_ _)))
              clear hK K hH2
              try simp only [Act.put, setIfInBounds_toArray, set_cons_zero, set_cons_succ]
              refine Rb.till_ready (rs := [16]) (by kernel_rfl) (by simp) ?_
              refine Rb.AllT.cons (o := ⟨some 32, .call { callee := Callee.builtin Builtin.append, args := #[.tmp 29, .tmp 31], argTypes := #[22, 22] }, 22, "make.go:196", #[⟨13, .data⟩, ⟨15, .data⟩, ⟨11, .chain⟩], none⟩) rfl (fun K hK => ?_) (Rb.AllT.nil)
              · refine step_app _ rfl (.tmp 29) (.tmp 31) rfl (w.heap.size + 1 + 1 + 1) v i B rfl (own_bel HQ7.out.1.ov (by repeat (first | exact Bel.rf | with_reducible refine Bel.drwN ?_ _ | with_reducible refine Bel.drw ?_ | with_reducible refine Bel.al ?_ _))) ⟨x7.heap.size, 0, none⟩ 1 1 [2] rfl (zi_bk (L := [2]) ((by repeat (first | (refine Bk.nq _ _ _ ?_; simp; done) | with_reducible refine Bk.drwN ?_ _ | with_reducible refine Bk.drw ?_ | with_reducible refine Bk.al ?_ _)) : Bk _ x7.heap.size 3 (zs [2]).toArray) 1 rfl) HI1.out (by have := HQ7.out.1.sz; simp; omega) ?_; intro v12 x12 h12 hg12 ha12; obtain ⟨A12, c12, hv12, _⟩ := own_any h12; subst hv12; have HQ12 : Hid (Wq g (w.heap.size + 1 + 1 + 1) w x12 (.slice A7 (i + 1) c7) (.slice A12 (i + 1) c12) (i + 1) (i + 1) (S ++ [s]) (B ++ [2]) ∧ Bk x12 w.heap.size 59 #[.slice (some ad) n fc, .slice bF n fd] ∧ Bk x12 (w.heap.size + 1) 59 #[.slice none 0 0, .slice none 0 0] ∧ Bk x12 (w.heap.size + 1 + 1) 59 #[u, v]) := ⟨((HQ7.out.1.up (by repeat (first | exact Bel.rf | with_reducible refine Bel.drwN ?_ _ | with_reducible refine Bel.drw ?_ | with_reducible refine Bel.al ?_ _))).sx.ax h12 hg12 ha12).sx, bk_grw (HQ7.out.2.1.bel (by repeat (first | exact Bel.rf | with_reducible refine Bel.drwN ?_ _ | with_reducible refine Bel.drw ?_ | with_reducible refine Bel.al ?_ _))) hg12 (fun e => by have := (HQ7.out.1.ov.lt _ e).1; omega), bk_grw (HQ7.out.2.2.1.bel (by repeat (first | exact Bel.rf | with_reducible refine Bel.drwN ?_ _ | with_reducible refine Bel.drw ?_ | with_reducible refine Bel.al ?_ _))) hg12 (fun e => by have := (HQ7.out.1.ov.lt _ e).1; omega), bk_grw (HQ7.out.2.2.2.bel (by repeat (first | exact Bel.rf | with_reducible refine Bel.drwN ?_ _ | with_reducible refine Bel.drw ?_ | with_reducible refine Bel.al ?_ _))) hg12 (fun e => by have := (HQ7.out.1.ov.lt _ e).1; omega)⟩; have y0 := HQ12.out.2.2.2.cell 0; have y1 := HQ12.out.2.2.2.cell 1; have z0 := HQ12.out.2.2.2.fr 0; have z1 := HQ12.out.2.2.2.fr 1; simp only [List.getElem?_toArray, List.getElem?_cons_zero, List.getElem?_cons_succ] at y0 y1; clear h12 hg12 ha12
                try go_wp2_with fail
                refine hK.out _ _ ?_ (fun hH4 => ?_)
                · (try dsimp only); exact KS.out _ (HQ12.out.1.ch.tr (Ch.of_bel (by repeat (first | exact Bel.rf | with_reducible refine Bel.drwN ?_ _ | with_reducible refine Bel.drw ?_ | with_reducible refine Bel.al ?_ _)))) (HQ12.out.2.1.bel (by repeat (first | exact Bel.rf | with_reducible refine Bel.drwN ?_ _ | with_reducible refine Bel.drw ?_ | with_reducible refine Bel.al ?_ _))) (HQ12.out.2.2.2.bel (by repeat (first | exact Bel.rf | with_reducible refine Bel.drwN ?_ _ | with_reducible refine Bel.drw ?_ | with_reducible refine Bel.al ?_ _)))
                clear hK K hH3
                try simp only [Act.put, setIfInBounds_toArray, set_cons_zero, set_cons_succ]
                refine Rb.till_ready (rs := [18]) (by kernel_rfl) (by simp) ?_
                refine Rb.AllT.past (o := ⟨none, .store 22 (.tmp 33) (.tmp 27), 0, "make.go:196", #[⟨17, .data⟩, ⟨11, .data⟩, ⟨16, .chain⟩, ⟨0, .phase⟩, ⟨1, .phase⟩, ⟨2, .phase⟩, ⟨3, .phase⟩, ⟨4, .phase⟩, ⟨5, .phase⟩, ⟨6, .phase⟩, ⟨7, .phase⟩, ⟨8, .phase⟩, ⟨9, .phase⟩, ⟨10, .phase⟩, ⟨11, .phase⟩, ⟨12, .phase⟩, ⟨13, .phase⟩, ⟨14, .textOnly Departure.lateStores⟩, ⟨15, .textOnly Departure.lateStores⟩, ⟨16, .textOnly Departure.lateStoresUnsure⟩], none⟩) rfl (by kernel_rfl) (fun K hK => ?_) (Rb.AllT.nil)
                · go_simp
                  try go_wp2_with fail
                  refine hK.out _ _ trivial (fun hH5 => ?_)
                  clear hK K hH4
                  try simp only [Act.put, setIfInBounds_toArray, set_cons_zero, set_cons_succ]
                  refine Rb.till_free (i := 19) (oi := ⟨some 34, .fieldAddr 59 (.tmp 5) 1, 0, "make.go:196", #[⟨0, .phase⟩, ⟨1, .phase⟩, ⟨2, .phase⟩, ⟨3, .phase⟩, ⟨4, .phase⟩, ⟨5, .phase⟩, ⟨6, .phase⟩, ⟨7, .phase⟩, ⟨8, .phase⟩, ⟨9, .phase⟩, ⟨10, .phase⟩, ⟨11, .phase⟩, ⟨12, .phase⟩, ⟨13, .phase⟩, ⟨14, .phase⟩, ⟨15, .phase⟩, ⟨16, .phase⟩, ⟨17, .phase⟩, ⟨18, .phase⟩], none⟩) (v := ?_) rfl (by kernel_rfl) (by kernel_rfl) (by kernel_rfl) (fun _ _ _ h => h) (by decide) (Or.inl ⟨by kernel_rfl, ?_⟩) (fun h => absurd h (by decide)) ?_
                  rotate_left
                  · (intro w hSw; clear hSw; go_simp; try with_reducible rfl)
                  try simp only [Act.put, setIfInBounds_toArray, set_cons_zero, set_cons_succ]
                  refine Rb.till_ready (rs := [20]) (by kernel_rfl) (by simp) ?_
                  refine Rb.AllT.past (o := ⟨none, .store 22 (.tmp 34) (.tmp 32), 0, "make.go:196", #[⟨19, .data⟩, ⟨16, .data⟩, ⟨18, .chain⟩, ⟨0, .phase⟩, ⟨1, .phase⟩, ⟨2, .phase⟩, ⟨3, .phase⟩, ⟨4, .phase⟩, ⟨5, .phase⟩, ⟨6, .phase⟩, ⟨7, .phase⟩, ⟨8, .phase⟩, ⟨9, .phase⟩, ⟨10, .phase⟩, ⟨11, .phase⟩, ⟨12, .phase⟩, ⟨13, .phase⟩, ⟨14, .phase⟩, ⟨15, .phase⟩, ⟨16, .phase⟩, ⟨17, .phase⟩, ⟨18, .phase⟩], none⟩) rfl (by kernel_rfl) (fun K hK => ?_) (Rb.AllT.nil)
                  · go_simp
                    try go_wp2_with fail
                    refine hK.out _ _ trivial (fun hH6 => ?_)
                    clear hK K hH5
                    try simp only [Act.put, setIfInBounds_toArray, set_cons_zero, set_cons_succ]
                    refine Rb.till_done (by kernel_rfl) ?_ _
                    refine NoPanic.normal ?_
                    have HFL : Hid (Gd (i + 1) (S ++ [s]) (B ++ [2]) ∧ Us (i + 1) F (S ++ [s]) (B ++ [2]) ∧ Wq g (w.heap.size + 1 + 1 + 1) w ((x12.setCell ⟨w.heap.size + 1 + 1, 0, none⟩ (.slice A7 (i + 1) c7)).setCell ⟨w.heap.size + 1 + 1, 1, none⟩ (.slice A12 (i + 1) c12)) (.slice A7 (i + 1) c7) (.slice A12 (i + 1) c12) (i + 1) (i + 1) (S ++ [s]) (B ++ [2]) ∧ Bk ((x12.setCell ⟨w.heap.size + 1 + 1, 0, none⟩ (.slice A7 (i + 1) c7)).setCell ⟨w.heap.size + 1 + 1, 1, none⟩ (.slice A12 (i + 1) c12)) w.heap.size 59 #[.slice (some ad) n fc, .slice bF n fd] ∧ Bk ((x12.setCell ⟨w.heap.size + 1 + 1, 0, none⟩ (.slice A7 (i + 1) c7)).setCell ⟨w.heap.size + 1 + 1, 1, none⟩ (.slice A12 (i + 1) c12)) (w.heap.size + 1) 59 #[.slice none 0 0, .slice none 0 0] ∧ Bk ((x12.setCell ⟨w.heap.size + 1 + 1, 0, none⟩ (.slice A7 (i + 1) c7)).setCell ⟨w.heap.size + 1 + 1, 1, none⟩ (.slice A12 (i + 1) c12)) (w.heap.size + 1 + 1) 59 #[.slice A7 (i + 1) c7, .slice A12 (i + 1) c12]) := ⟨gd_snoc HGD.out (by decide) (by decide) HS5.out.1 HS5.out.2.1, us_snoc HUS.out HGD.out.1 HGD.out.2.1 HS5.out.2.2, (HQ12.out.1.st (by omega) (by omega) (by have := HGB.out; omega) _ _).st (by omega) (by omega) (by have := HGB.out; omega) _ _, (HQ12.out.2.1.far (by dsimp only; omega) _).far (by dsimp only; omega) _, (HQ12.out.2.2.1.far (by dsimp only; omega) _).far (by dsimp only; omega) _, (HQ12.out.2.2.2.st 0 _).st 1 _⟩
                    go_wp2_with fail
                    go_roundw
                    case rel => exact ⟨i + 1, _, _, _, _, _, rfl, by go_num, by omega, HFL.out.1, HFL.out.2.1, HFL.out.2.2.1, HFL.out.2.2.2.1, HFL.out.2.2.2.2.1, HFL.out.2.2.2.2.2⟩
                    case measure => simp [intOf]; omega
          · go_simp
            try go_wp2_with fail
            refine hK.out _ _ ?_ (fun hH2 => ?_)
            · (try dsimp only); exact KS.out _ (HQ6.out.1.ch.tr (Ch.of_bel (by repeat (first | exact Bel.rf | with_reducible refine Bel.drwN ?_ _ | with_reducible refine Bel.drw ?_ | with_reducible refine Bel.al ?_ _)))) (HQ6.out.2.1.bel (by repeat (first | exact Bel.rf | with_reducible refine Bel.drwN ?_ _ | with_reducible refine Bel.drw ?_ | with_reducible refine Bel.al ?_ _))) (HQ6.out.2.2.2.bel (by repeat (first | exact Bel.rf | with_reducible refine Bel.drwN ?_ _ | with_reducible refine Bel.drw ?_ | with_reducible refine Bel.al ?_ _)))
            clear hK K hH1
            try simp only [Act.put, setIfInBounds_toArray, set_cons_zero, set_cons_succ]
            refine Rb.till_ready (rs := [11]) (by kernel_rfl) (by simp) ?_
            refine Rb.AllT.cons (o := ⟨some 27, .call { callee := Callee.builtin Builtin.append, args := #[.tmp 17, .tmp 26], argTypes := #[22, 22] }, 22, "make.go:196", #[⟨1, .data⟩, ⟨10, .data⟩], none⟩) rfl (fun K hK => ?_) (Rb.AllT.nil)
            · refine step_app _ rfl (.tmp 17) (.tmp 26) rfl (w.heap.size + 1 + 1 + 1) u i S rfl (own_bel HQ6.out.1.ou (by repeat (first | exact Bel.rf | with_reducible refine Bel.drwN ?_ _ | with_reducible refine Bel.drw ?_ | with_reducible refine Bel.al ?_ _))) ⟨w6.heap.size, 0, none⟩ 1 1 [s] rfl (zi_bk (L := [s]) ((by repeat (first | (refine Bk.nq _ _ _ ?_; simp; done) | with_reducible refine Bk.drwN ?_ _ | with_reducible refine Bk.drw ?_ | with_reducible refine Bk.al ?_ _)) : Bk _ w6.heap.size 3 (zs [s]).toArray) 1 rfl) HI1.out (by have := HQ6.out.1.sz; simp; omega) ?_; intro v7 x7 h7 hg7 ha7; obtain ⟨A7, c7, hv7, _⟩ := own_any h7; subst hv7; have HQ7 : Hid (Wq g (w.heap.size + 1 + 1 + 1) w x7 (.slice A7 (i + 1) c7) v (i + 1) i (S ++ [s]) B ∧ Bk x7 w.heap.size 59 #[.slice (some ad) n fc, .slice bF n fd] ∧ Bk x7 (w.heap.size + 1) 59 #[.slice none 0 0, .slice none 0 0] ∧ Bk x7 (w.heap.size + 1 + 1) 59 #[u, v]) := ⟨(HQ6.out.1.up (by repeat (first | exact Bel.rf | with_reducible refine Bel.drwN ?_ _ | with_reducible refine Bel.drw ?_ | with_reducible refine Bel.al ?_ _))).ax h7 hg7 ha7, bk_grw (HQ6.out.2.1.bel (by repeat (first | exact Bel.rf | with_reducible refine Bel.drwN ?_ _ | with_reducible refine Bel.drw ?_ | with_reducible refine Bel.al ?_ _))) hg7 (fun e => by have := (HQ6.out.1.ou.lt _ e).1; omega), bk_grw (HQ6.out.2.2.1.bel (by repeat (first | exact Bel.rf | with_reducible refine Bel.drwN ?_ _ | with_reducible refine Bel.drw ?_ | with_reducible refine Bel.al ?_ _))) hg7 (fun e => by have := (HQ6.out.1.ou.lt _ e).1; omega), bk_grw (HQ6.out.2.2.2.bel (by repeat (first | exact Bel.rf | with_reducible refine Bel.drwN ?_ _ | with_reducible refine Bel.drw ?_ | with_reducible refine Bel.al ?_ _))) hg7 (fun e => by have := (HQ6.out.1.ou.lt _ e).1; omega)⟩; have HX7 : Hid (Bk x7 (w6.heap.size + 1) 3 (zs [2]).toArray) := bk_grw ((by repeat (first | (refine Bk.nq _ _ _ ?_; simp; done) | with_reducible refine Bk.drwN ?_ _ | with_reducible refine Bk.drw ?_ | with_reducible refine Bk.al ?_ _)) : Bk _ (w6.heap.size + 1) 3 (zs [2]).toArray) hg7 (fun e => by have := HB6.out _ e; omega); clear h7 hg7 ha7
              try go_wp2_with fail
              refine hK.out _ _ ?_ (fun hH3 => ?_)
              · (try dsimp only); exact KS.out _ (HQ7.out.1.ch.tr (Ch.of_bel (by repeat (first | exact Bel.rf | with_reducible refine Bel.drwN ?_ _ | with_reducible refine Bel.drw ?_ | with_reducible refine Bel.al ?_ _)))) (HQ7.out.2.1.bel (by repeat (first | exact Bel.rf | with_reducible refine Bel.drwN ?_ _ | with_reducible refine Bel.drw ?_ | with_reducible refine Bel.al ?_ _))) (HQ7.out.2.2.2.bel (by repeat (first | exact Bel.rf | with_reducible refine Bel.drwN ?_ _ | with_reducible refine Bel.drw ?_ | with_reducible refine Bel.al ?_ _)))
              clear hK K hH2
              try simp only [Act.put, setIfInBounds_toArray, set_cons_zero, set_cons_succ]
              refine Rb.till_take (i := 17) (oi := ⟨some 33, .fieldAddr 59 (.tmp 5) 0, 0, "make.go:196", #[⟨0, .phase⟩, ⟨1, .phase⟩, ⟨2, .phase⟩, ⟨3, .phase⟩, ⟨4, .phase⟩, ⟨5, .phase⟩, ⟨6, .phase⟩, ⟨7, .phase⟩, ⟨8, .phase⟩, ⟨9, .phase⟩, ⟨10, .phase⟩, ⟨11, .phase⟩, ⟨12, .phase⟩, ⟨13, .phase⟩, ⟨14, .textOnly Departure.lateStores⟩, ⟨15, .textOnly Departure.lateStores⟩, ⟨16, .textOnly Departure.lateStoresUnsure⟩], none⟩) (v := ?_) rfl (by kernel_rfl) (by kernel_rfl) (by kernel_rfl) (fun _ _ _ h => h) (by decide) opU rfl (by kernel_rfl) (by kernel_rfl) (Or.inl ⟨by kernel_rfl, ?_⟩) (by assumption) ?_
              rotate_left
              · (intro w hSw; (try dsimp only at hSw); obtain ⟨d1, d2, d3, d4⟩ := hSw; go_simp; try with_reducible rfl)
              try simp only [Act.put, setIfInBounds_toArray, set_cons_zero, set_cons_succ]
              refine Rb.till_ready (rs := [16]) (by kernel_rfl) (by simp) ?_
              refine Rb.AllT.cons (o := ⟨some 32, .call { callee := Callee.builtin Builtin.append, args := #[.tmp 29, .tmp 31], argTypes := #[22, 22] }, 22, "make.go:196", #[⟨13, .data⟩, ⟨15, .data⟩, ⟨11, .chain⟩], none⟩) rfl (fun K hK => ?_) (Rb.AllT.nil)
              · refine step_app _ rfl (.tmp 29) (.tmp 31) rfl (w.heap.size + 1 + 1 + 1) v i B rfl (own_bel HQ7.out.1.ov (by repeat (first | exact Bel.rf | with_reducible refine Bel.drwN ?_ _ | with_reducible refine Bel.drw ?_ | with_reducible refine Bel.al ?_ _))) ⟨w6.heap.size + 1, 0, none⟩ 1 1 [2] rfl (zi_bk (L := [2]) (HX7.out.bel (by repeat (first | exact Bel.rf | with_reducible refine Bel.drwN ?_ _ | with_reducible refine Bel.drw ?_ | with_reducible refine Bel.al ?_ _))) 1 rfl) HI1.out (by have := HQ7.out.1.sz; simp; omega) ?_; intro v12 x12 h12 hg12 ha12; obtain ⟨A12, c12, hv12, _⟩ := own_any h12; subst hv12; have HQ12 : Hid (Wq g (w.heap.size + 1 + 1 + 1) w x12 (.slice A7 (i + 1) c7) (.slice A12 (i + 1) c12) (i + 1) (i + 1) (S ++ [s]) (B ++ [2]) ∧ Bk x12 w.heap.size 59 #[.slice (some ad) n fc, .slice bF n fd] ∧ Bk x12 (w.heap.size + 1) 59 #[.slice none 0 0, .slice none 0 0] ∧ Bk x12 (w.heap.size + 1 + 1) 59 #[u, v]) := ⟨((HQ7.out.1.up (by repeat (first | exact Bel.rf | with_reducible refine Bel.drwN ?_ _ | with_reducible refine Bel.drw ?_ | with_reducible refine Bel.al ?_ _))).sx.ax h12 hg12 ha12).sx, bk_grw (HQ7.out.2.1.bel (by repeat (first | exact Bel.rf | with_reducible refine Bel.drwN ?_ _ | with_reducible refine Bel.drw ?_ | with_reducible refine Bel.al ?_ _))) hg12 (fun e => by have := (HQ7.out.1.ov.lt _ e).1; omega), bk_grw (HQ7.out.2.2.1.bel (by repeat (first | exact Bel.rf | with_reducible refine Bel.drwN ?_ _ | with_reducible refine Bel.drw ?_ | with_reducible refine Bel.al ?_ _))) hg12 (fun e => by have := (HQ7.out.1.ov.lt _ e).1; omega), bk_grw (HQ7.out.2.2.2.bel (by repeat (first | exact Bel.rf | with_reducible refine Bel.drwN ?_ _ | with_reducible refine Bel.drw ?_ | with_reducible refine Bel.al ?_ _))) hg12 (fun e => by have := (HQ7.out.1.ov.lt _ e).1; omega)⟩; have y0 := HQ12.out.2.2.2.cell 0; have y1 := HQ12.out.2.2.2.cell 1; have z0 := HQ12.out.2.2.2.fr 0; have z1 := HQ12.out.2.2.2.fr 1; simp only [List.getElem?_toArray, List.getElem?_cons_zero, List.getElem?_cons_succ] at y0 y1; clear h12 hg12 ha12
                try go_wp2_with fail
                refine hK.out _ _ ?_ (fun hH4 => ?_)
                · (try dsimp only); exact KS.out _ (HQ12.out.1.ch.tr (Ch.of_bel (by repeat (first | exact Bel.rf | with_reducible refine Bel.drwN ?_ _ | with_reducible refine Bel.drw ?_ | with_reducible refine Bel.al ?_ _)))) (HQ12.out.2.1.bel (by repeat (first | exact Bel.rf | with_reducible refine Bel.drwN ?_ _ | with_reducible refine Bel.drw ?_ | with_reducible refine Bel.al ?_ _))) (HQ12.out.2.2.2.bel (by repeat (first | exact Bel.rf | with_reducible refine Bel.drwN ?_ _ | with_reducible refine Bel.drw ?_ | with_reducible refine Bel.al ?_ _)))
                clear hK K hH3
                try simp only [Act.put, setIfInBounds_toArray, set_cons_zero, set_cons_succ]
                refine Rb.till_ready (rs := [18]) (by kernel_rfl) (by simp) ?_
                refine Rb.AllT.past (o := ⟨none, .store 22 (.tmp 33) (.tmp 27), 0, "make.go:196", #[⟨17, .data⟩, ⟨11, .data⟩, ⟨16, .chain⟩, ⟨0, .phase⟩, ⟨1, .phase⟩, ⟨2, .phase⟩, ⟨3, .phase⟩, ⟨4, .phase⟩, ⟨5, .phase⟩, ⟨6, .phase⟩, ⟨7, .phase⟩, ⟨8, .phase⟩, ⟨9, .phase⟩, ⟨10, .phase⟩, ⟨11, .phase⟩, ⟨12, .phase⟩, ⟨13, .phase⟩, ⟨14, .textOnly Departure.lateStores⟩, ⟨15, .textOnly Departure.lateStores⟩, ⟨16, .textOnly Departure.lateStoresUnsure⟩], none⟩) rfl (by kernel_rfl) (fun K hK => ?_) (Rb.AllT.nil)
                · go_simp
                  try go_wp2_with fail
                  refine hK.out _ _ trivial (fun hH5 => ?_)
                  clear hK K hH4
                  try simp only [Act.put, setIfInBounds_toArray, set_cons_zero, set_cons_succ]
                  refine Rb.till_free (i := 19) (oi := ⟨some 34, .fieldAddr 59 (.tmp 5) 1, 0, "make.go:196", #[⟨0, .phase⟩, ⟨1, .phase⟩, ⟨2, .phase⟩, ⟨3, .phase⟩, ⟨4, .phase⟩, ⟨5, .phase⟩, ⟨6, .phase⟩, ⟨7, .phase⟩, ⟨8, .phase⟩, ⟨9, .phase⟩, ⟨10, .phase⟩, ⟨11, .phase⟩, ⟨12, .phase⟩, ⟨13, .phase⟩, ⟨14, .phase⟩, ⟨15, .phase⟩, ⟨16, .phase⟩, ⟨17, .phase⟩, ⟨18, .phase⟩], none⟩) (v := ?_) rfl (by kernel_rfl) (by kernel_rfl) (by kernel_rfl) (fun _ _ _ h => h) (by decide) (Or.inl ⟨by kernel_rfl, ?_⟩) (fun h => absurd h (by decide)) ?_
                  rotate_left
                  · (intro w hSw; clear hSw; go_simp; try with_reducible rfl)
                  try simp only [Act.put, setIfInBounds_toArray, set_cons_zero, set_cons_succ]
                  refine Rb.till_ready (rs := [20]) (by kernel_rfl) (by simp) ?_
                  refine Rb.AllT.past (o := ⟨none, .store 22 (.tmp 34) (.tmp 32), 0, "make.go:196", #[⟨19, .data⟩, ⟨16, .data⟩, ⟨18, .chain⟩, ⟨0, .phase⟩, ⟨1, .phase⟩, ⟨2, .phase⟩, ⟨3, .phase⟩, ⟨4, .phase⟩, ⟨5, .phase⟩, ⟨6, .phase⟩, ⟨7, .phase⟩, ⟨8, .phase⟩, ⟨9, .phase⟩, ⟨10, .phase⟩, ⟨11, .phase⟩, ⟨12, .phase⟩, ⟨13, .phase⟩, ⟨14, .phase⟩, ⟨15, .phase⟩, ⟨16, .phase⟩, ⟨17, .phase⟩, ⟨18, .phase⟩], none⟩) rfl (by kernel_rfl) (fun K hK => ?_) (Rb.AllT.nil)
                  · go_simp
                    try go_wp2_with fail
                    refine hK.out _ _ trivial (fun hH6 => ?_)
                    clear hK K hH5
                    try simp only [Act.put, setIfInBounds_toArray, set_cons_zero, set_cons_succ]
                    refine Rb.till_done (by kernel_rfl) ?_ _
                    refine NoPanic.normal ?_
                    have HFL : Hid (Gd (i + 1) (S ++ [s]) (B ++ [2]) ∧ Us (i + 1) F (S ++ [s]) (B ++ [2]) ∧ Wq g (w.heap.size + 1 + 1 + 1) w ((x12.setCell ⟨w.heap.size + 1 + 1, 0, none⟩ (.slice A7 (i + 1) c7)).setCell ⟨w.heap.size + 1 + 1, 1, none⟩ (.slice A12 (i + 1) c12)) (.slice A7 (i + 1) c7) (.slice A12 (i + 1) c12) (i + 1) (i + 1) (S ++ [s]) (B ++ [2]) ∧ Bk ((x12.setCell ⟨w.heap.size + 1 + 1, 0, none⟩ (.slice A7 (i + 1) c7)).setCell ⟨w.heap.size + 1 + 1, 1, none⟩ (.slice A12 (i + 1) c12)) w.heap.size 59 #[.slice (some ad) n fc, .slice bF n fd] ∧ Bk ((x12.setCell ⟨w.heap.size + 1 + 1, 0, none⟩ (.slice A7 (i + 1) c7)).setCell ⟨w.heap.size + 1 + 1, 1, none⟩ (.slice A12 (i + 1) c12)) (w.heap.size + 1) 59 #[.slice none 0 0, .slice none 0 0] ∧ Bk ((x12.setCell ⟨w.heap.size + 1 + 1, 0, none⟩ (.slice A7 (i + 1) c7)).setCell ⟨w.heap.size + 1 + 1, 1, none⟩ (.slice A12 (i + 1) c12)) (w.heap.size + 1 + 1) 59 #[.slice A7 (i + 1) c7, .slice A12 (i + 1) c12]) := ⟨gd_snoc HGD.out (by decide) (by decide) HS5.out.1 HS5.out.2.1, us_snoc HUS.out HGD.out.1 HGD.out.2.1 HS5.out.2.2, (HQ12.out.1.st (by omega) (by omega) (by have := HGB.out; omega) _ _).st (by omega) (by omega) (by have := HGB.out; omega) _ _, (HQ12.out.2.1.far (by dsimp only; omega) _).far (by dsimp only; omega) _, (HQ12.out.2.2.1.far (by dsimp only; omega) _).far (by dsimp only; omega) _, (HQ12.out.2.2.2.st 0 _).st 1 _⟩
                    go_wp2_with fail
                    go_roundw
                    case rel => exact ⟨i + 1, _, _, _, _, _, rfl, by go_num, by omega, HFL.out.1, HFL.out.2.1, HFL.out.2.2.1, HFL.out.2.2.2.1, HFL.out.2.2.2.2.1, HFL.out.2.2.2.2.2⟩
                    case measure => simp [intOf]; omega
        · go_simp
          try go_wp2_with fail
          refine hK.out _ _ ?_ (fun hH1 => ?_)
          · (try dsimp only); exact KS.out _ (HQ6.out.1.ch.tr (Ch.of_bel (by repeat (first | exact Bel.rf | with_reducible refine Bel.drwN ?_ _ | with_reducible refine Bel.drw ?_ | with_reducible refine Bel.al ?_ _)))) (HQ6.out.2.1.bel (by repeat (first | exact Bel.rf | with_reducible refine Bel.drwN ?_ _ | with_reducible refine Bel.drw ?_ | with_reducible refine Bel.al ?_ _))) (HQ6.out.2.2.2.bel (by repeat (first | exact Bel.rf | with_reducible refine Bel.drwN ?_ _ | with_reducible refine Bel.drw ?_ | with_reducible refine Bel.al ?_ _)))
          clear hK K hH0
          try simp only [Act.put, setIfInBounds_toArray, set_cons_zero, set_cons_succ]
          refine Rb.till_ready (rs := [10]) (by kernel_rfl) (by simp) ?_
          refine Rb.AllT.cons (o := ⟨some 26, .buildSlice 22 1 #[(0, .tmp 25)], 22, "make.go:196", #[⟨9, .data⟩], none⟩) rfl (fun K hK => ?_) (Rb.AllT.nil)
          · go_simp
            try go_wp2_with fail
            refine hK.out _ _ ?_ (fun hH2 => ?_)
            · (try dsimp only); exact KS.out _ (HQ6.out.1.ch.tr (Ch.of_bel (by repeat (first | exact Bel.rf | with_reducible refine Bel.drwN ?_ _ | with_reducible refine Bel.drw ?_ | with_reducible refine Bel.al ?_ _)))) (HQ6.out.2.1.bel (by repeat (first | exact Bel.rf | with_reducible refine Bel.drwN ?_ _ | with_reducible refine Bel.drw ?_ | with_reducible refine Bel.al ?_ _))) (HQ6.out.2.2.2.bel (by repeat (first | exact Bel.rf | with_reducible refine Bel.drwN ?_ _ | with_reducible refine Bel.drw ?_ | with_reducible refine Bel.al ?_ _)))
            clear hK K hH1
            try simp only [Act.put, setIfInBounds_toArray, set_cons_zero, set_cons_succ]
            refine Rb.till_ready (rs := [11]) (by kernel_rfl) (by simp) ?_
            refine Rb.AllT.cons (o := ⟨some 27, .call { callee := Callee.builtin Builtin.append, args := #[.tmp 17, .tmp 26], argTypes := #[22, 22] }, 22, "make.go:196", #[⟨1, .data⟩, ⟨10, .data⟩], none⟩) rfl (fun K hK => ?_) (Rb.AllT.nil)
            · refine step_app _ rfl (.tmp 17) (.tmp 26) rfl (w.heap.size + 1 + 1 + 1) u i S rfl (own_bel HQ6.out.1.ou (by repeat (first | exact Bel.rf | with_reducible refine Bel.drwN ?_ _ | with_reducible refine Bel.drw ?_ | with_reducible refine Bel.al ?_ _))) ⟨w6.heap.size + 1, 0, none⟩ 1 1 [s] rfl (zi_bk (L := [s]) ((by repeat (first | (refine Bk.nq _ _ _ ?_; simp; done) | with_reducible refine Bk.drwN ?_ _ | with_reducible refine Bk.drw ?_ | with_reducible refine Bk.al ?_ _)) : Bk _ (w6.heap.size + 1) 3 (zs [s]).toArray) 1 rfl) HI1.out (by have := HQ6.out.1.sz; simp; omega) ?_; intro v7 x7 h7 hg7 ha7; obtain ⟨A7, c7, hv7, _⟩ := own_any h7; subst hv7; have HQ7 : Hid (Wq g (w.heap.size + 1 + 1 + 1) w x7 (.slice A7 (i + 1) c7) v (i + 1) i (S ++ [s]) B ∧ Bk x7 w.heap.size 59 #[.slice (some ad) n fc, .slice bF n fd] ∧ Bk x7 (w.heap.size + 1) 59 #[.slice none 0 0, .slice none 0 0] ∧ Bk x7 (w.heap.size + 1 + 1) 59 #[u, v]) := ⟨(HQ6.out.1.up (by repeat (first | exact Bel.rf | with_reducible refine Bel.drwN ?_ _ | with_reducible refine Bel.drw ?_ | with_reducible refine Bel.al ?_ _))).ax h7 hg7 ha7, bk_grw (HQ6.out.2.1.bel (by repeat (first | exact Bel.rf | with_reducible refine Bel.drwN ?_ _ | with_reducible refine Bel.drw ?_ | with_reducible refine Bel.al ?_ _))) hg7 (fun e => by have := (HQ6.out.1.ou.lt _ e).1; omega), bk_grw (HQ6.out.2.2.1.bel (by repeat (first | exact Bel.rf | with_reducible refine Bel.drwN ?_ _ | with_reducible refine Bel.drw ?_ | with_reducible refine Bel.al ?_ _))) hg7 (fun e => by have := (HQ6.out.1.ou.lt _ e).1; omega), bk_grw (HQ6.out.2.2.2.bel (by repeat (first | exact Bel.rf | with_reducible refine Bel.drwN ?_ _ | with_reducible refine Bel.drw ?_ | with_reducible refine Bel.al ?_ _))) hg7 (fun e => by have := (HQ6.out.1.ou.lt _ e).1; omega)⟩; have HX7 : Hid (Bk x7 w6.heap.size 3 (zs [2]).toArray) := bk_grw ((by repeat (first | (refine Bk.nq _ _ _ ?_; simp; done) | with_reducible refine Bk.drwN ?_ _ | with_reducible refine Bk.drw ?_ | with_reducible refine Bk.al ?_ _)) : Bk _ w6.heap.size 3 (zs [2]).toArray) hg7 (fun e => by have := HB6.out _ e; omega); clear h7 hg7 ha7
              try go_wp2_with fail
              refine hK.out _ _ ?_ (fun hH3 => ?_)
              · (try dsimp only); exact KS.out _ (HQ7.out.1.ch.tr (Ch.of_bel (by repeat (first | exact Bel.rf | with_reducible refine Bel.drwN ?_ _ | with_reducible refine Bel.drw ?_ | with_reducible refine Bel.al ?_ _)))) (HQ7.out.2.1.bel (by repeat (first | exact Bel.rf | with_reducible refine Bel.drwN ?_ _ | with_reducible refine Bel.drw ?_ | with_reducible refine Bel.al ?_ _))) (HQ7.out.2.2.2.bel (by repeat (first | exact Bel.rf | with_reducible refine Bel.drwN ?_ _ | with_reducible refine Bel.drw ?_ | with_reducible refine Bel.al ?_ _)))
              clear hK K hH2
              try simp only [Act.put, setIfInBounds_toArray, set_cons_zero, set_cons_succ]
              refine Rb.till_take (i := 17) (oi := ⟨some 33, .fieldAddr 59 (.tmp 5) 0, 0, "make.go:196", #[⟨0, .phase⟩, ⟨1, .phase⟩, ⟨2, .phase⟩, ⟨3, .phase⟩, ⟨4, .phase⟩, ⟨5, .phase⟩, ⟨6, .phase⟩, ⟨7, .phase⟩, ⟨8, .phase⟩, ⟨9, .phase⟩, ⟨10, .phase⟩, ⟨11, .phase⟩, ⟨12, .phase⟩, ⟨13, .phase⟩, ⟨14, .textOnly Departure.lateStores⟩, ⟨15, .textOnly Departure.lateStores⟩, ⟨16, .textOnly Departure.lateStoresUnsure⟩], none⟩) (v := ?_) rfl (by kernel_rfl) (by kernel_rfl) (by kernel_rfl) (fun _ _ _ h => h) (by decide) opU rfl (by kernel_rfl) (by kernel_rfl) (Or.inl ⟨by kernel_rfl, ?_⟩) (by assumption) ?_
              rotate_left
              · (intro w hSw; (try dsimp only at hSw); obtain ⟨d1, d2, d3, d4⟩ := hSw; go_simp; try with_reducible rfl)
              try simp only [Act.put, setIfInBounds_toArray, set_cons_zero, set_cons_succ]
              refine Rb.till_ready (rs := [16]) (by kernel_rfl) (by simp) ?_
              refine Rb.AllT.cons (o := ⟨some 32, .call { callee := Callee.builtin Builtin.append, args := #[.tmp 29, .tmp 31], argTypes := #[22, 22] }, 22, "make.go:196", #[⟨13, .data⟩, ⟨15, .data⟩, ⟨11, .chain⟩], none⟩) rfl (fun K hK => ?_) (Rb.AllT.nil)
              · refine step_app _ rfl (.tmp 29) (.tmp 31) rfl (w.heap.size + 1 + 1 + 1) v i B rfl (own_bel HQ7.out.1.ov (by repeat (first | exact Bel.rf | with_reducible refine Bel.drwN ?_ _ | with_reducible refine Bel.drw ?_ | with_reducible refine Bel.al ?_ _))) ⟨w6.heap.size, 0, none⟩ 1 1 [2] rfl (zi_bk (L := [2]) (HX7.out.bel (by repeat (first | exact Bel.rf | with_reducible refine Bel.drwN ?_ _ | with_reducible refine Bel.drw ?_ | with_reducible refine Bel.al ?_ _))) 1 rfl) HI1.out (by have := HQ7.out.1.sz; simp; omega) ?_; intro v12 x12 h12 hg12 ha12; obtain ⟨A12, c12, hv12, _⟩ := own_any h12; subst hv12; have HQ12 : Hid (Wq g (w.heap.size + 1 + 1 + 1) w x12 (.slice A7 (i + 1) c7) (.slice A12 (i + 1) c12) (i + 1) (i + 1) (S ++ [s]) (B ++ [2]) ∧ Bk x12 w.heap.size 59 #[.slice (some ad) n fc, .slice bF n fd] ∧ Bk x12 (w.heap.size + 1) 59 #[.slice none 0 0, .slice none 0 0] ∧ Bk x12 (w.heap.size + 1 + 1) 59 #[u, v]) := ⟨((HQ7.out.1.up (by repeat (first | exact Bel.rf | with_reducible refine Bel.drwN ?_ _ | with_reducible refine Bel.drw ?_ | with_reducible refine Bel.al ?_ _))).sx.ax h12 hg12 ha12).sx, bk_grw (HQ7.out.2.1.bel (by repeat (first | exact Bel.rf | with_reducible refine Bel.drwN ?_ _ | with_reducible refine Bel.drw ?_ | with_reducible refine Bel.al ?_ _))) hg12 (fun e => by have := (HQ7.out.1.ov.lt _ e).1; omega), bk_grw (HQ7.out.2.2.1.bel (by repeat (first | exact Bel.rf | with_reducible refine Bel.drwN ?_ _ | with_reducible refine Bel.drw ?_ | with_reducible refine Bel.al ?_ _))) hg12 (fun e => by have := (HQ7.out.1.ov.lt _ e).1; omega), bk_grw (HQ7.out.2.2.2.bel (by repeat (first | exact Bel.rf | with_reducible refine Bel.drwN ?_ _ | with_reducible refine Bel.drw ?_ | with_reducible refine Bel.al ?_ _))) hg12 (fun e => by have := (HQ7.out.1.ov.lt _ e).1; omega)⟩; have y0 := HQ12.out.2.2.2.cell 0; have y1 := HQ12.out.2.2.2.cell 1; have z0 := HQ12.out.2.2.2.fr 0; have z1 := HQ12.out.2.2.2.fr 1; simp only [List.getElem?_toArray, List.getElem?_cons_zero, List.getElem?_cons_succ] at y0 y1; clear h12 hg12 ha12
                try go_wp2_with fail
                refine hK.out _ _ ?_ (fun hH4 => ?_)
                · (try dsimp only); exact KS.out _ (HQ12.out.1.ch.tr (Ch.of_bel (by repeat (first | exact Bel.rf | with_reducible refine Bel.drwN ?_ _ | with_reducible refine Bel.drw ?_ | with_reducible refine Bel.al ?_ _)))) (HQ12.out.2.1.bel (by repeat (first | exact Bel.rf | with_reducible refine Bel.drwN ?_ _ | with_reducible refine Bel.drw ?_ | with_reducible refine Bel.al ?_ _))) (HQ12.out.2.2.2.bel (by repeat (first | exact Bel.rf | with_reducible refine Bel.drwN ?_ _ | with_reducible refine Bel.drw ?_ | with_reducible refine Bel.al ?_ _)))
                clear hK K hH3
                try simp only [Act.put, setIfInBounds_toArray, set_cons_zero, set_cons_succ]
                refine Rb.till_ready (rs := [18]) (by kernel_rfl) (by simp) ?_
                refine Rb.AllT.past (o := ⟨none, .store 22 (.tmp 33) (.tmp 27), 0, "make.go:196", #[⟨17, .data⟩, ⟨11, .data⟩, ⟨16, .chain⟩, ⟨0, .phase⟩, ⟨1, .phase⟩, ⟨2, .phase⟩, ⟨3, .phase⟩, ⟨4, .phase⟩, ⟨5, .phase⟩, ⟨6, .phase⟩, ⟨7, .phase⟩, ⟨8, .phase⟩, ⟨9, .phase⟩, ⟨10, .phase⟩, ⟨11, .phase⟩, ⟨12, .phase⟩, ⟨13, .phase⟩, ⟨14, .textOnly Departure.lateStores⟩, ⟨15, .textOnly Departure.lateStores⟩, ⟨16, .textOnly Departure.lateStoresUnsure⟩], none⟩) rfl (by kernel_rfl) (fun K hK => ?_) (Rb.AllT.nil)
                · go_simp
                  try go_wp2_with fail
                  refine hK.out _ _ trivial (fun hH5 => ?_)
                  clear hK K hH4
                  try simp only [Act.put, setIfInBounds_toArray, set_cons_zero, set_cons_succ]
                  refine Rb.till_free (i := 19) (oi := ⟨some 34, .fieldAddr 59 (.tmp 5) 1, 0, "make.go:196", #[⟨0, .phase⟩, ⟨1, .phase⟩, ⟨2, .phase⟩, ⟨3, .phase⟩, ⟨4, .phase⟩, ⟨5, .phase⟩, ⟨6, .phase⟩, ⟨7, .phase⟩, ⟨8, .phase⟩, ⟨9, .phase⟩, ⟨10, .phase⟩, ⟨11, .phase⟩, ⟨12, .phase⟩, ⟨13, .phase⟩, ⟨14, .phase⟩, ⟨15, .phase⟩, ⟨16, .phase⟩, ⟨17, .phase⟩, ⟨18, .phase⟩], none⟩) (v := ?_) rfl (by kernel_rfl) (by kernel_rfl) (by kernel_rfl) (fun _ _ _ h => h) (by decide) (Or.inl ⟨by kernel_rfl, ?_⟩) (fun h => absurd h (by decide)) ?_
                  rotate_left
                  · (intro w hSw; clear hSw; go_simp; try with_reducible rfl)
                  try simp only [Act.put, setIfInBounds_toArray, set_cons_zero, set_cons_succ]
                  refine Rb.till_ready (rs := [20]) (by kernel_rfl) (by simp) ?_
                  refine Rb.AllT.past (o := ⟨none, .store 22 (.tmp 34) (.tmp 32), 0, "make.go:196", #[⟨19, .data⟩, ⟨16, .data⟩, ⟨18, .chain⟩, ⟨0, .phase⟩, ⟨1, .phase⟩, ⟨2, .phase⟩, ⟨3, .phase⟩, ⟨4, .phase⟩, ⟨5, .phase⟩, ⟨6, .phase⟩, ⟨7, .phase⟩, ⟨8, .phase⟩, ⟨9, .phase⟩, ⟨10, .phase⟩, ⟨11, .phase⟩, ⟨12, .phase⟩, ⟨13, .phase⟩, ⟨14, .phase⟩, ⟨15, .phase⟩, ⟨16, .phase⟩, ⟨17, .phase⟩, ⟨18, .phase⟩], none⟩) rfl (by kernel_rfl) (fun K hK => ?_) (Rb.AllT.nil)
                  · go_simp
                    try go_wp2_with fail
                    refine hK.out _ _ trivial (fun hH6 => ?_)
                    clear hK K hH5
                    try simp only [Act.put, setIfInBounds_toArray, set_cons_zero, set_cons_succ]
                    refine Rb.till_done (by kernel_rfl) ?_ _
                    refine NoPanic.normal ?_
                    have HFL : Hid (Gd (i + 1) (S ++ [s]) (B ++ [2]) ∧ Us (i + 1) F (S ++ [s]) (B ++ [2]) ∧ Wq g (w.heap.size + 1 + 1 + 1) w ((x12.setCell ⟨w.heap.size + 1 + 1, 0, none⟩ (.slice A7 (i + 1) c7)).setCell ⟨w.heap.size + 1 + 1, 1, none⟩ (.slice A12 (i + 1) c12)) (.slice A7 (i + 1) c7) (.slice A12 (i + 1) c12) (i + 1) (i + 1) (S ++ [s]) (B ++ [2]) ∧ Bk ((x12.setCell ⟨w.heap.size + 1 + 1, 0, none⟩ (.slice A7 (i + 1) c7)).setCell ⟨w.heap.size + 1 + 1, 1, none⟩ (.slice A12 (i + 1) c12)) w.heap.size 59 #[.slice (some ad) n fc, .slice bF n fd] ∧ Bk ((x12.setCell ⟨w.heap.size + 1 + 1, 0, none⟩ (.slice A7 (i + 1) c7)).setCell ⟨w.heap.size + 1 + 1, 1, none⟩ (.slice A12 (i + 1) c12)) (w.heap.size + 1) 59 #[.slice none 0 0, .slice none 0 0] ∧ Bk ((x12.setCell ⟨w.heap.size + 1 + 1, 0, none⟩ (.slice A7 (i + 1) c7)).setCell ⟨w.heap.size + 1 + 1, 1, none⟩ (.slice A12 (i + 1) c12)) (w.heap.size + 1 + 1) 59 #[.slice A7 (i + 1) c7, .slice A12 (i + 1) c12]) := ⟨gd_snoc HGD.out (by decide) (by decide) HS5.out.1 HS5.out.2.1, us_snoc HUS.out HGD.out.1 HGD.out.2.1 HS5.out.2.2, (HQ12.out.1.st (by omega) (by omega) (by have := HGB.out; omega) _ _).st (by omega) (by omega) (by have := HGB.out; omega) _ _, (HQ12.out.2.1.far (by dsimp only; omega) _).far (by dsimp only; omega) _, (HQ12.out.2.2.1.far (by dsimp only; omega) _).far (by dsimp only; omega) _, (HQ12.out.2.2.2.st 0 _).st 1 _⟩
                    go_wp2_with fail
                    go_roundw
                    case rel => exact ⟨i + 1, _, _, _, _, _, rfl, by go_num, by omega, HFL.out.1, HFL.out.2.1, HFL.out.2.2.1, HFL.out.2.2.2.1, HFL.out.2.2.2.2.1, HFL.out.2.2.2.2.2⟩
                    case measure => simp [intOf]; omega
      · have wv1 : IntKind.i64.wrap 8 = 8 := by decide
        have wv2 : IntKind.i64.wrap (2 ^ 3) = 8 := by decide
        obtain ⟨s, hs⟩ : ∃ s, x / 2 = s := ⟨_, rfl⟩
        have wv3 : IntKind.i64.wrap 1 = 1 := by decide
        have hs9 : s = F.getD i 0 / 2 ^ (4 - (3 : Int).toNat) := by rw [HX.out]; exact hs.symm
        have HS5 : Hid (0 ≤ s ∧ s < 2 ^ (3 : Int).toNat ∧ s = F.getD i 0 / 2 ^ (4 - (3 : Int).toNat)) := ⟨by rw [← hs]; exact Int.ediv_nonneg x0 (by decide), (by show s < 8; (try simp at hs); omega), hs9⟩
        clear HY hs9
        go_wp2_with fail
        refine wp_region_noPanic ?_
        refine Rb.wp_region_till (S := fun W => W.cell? (⟨w.heap.size + 1 + 1, 0, none⟩ : Addr) = some u ∧ W.cell? (⟨w.heap.size + 1 + 1, 1, none⟩ : Addr) = some v ∧ W.cell? (⟨w.heap.size, 0, none⟩ : Addr) = some (.slice (some ad) n fc) ∧ W.cell? (ad.add i) = some (.int .i64 x)) 18 (by kernel_rfl) ?_ (fun hH0 => ?_)
        · (try dsimp only); exact KS.out _ (HQ6.out.1.ch.tr (Ch.of_bel (by repeat (first | exact Bel.rf | with_reducible refine Bel.drwN ?_ _ | with_reducible refine Bel.drw ?_ | with_reducible refine Bel.al ?_ _)))) (HQ6.out.2.1.bel (by repeat (first | exact Bel.rf | with_reducible refine Bel.drwN ?_ _ | with_reducible refine Bel.drw ?_ | with_reducible refine Bel.al ?_ _))) (HQ6.out.2.2.2.bel (by repeat (first | exact Bel.rf | with_reducible refine Bel.drwN ?_ _ | with_reducible refine Bel.drw ?_ | with_reducible refine Bel.al ?_ _)))
        refine Rb.till_take (i := 0) (oi := ⟨some 16, .fieldAddr 59 (.tmp 5) 0, 0, "make.go:196", #[], none⟩) (v := ?_) rfl (by kernel_rfl) (by kernel_rfl) (by kernel_rfl) (fun _ _ _ h => h) (by decide) opU rfl (by kernel_rfl) (by kernel_rfl) (Or.inl ⟨by kernel_rfl, ?_⟩) (by assumption) ?_
        rotate_left
        · (intro w hSw; (try dsimp only at hSw); obtain ⟨d1, d2, d3, d4⟩ := hSw; go_simp; try with_reducible rfl)
        try simp only [Act.put, setIfInBounds_toArray, set_cons_zero, set_cons_succ]
        refine Rb.till_take (i := 1) (oi := ⟨some 17, .load 22 (.tmp 16), 22, "make.go:196", #[⟨0, .data⟩], none⟩) (v := ?_) rfl (by kernel_rfl) (by kernel_rfl) (by kernel_rfl) (fun _ _ _ h => h) (by decide) opU rfl (by kernel_rfl) (by kernel_rfl) (Or.inl ⟨by kernel_rfl, ?_⟩) (by assumption) ?_
        rotate_left
        · (intro w hSw; (try dsimp only at hSw); obtain ⟨d1, d2, d3, d4⟩ := hSw; go_simp; try with_reducible rfl)
        try simp only [Act.put, setIfInBounds_toArray, set_cons_zero, set_cons_succ]
        refine Rb.till_take (i := 2) (oi := ⟨some 18, .fieldAddr 59 (.tmp 3) 0, 0, "make.go:196", #[], none⟩) (v := ?_) rfl (by kernel_rfl) (by kernel_rfl) (by kernel_rfl) (fun _ _ _ h => h) (by decide) opU rfl (by kernel_rfl) (by kernel_rfl) (Or.inl ⟨by kernel_rfl, ?_⟩) (by assumption) ?_
        rotate_left
        · (intro w hSw; (try dsimp only at hSw); obtain ⟨d1, d2, d3, d4⟩ := hSw; go_simp; try with_reducible rfl)
        try simp only [Act.put, setIfInBounds_toArray, set_cons_zero, set_cons_succ]
        refine Rb.till_take (i := 3) (oi := ⟨some 19, .load 22 (.tmp 18), 22, "make.go:196", #[⟨2, .data⟩], none⟩) (v := ?_) rfl (by kernel_rfl) (by kernel_rfl) (by kernel_rfl) (fun _ _ _ h => h) (by decide) opU rfl (by kernel_rfl) (by kernel_rfl) (Or.inl ⟨by kernel_rfl, ?_⟩) (by assumption) ?_
        rotate_left
        · (intro w hSw; (try dsimp only at hSw); obtain ⟨d1, d2, d3, d4⟩ := hSw; go_simp; try with_reducible rfl)
        try simp only [Act.put, setIfInBounds_toArray, set_cons_zero, set_cons_succ]
        refine Rb.till_take (i := 4) (oi := ⟨some 20, .move (.tmp 6), 3, "make.go:196", #[], none⟩) (v := ?_) rfl (by kernel_rfl) (by kernel_rfl) (by kernel_rfl) (fun _ _ _ h => h) (by decide) opU rfl (by kernel_rfl) (by kernel_rfl) (Or.inl ⟨by kernel_rfl, ?_⟩) (by assumption) ?_
        rotate_left
        · (intro w hSw; (try dsimp only at hSw); obtain ⟨d1, d2, d3, d4⟩ := hSw; go_simp; try with_reducible rfl)
        try simp only [Act.put, setIfInBounds_toArray, set_cons_zero, set_cons_succ]
        refine Rb.till_take (i := 5) (oi := ⟨some 21, .indexAddr 22 (.tmp 19) (.tmp 20), 0, "make.go:196", #[⟨3, .data⟩, ⟨4, .data⟩], none⟩) (v := ?_) rfl (by kernel_rfl) (by kernel_rfl) (by kernel_rfl) (fun _ _ _ h => h) (by decide) opU rfl (by kernel_rfl) (by kernel_rfl) (Or.inl ⟨by kernel_rfl, ?_⟩) (by assumption) ?_
        rotate_left
        · (intro w hSw; (try dsimp only at hSw); obtain ⟨d1, d2, d3, d4⟩ := hSw; go_simp; try with_reducible rfl)
        try simp only [Act.put, setIfInBounds_toArray, set_cons_zero, set_cons_succ]
        refine Rb.till_take (i := 6) (oi := ⟨some 22, .load 3 (.tmp 21), 3, "make.go:196", #[⟨5, .data⟩], none⟩) (v := ?_) rfl (by kernel_rfl) (by kernel_rfl) (by kernel_rfl) (fun _ _ _ h => h) (by decide) opU rfl (by kernel_rfl) (by kernel_rfl) (Or.inl ⟨by kernel_rfl, ?_⟩) (by assumption) ?_
        rotate_left
        · (intro w hSw; (try dsimp only at hSw); obtain ⟨d1, d2, d3, d4⟩ := hSw; go_simp; try with_reducible rfl)
        try simp only [Act.put, setIfInBounds_toArray, set_cons_zero, set_cons_succ]
        refine Rb.till_take (i := 7) (oi := ⟨some 23, .move (.tmp 7), 3, "make.go:196", #[], none⟩) (v := ?_) rfl (by kernel_rfl) (by kernel_rfl) (by kernel_rfl) (fun _ _ _ h => h) (by decide) opU rfl (by kernel_rfl) (by kernel_rfl) (Or.inl ⟨by kernel_rfl, ?_⟩) (by assumption) ?_
        rotate_left
        · (intro w hSw; (try dsimp only at hSw); obtain ⟨d1, d2, d3, d4⟩ := hSw; go_simp; try with_reducible rfl)
        try simp only [Act.put, setIfInBounds_toArray, set_cons_zero, set_cons_succ]
        refine Rb.till_take (i := 8) (oi := ⟨some 24, .binOp BinOp.sub 3 (.const (.int IntKind.i64 4)) (.tmp 23) 3, 3, "make.go:196", #[⟨7, .data⟩], none⟩) (v := ?_) rfl (by kernel_rfl) (by kernel_rfl) (by kernel_rfl) (fun _ _ _ h => h) (by decide) opU rfl (by kernel_rfl) (by kernel_rfl) (Or.inl ⟨by kernel_rfl, ?_⟩) (by assumption) ?_
        rotate_left
        · (intro w hSw; (try dsimp only at hSw); obtain ⟨d1, d2, d3, d4⟩ := hSw; go_simp; try with_reducible rfl)
        try simp only [Act.put, setIfInBounds_toArray, set_cons_zero, set_cons_succ]
        refine Rb.till_take (i := 9) (oi := ⟨some 25, .binOp BinOp.shr 3 (.tmp 22) (.tmp 24) 3, 3, "make.go:196", #[⟨6, .data⟩, ⟨8, .data⟩], none⟩) (v := ?_) rfl (by kernel_rfl) (by kernel_rfl) (by kernel_rfl) (fun _ _ _ h => h) (by decide) opU rfl (by kernel_rfl) (by kernel_rfl) (Or.inl ⟨by kernel_rfl, ?_⟩) (by assumption) ?_
        rotate_left
        · (intro w hSw; (try dsimp only at hSw); obtain ⟨d1, d2, d3, d4⟩ := hSw; go_simp; try with_reducible rfl)
        try simp only [Act.put, setIfInBounds_toArray, set_cons_zero, set_cons_succ]
        refine Rb.till_take (i := 12) (oi := ⟨some 28, .fieldAddr 59 (.tmp 5) 1, 0, "make.go:196", #[], none⟩) (v := ?_) rfl (by kernel_rfl) (by kernel_rfl) (by kernel_rfl) (fun _ _ _ h => h) (by decide) opU rfl (by kernel_rfl) (by kernel_rfl) (Or.inl ⟨by kernel_rfl, ?_⟩) (by assumption) ?_
        rotate_left
        · (intro w hSw; (try dsimp only at hSw); obtain ⟨d1, d2, d3, d4⟩ := hSw; go_simp; try with_reducible rfl)
        try simp only [Act.put, setIfInBounds_toArray, set_cons_zero, set_cons_succ]
        refine Rb.till_take (i := 13) (oi := ⟨some 29, .load 22 (.tmp 28), 22, "make.go:196", #[⟨12, .data⟩], none⟩) (v := ?_) rfl (by kernel_rfl) (by kernel_rfl) (by kernel_rfl) (fun _ _ _ h => h) (by decide) opU rfl (by kernel_rfl) (by kernel_rfl) (Or.inl ⟨by kernel_rfl, ?_⟩) (by assumption) ?_
        rotate_left
        · (intro w hSw; (try dsimp only at hSw); obtain ⟨d1, d2, d3, d4⟩ := hSw; go_simp; try with_reducible rfl)
        try simp only [Act.put, setIfInBounds_toArray, set_cons_zero, set_cons_succ]
        refine Rb.till_free (i := 14) (oi := ⟨some 30, .move (.tmp 7), 3, "make.go:196", #[], none⟩) (v := ?_) rfl (by kernel_rfl) (by kernel_rfl) (by kernel_rfl) (fun _ _ _ h => h) (by decide) (Or.inl ⟨by kernel_rfl, ?_⟩) (fun _ => by assumption) ?_
        rotate_left
        · (intro w hSw; clear hSw; go_simp; try with_reducible rfl)
        try simp only [Act.put, setIfInBounds_toArray, set_cons_zero, set_cons_succ]
        refine Rb.till_ready (rs := [10, 15]) (by kernel_rfl) (by simp) ?_
        refine Rb.AllT.cons (o := ⟨some 26, .buildSlice 22 1 #[(0, .tmp 25)], 22, "make.go:196", #[⟨9, .data⟩], none⟩) rfl (fun K hK => ?_) (Rb.AllT.cons (o := ⟨some 31, .buildSlice 22 1 #[(0, .tmp 30)], 22, "make.go:196", #[⟨14, .data⟩], none⟩) rfl (fun K hK => ?_) (Rb.AllT.nil))
        · go_simp
          try go_wp2_with fail
          refine hK.out _ _ ?_ (fun hH1 => ?_)
          · (try dsimp only); exact KS.out _ (HQ6.out.1.ch.tr (Ch.of_bel (by repeat (first | exact Bel.rf | with_reducible refine Bel.drwN ?_ _ | with_reducible refine Bel.drw ?_ | with_reducible refine Bel.al ?_ _)))) (HQ6.out.2.1.bel (by repeat (first | exact Bel.rf | with_reducible refine Bel.drwN ?_ _ | with_reducible refine Bel.drw ?_ | with_reducible refine Bel.al ?_ _))) (HQ6.out.2.2.2.bel (by repeat (first | exact Bel.rf | with_reducible refine Bel.drwN ?_ _ | with_reducible refine Bel.drw ?_ | with_reducible refine Bel.al ?_ _)))
          clear hK K hH0
          try simp only [Act.put, setIfInBounds_toArray, set_cons_zero, set_cons_succ]
          refine Rb.till_ready (rs := [11, 15]) (by kernel_rfl) (by simp) ?_
          refine Rb.AllT.cons (o := ⟨some 27, .call { callee := Callee.builtin Builtin.append, args := #[.tmp 17, .tmp 26], argTypes := #[22, 22] }, 22, "make.go:196", #[⟨1, .data⟩, ⟨10, .data⟩], none⟩) rfl (fun K hK => ?_) (Rb.AllT.cons (o := ⟨some 31, .buildSlice 22 1 #[(0, .tmp 30)], 22, "make.go:196", #[⟨14, .data⟩], none⟩) rfl (fun K hK => ?_) (Rb.AllT.nil))
          · refine step_app _ rfl (.tmp 17) (.tmp 26) rfl (w.heap.size + 1 + 1 + 1) u i S rfl (own_bel HQ6.out.1.ou (by repeat (first | exact Bel.rf | with_reducible refine Bel.drwN ?_ _ | with_reducible refine Bel.drw ?_ | with_reducible refine Bel.al ?_ _))) ⟨w6.heap.size, 0, none⟩ 1 1 [s] rfl (zi_bk (L := [s]) ((by repeat (first | (refine Bk.nq _ _ _ ?_; simp; done) | with_reducible refine Bk.drwN ?_ _ | with_reducible refine Bk.drw ?_ | with_reducible refine Bk.al ?_ _)) : Bk _ w6.heap.size 3 (zs [s]).toArray) 1 rfl) HI1.out (by have := HQ6.out.1.sz; simp; omega) ?_; intro v7 x7 h7 hg7 ha7; obtain ⟨A7, c7, hv7, _⟩ := own_any h7; subst hv7; have HQ7 : Hid (Wq g (w.heap.size + 1 + 1 + 1) w x7 (.slice A7 (i + 1) c7) v (i + 1) i (S ++ [s]) B ∧ Bk x7 w.heap.size 59 #[.slice (some ad) n fc, .slice bF n fd] ∧ Bk x7 (w.heap.size + 1) 59 #[.slice none 0 0, .slice none 0 0] ∧ Bk x7 (w.heap.size + 1 + 1) 59 #[u, v]) := ⟨(HQ6.out.1.up (by repeat (first | exact Bel.rf | with_reducible refine Bel.drwN ?_ _ | with_reducible refine Bel.drw ?_ | with_reducible refine Bel.al ?_ _))).ax h7 hg7 ha7, bk_grw (HQ6.out.2.1.bel (by repeat (first | exact Bel.rf | with_reducible refine Bel.drwN ?_ _ | with_reducible refine Bel.drw ?_ | with_reducible refine Bel.al ?_ _))) hg7 (fun e => by have := (HQ6.out.1.ou.lt _ e).1; omega), bk_grw (HQ6.out.2.2.1.bel (by repeat (first | exact Bel.rf | with_reducible refine Bel.drwN ?_ _ | with_reducible refine Bel.drw ?_ | with_reducible refine Bel.al ?_ _))) hg7 (fun e => by have := (HQ6.out.1.ou.lt _ e).1; omega), bk_grw (HQ6.out.2.2.2.bel (by repeat (first | exact Bel.rf | with_reducible refine Bel.drwN ?_ _ | with_reducible refine Bel.drw ?_ | with_reducible refine Bel.al ?_ _))) hg7 (fun e => by have := (HQ6.out.1.ou.lt _ e).1; omega)⟩; clear h7 hg7 ha7
            try go_wp2_with fail
            refine hK.out _ _ ?_ (fun hH2 => ?_)
            · (try dsimp only); exact KS.out _ (HQ7.out.1.ch.tr (Ch.of_bel (by repeat (first | exact Bel.rf | with_reducible refine Bel.drwN ?_ _ | with_reducible refine Bel.drw ?_ | with_reducible refine Bel.al ?_ _)))) (HQ7.out.2.1.bel (by repeat (first | exact Bel.rf | with_reducible refine Bel.drwN ?_ _ | with_reducible refine Bel.drw ?_ | with_reducible refine Bel.al ?_ _))) (HQ7.out.2.2.2.bel (by repeat (first | exact Bel.rf | with_reducible refine Bel.drwN ?_ _ | with_reducible refine Bel.drw ?_ | with_reducible refine Bel.al ?_ _)))
            clear hK K hH1
            try simp only [Act.put, setIfInBounds_toArray, set_cons_zero, set_cons_succ]
            refine Rb.till_take (i := 17) (oi := ⟨some 33, .fieldAddr 59 (.tmp 5) 0, 0, "make.go:196", #[⟨0, .phase⟩, ⟨1, .phase⟩, ⟨2, .phase⟩, ⟨3, .phase⟩, ⟨4, .phase⟩, ⟨5, .phase⟩, ⟨6, .phase⟩, ⟨7, .phase⟩, ⟨8, .phase⟩, ⟨9, .phase⟩, ⟨10, .phase⟩, ⟨11, .phase⟩, ⟨12, .phase⟩, ⟨13, .phase⟩, ⟨14, .textOnly Departure.lateStores⟩, ⟨15, .textOnly Departure.lateStores⟩, ⟨16, .textOnly Departure.lateStoresUnsure⟩], none⟩) (v := ?_) rfl (by kernel_rfl) (by kernel_rfl) (by kernel_rfl) (fun _ _ _ h => h) (by decide) opU rfl (by kernel_rfl) (by kernel_rfl) (Or.inl ⟨by kernel_rfl, ?_⟩) (by assumption) ?_
            rotate_left
            · (intro w hSw; (try dsimp only at hSw); obtain ⟨d1, d2, d3, d4⟩ := hSw; go_simp; try with_reducible rfl)
            try simp only [Act.put, setIfInBounds_toArray, set_cons_zero, set_cons_succ]
            refine Rb.till_ready (rs := [15]) (by kernel_rfl) (by simp) ?_
            refine Rb.AllT.cons (o := ⟨some 31, .buildSlice 22 1 #[(0, .tmp 30)], 22, "make.go:196", #[⟨14, .data⟩], none⟩) rfl (fun K hK => ?_) (Rb.AllT.nil)
            · go_simp
              try go_wp2_with fail
              refine hK.out _ _ ?_ (fun hH3 => ?_)
              · (try dsimp only); exact KS.out _ (HQ7.out.1.ch.tr (Ch.of_bel (by repeat (first | exact Bel.rf | with_reducible refine Bel.drwN ?_ _ | with_reducible refine Bel.drw ?_ | with_reducible refine Bel.al ?_ _)))) (HQ7.out.2.1.bel (by repeat (first | exact Bel.rf | with_reducible refine Bel.drwN ?_ _ | with_reducible refine Bel.drw ?_ | with_reducible refine Bel.al ?_ _))) (HQ7.out.2.2.2.bel (by repeat (first | exact Bel.rf | with_reducible refine Bel.drwN ?_ _ | with_reducible refine Bel.drw ?_ | with_reducible refine Bel.al ?_ _)))
              clear hK K hH2
              try simp only [Act.put, setIfInBounds_toArray, set_cons_zero, set_cons_succ]
              refine Rb.till_ready (rs := [16]) (by kernel_rfl) (by simp) ?_
              refine Rb.AllT.cons (o := ⟨some 32, .call { callee := Callee.builtin Builtin.append, args := #[.tmp 29, .tmp 31], argTypes := #[22, 22] }, 22, "make.go:196", #[⟨13, .data⟩, ⟨15, .data⟩, ⟨11, .chain⟩], none⟩) rfl (fun K hK => ?_) (Rb.AllT.nil)
              · refine step_app _ rfl (.tmp 29) (.tmp 31) rfl (w.heap.size + 1 + 1 + 1) v i B rfl (own_bel HQ7.out.1.ov (by repeat (first | exact Bel.rf | with_reducible refine Bel.drwN ?_ _ | with_reducible refine Bel.drw ?_ | with_reducible refine Bel.al ?_ _))) ⟨x7.heap.size, 0, none⟩ 1 1 [3] rfl (zi_bk (L := [3]) ((by repeat (first | (refine Bk.nq _ _ _ ?_; simp; done) | with_reducible refine Bk.drwN ?_ _ | with_reducible refine Bk.drw ?_ | with_reducible refine Bk.al ?_ _)) : Bk _ x7.heap.size 3 (zs [3]).toArray) 1 rfl) HI1.out (by have := HQ7.out.1.sz; simp; omega) ?_; intro v12 x12 h12 hg12 ha12; obtain ⟨A12, c12, hv12, _⟩ := own_any h12; subst hv12; have HQ12 : Hid (Wq g (w.heap.size + 1 + 1 + 1) w x12 (.slice A7 (i + 1) c7) (.slice A12 (i + 1) c12) (i + 1) (i + 1) (S ++ [s]) (B ++ [3]) ∧ Bk x12 w.heap.size 59 #[.slice (some ad) n fc, .slice bF n fd] ∧ Bk x12 (w.heap.size + 1) 59 #[.slice none 0 0, .slice none 0 0] ∧ Bk x12 (w.heap.size + 1 + 1) 59 #[u, v]) := ⟨((HQ7.out.1.up (by repeat (first | exact Bel.rf | with_reducible refine Bel.drwN ?_ _ | with_reducible refine Bel.drw ?_ | with_reducible refine Bel.al ?_ _))).sx.ax h12 hg12 ha12).sx, bk_grw (HQ7.out.2.1.bel (by repeat (first | exact Bel.rf | with_reducible refine Bel.drwN ?_ _ | with_reducible refine Bel.drw ?_ | with_reducible refine Bel.al ?_ _))) hg12 (fun e => by have := (HQ7.out.1.ov.lt _ e).1; omega), bk_grw (HQ7.out.2.2.1.bel (by repeat (first | exact Bel.rf | with_reducible refine Bel.drwN ?_ _ | with_reducible refine Bel.drw ?_ | with_reducible refine Bel.al ?_ _))) hg12 (fun e => by have := (HQ7.out.1.ov.lt _ e).1; omega), bk_grw (HQ7.out.2.2.2.bel (by repeat (first | exact Bel.rf | with_reducible refine Bel.drwN ?_ _ | with_reducible refine Bel.drw ?_ | with_reducible refine Bel.al ?_ _))) hg12 (fun e => by have := (HQ7.out.1.ov.lt _ e).1; omega)⟩; have y0 := HQ12.out.2.2.2.cell 0; have y1 := HQ12.out.2.2.2.cell 1; have z0 := HQ12.out.2.2.2.fr 0; have z1 := HQ12.out.2.2.2.fr 1; simp only [List.getElem?_toArray, List.getElem?_cons_zero, List.getElem?_cons_succ] at y0 y1; clear h12 hg12 ha12
                try go_wp2_with fail
                refine hK.out _ _ ?_ (fun hH4 => ?_)
                · (try dsimp only); exact KS.out _ (HQ12.out.1.ch.tr (Ch.of_bel (by repeat (first | exact Bel.rf | with_reducible refine Bel.drwN ?_ _ | with_reducible refine Bel.drw ?_ | with_reducible refine Bel.al ?_ _)))) (HQ12.out.2.1.bel (by repeat (first | exact Bel.rf | with_reducible refine Bel.drwN ?_ _ | with_reducible refine Bel.drw ?_ | with_reducible refine Bel.al ?_ _))) (HQ12.out.2.2.2.bel (by repeat (first | exact Bel.rf | with_reducible refine Bel.drwN ?_ _ | with_reducible refine Bel.drw ?_ | with_reducible refine Bel.al ?_ _)))
                clear hK K hH3
                try simp only [Act.put, setIfInBounds_toArray, set_cons_zero, set_cons_succ]
                refine Rb.till_ready (rs := [18]) (by kernel_rfl) (by simp) ?_
                refine Rb.AllT.past (o := ⟨none, .store 22 (.tmp 33) (.tmp 27), 0, "make.go:196", #[⟨17, .data⟩, ⟨11, .data⟩, ⟨16, .chain⟩, ⟨0, .phase⟩, ⟨1, .phase⟩, ⟨2, .phase⟩, ⟨3, .phase⟩, ⟨4, .phase⟩, ⟨5, .phase⟩, ⟨6, .phase⟩, ⟨7, .phase⟩, ⟨8, .phase⟩, ⟨9, .phase⟩, ⟨10, .phase⟩, ⟨11, .phase⟩, ⟨12, .phase⟩, ⟨13, .phase⟩, ⟨14, .textOnly Departure.lateStores⟩, ⟨15, .textOnly Departure.lateStores⟩, ⟨16, .textOnly Departure.lateStoresUnsure⟩], none⟩) rfl (by kernel_rfl) (fun K hK => ?_) (Rb.AllT.nil)
                · go_simp
                  try go_wp2_with fail
                  refine hK.out _ _ trivial (fun hH5 => ?_)
                  clear hK K hH4
                  try simp only [Act.put, setIfInBounds_toArray, set_cons_zero, set_cons_succ]
                  refine Rb.till_free (i := 19) (oi := ⟨some 34, .fieldAddr 59 (.tmp 5) 1, 0, "make.go:196", #[⟨0, .phase⟩, ⟨1, .phase⟩, ⟨2, .phase⟩, ⟨3, .phase⟩, ⟨4, .phase⟩, ⟨5, .phase⟩, ⟨6, .phase⟩, ⟨7, .phase⟩, ⟨8, .phase⟩, ⟨9, .phase⟩, ⟨10, .phase⟩, ⟨11, .phase⟩, ⟨12, .phase⟩, ⟨13, .phase⟩, ⟨14, .phase⟩, ⟨15, .phase⟩, ⟨16, .phase⟩, ⟨17, .phase⟩, ⟨18, .phase⟩], none⟩) (v := ?_) rfl (by kernel_rfl) (by kernel_rfl) (by kernel_rfl) (fun _ _ _ h => h) (by decide) (Or.inl ⟨by kernel_rfl, ?_⟩) (fun h => absurd h (by decide)) ?_
                  rotate_left
                  · (intro w hSw; clear hSw; go_simp; try with_reducible rfl)
                  try simp only [Act.put, setIfInBounds_toArray, set_cons_zero, set_cons_succ]
                  refine Rb.till_ready (rs := [20]) (by kernel_rfl) (by simp) ?_
                  refine Rb.AllT.past (o := ⟨none, .store 22 (.tmp 34) (.tmp 32), 0, "make.go:196", #[⟨19, .data⟩, ⟨16, .data⟩, ⟨18, .chain⟩, ⟨0, .phase⟩, ⟨1, .phase⟩, ⟨2, .phase⟩, ⟨3, .phase⟩, ⟨4, .phase⟩, ⟨5, .phase⟩, ⟨6, .phase⟩, ⟨7, .phase⟩, ⟨8, .phase⟩, ⟨9, .phase⟩, ⟨10, .phase⟩, ⟨11, .phase⟩, ⟨12, .phase⟩, ⟨13, .phase⟩, ⟨14, .phase⟩, ⟨15, .phase⟩, ⟨16, .phase⟩, ⟨17, .phase⟩, ⟨18, .phase⟩], none⟩) rfl (by kernel_rfl) (fun K hK => ?_) (Rb.AllT.nil)
                  · go_simp
                    try go_wp2_with fail
                    refine hK.out _ _ trivial (fun hH6 => ?_)
                    clear hK K hH5
                    try simp only [Act.put, setIfInBounds_toArray, set_cons_zero, set_cons_succ]
                    refine Rb.till_done (by kernel_rfl) ?_ _
                    refine NoPanic.normal ?_
                    have HFL : Hid (Gd (i + 1) (S ++ [s]) (B ++ [3]) ∧ Us (i + 1) F (S ++ [s]) (B ++ [3]) ∧ Wq g (w.heap.size + 1 + 1 + 1) w ((x12.setCell ⟨w.heap.size + 1 + 1, 0, none⟩ (.slice A7 (i + 1) c7)).setCell ⟨w.heap.size + 1 + 1, 1, none⟩ (.slice A12 (i + 1) c12)) (.slice A7 (i + 1) c7) (.slice A12 (i + 1) c12) (i + 1) (i + 1) (S ++ [s]) (B ++ [3]) ∧ Bk ((x12.setCell ⟨w.heap.size + 1 + 1, 0, none⟩ (.slice A7 (i + 1) c7)).setCell ⟨w.heap.size + 1 + 1, 1, none⟩ (.slice A12 (i + 1) c12)) w.heap.size 59 #[.slice (some ad) n fc, .slice bF n fd] ∧ Bk ((x12.setCell ⟨w.heap.size + 1 + 1, 0, none⟩ (.slice A7 (i + 1) c7)).setCell ⟨w.heap.size + 1 + 1, 1, none⟩ (.slice A12 (i + 1) c12)) (w.heap.size + 1) 59 #[.slice none 0 0, .slice none 0 0] ∧ Bk ((x12.setCell ⟨w.heap.size + 1 + 1, 0, none⟩ (.slice A7 (i + 1) c7)).setCell ⟨w.heap.size + 1 + 1, 1, none⟩ (.slice A12 (i + 1) c12)) (w.heap.size + 1 + 1) 59 #[.slice A7 (i + 1) c7, .slice A12 (i + 1) c12]) := ⟨gd_snoc HGD.out (by decide) (by decide) HS5.out.1 HS5.out.2.1, us_snoc HUS.out HGD.out.1 HGD.out.2.1 HS5.out.2.2, (HQ12.out.1.st (by omega) (by omega) (by have := HGB.out; omega) _ _).st (by omega) (by omega) (by have := HGB.out; omega) _ _, (HQ12.out.2.1.far (by dsimp only; omega) _).far (by dsimp only; omega) _, (HQ12.out.2.2.1.far (by dsimp only; omega) _).far (by dsimp only; omega) _, (HQ12.out.2.2.2.st 0 _).st 1 _⟩
                    go_wp2_with fail
                    go_roundw
                    case rel => exact ⟨i + 1, _, _, _, _, _, rfl, by go_num, by omega, HFL.out.1, HFL.out.2.1, HFL.out.2.2.1, HFL.out.2.2.2.1, HFL.out.2.2.2.2.1, HFL.out.2.2.2.2.2⟩
                    case measure => simp [intOf]; omega
          · go_simp
            try go_wp2_with fail
            refine hK.out _ _ ?_ (fun hH2 => ?_)
            · (try dsimp only); exact KS.out _ (HQ6.out.1.ch.tr (Ch.of_bel (by repeat (first | exact Bel.rf | with_reducible refine Bel.drwN ?_ _ | with_reducible refine Bel.drw ?_ | with_reducible refine Bel.al ?_ _)))) (HQ6.out.2.1.bel (by repeat (first | exact Bel.rf | with_reducible refine Bel.drwN ?_ _ | with_reducible refine Bel.drw ?_ | with_reducible refine Bel.al ?_ _))) (HQ6.out.2.2.2.bel (by repeat (first | exact Bel.rf | with_reducible refine Bel.drwN ?_ _ | with_reducible refine Bel.drw ?_ | with_reducible refine Bel.al ?_ _)))
            clear hK K hH1
            try simp only [Act.put, setIfInBounds_toArray, set_cons_zero, set_cons_succ]
            refine Rb.till_ready (rs := [11]) (by kernel_rfl) (by simp) ?_
            refine Rb.AllT.cons (o := ⟨some 27, .call { callee := Callee.builtin Builtin.append, args := #[.tmp 17, .tmp 26], argTypes := #[22, 22] }, 22, "make.go:196", #[⟨1, .data⟩, ⟨10, .data⟩], none⟩) rfl (fun K hK => ?_) (Rb.AllT.nil)
            · refine step_app _ rfl (.tmp 17) (.tmp 26) rfl (w.heap.size + 1 + 1 + 1) u i S rfl (own_bel HQ6.out.1.ou (by repeat (first | exact Bel.rf | with_reducible refine Bel.drwN ?_ _ | with_reducible refine Bel.drw ?_ | with_reducible refine Bel.al ?_ _))) ⟨w6.heap.size, 0, none⟩ 1 1 [s] rfl (zi_bk (L := [s]) ((by repeat (first | (refine Bk.nq _ _ _ ?_; simp; done) | with_reducible refine Bk.drwN ?_ _ | with_reducible refine Bk.drw ?_ | with_reducible refine Bk.al ?_ _)) : Bk _ w6.heap.size 3 (zs [s]).toArray) 1 rfl) HI1.out (by have := HQ6.out.1.sz; simp; omega) ?_; intro v7 x7 h7 hg7 ha7; obtain ⟨A7, c7, hv7, _⟩ := own_any h7; subst hv7; have HQ7 : Hid (Wq g (w.heap.size + 1 + 1 + 1) w x7 (.slice A7 (i + 1) c7) v (i + 1) i (S ++ [s]) B ∧ Bk x7 w.heap.size 59 #[.slice (some ad) n fc, .slice bF n fd] ∧ Bk x7 (w.heap.size + 1) 59 #[.slice none 0 0, .slice none 0 0] ∧ Bk x7 (w.heap.size + 1 + 1) 59 #[u, v]) := ⟨(HQ6.out.1.up (by repeat (first | exact Bel.rf | with_reducible refine Bel.drwN ?_ _ | with_reducible refine Bel.drw ?_ | with_reducible refine Bel.al ?_ _))).ax h7 hg7 ha7, bk_grw (HQ6.out.2.1.bel (by repeat (first | exact Bel.rf | with_reducible refine Bel.drwN ?_ _ | with_reducible refine Bel.drw ?_ | with_reducible refine Bel.al ?_ _))) hg7 (fun e => by have := (HQ6.out.1.ou.lt _ e).1; omega), bk_grw (HQ6.out.2.2.1.bel (by repeat (first | exact Bel.rf | with_reducible refine Bel.drwN ?_ _ | with_reducible refine Bel.drw ?_ | with_reducible refine Bel.al ?_ _))) hg7 (fun e => by have := (HQ6.out.1.ou.lt _ e).1; omega), bk_grw (HQ6.out.2.2.2.bel (by repeat (first | exact Bel.rf | with_reducible refine Bel.drwN ?_ _ | with_reducible refine Bel.drw ?_ | with_reducible refine Bel.al ?_ _))) hg7 (fun e => by have := (HQ6.out.1.ou.lt _ e).1; omega)⟩; have HX7 : Hid (Bk x7 (w6.heap.size + 1) 3 (zs [3]).toArray) := bk_grw ((by repeat (first | (refine Bk.nq _ _ _ ?_; simp; done) | with_reducible refine Bk.drwN ?_ _ | with_reducible refine Bk.drw ?_ | with_reducible refine Bk.al ?_ _)) : Bk _ (w6.heap.size + 1) 3 (zs [3]).toArray) hg7 (fun e => by have := HB6.out _ e; omega); clear h7 hg7 ha7
              try go_wp2_with fail
              refine hK.out _ _ ?_ (fun hH3 => ?_)
              · (try dsimp only); exact KS.out _ (HQ7.out.1.ch.tr (Ch.of_bel (by repeat (first | exact Bel.rf | with_reducible refine Bel.drwN ?_ _ | with_reducible refine Bel.drw ?_ | with_reducible refine Bel.al ?_ _)))) (HQ7.out.2.1.bel (by repeat (first | exact Bel.rf | with_reducible refine Bel.drwN ?_ _ | with_reducible refine Bel.drw ?_ | with_reducible refine Bel.al ?_ _))) (HQ7.out.2.2.2.bel (by repeat (first | exact Bel.rf | with_reducible refine Bel.drwN ?_ _ | with_reducible refine Bel.drw ?_ | with_reducible refine Bel.al ?_ _)))
              clear hK K hH2
              try simp only [Act.put, setIfInBounds_toArray, set_cons_zero, set_cons_succ]
              refine Rb.till_take (i := 17) (oi := ⟨some 33, .fieldAddr 59 (.tmp 5) 0, 0, "make.go:196", #[⟨0, .phase⟩, ⟨1, .phase⟩, ⟨2, .phase⟩, ⟨3, .phase⟩, ⟨4, .phase⟩, ⟨5, .phase⟩, ⟨6, .phase⟩, ⟨7, .phase⟩, ⟨8, .phase⟩, ⟨9, .phase⟩, ⟨10, .phase⟩, ⟨11, .phase⟩, ⟨12, .phase⟩, ⟨13, .phase⟩, ⟨14, .textOnly Departure.lateStores⟩, ⟨15, .textOnly Departure.lateStores⟩, ⟨16, .textOnly Departure.lateStoresUnsure⟩], none⟩) (v := ?_) rfl (by kernel_rfl) (by kernel_rfl) (by kernel_rfl) (fun _ _ _ h => h) (by decide) opU rfl (by kernel_rfl) (by kernel_rfl) (Or.inl ⟨by kernel_rfl, ?_⟩) (by assumption) ?_
              rotate_left
              · (intro w hSw; (try dsimp only at hSw); obtain ⟨d1, d2, d3, d4⟩ := hSw; go_simp; try with_reducible rfl)
              try simp only [Act.put, setIfInBounds_toArray, set_cons_zero, set_cons_succ]
              refine Rb.till_ready (rs := [16]) (by kernel_rfl) (by simp) ?_
              refine Rb.AllT.cons (o := ⟨some 32, .call { callee := Callee.builtin Builtin.append, args := #[.tmp 29, .tmp 31], argTypes := #[22, 22] }, 22, "make.go:196", #[⟨13, .data⟩, ⟨15, .data⟩, ⟨11, .chain⟩], none⟩) rfl (fun K hK => ?_) (Rb.AllT.nil)
              · refine step_app _ rfl (.tmp 29) (.tmp 31) rfl (w.heap.size + 1 + 1 + 1) v i B rfl (own_bel HQ7.out.1.ov (by repeat (first | exact Bel.rf | with_reducible refine Bel.drwN ?_ _ | with_reducible refine Bel.drw ?_ | with_reducible refine Bel.al ?_ _))) ⟨w6.heap.size + 1, 0, none⟩ 1 1 [3] rfl (zi_bk (L := [3]) (HX7.out.bel (by repeat (first | exact Bel.rf | with_reducible refine Bel.drwN ?_ _ | with_reducible refine Bel.drw ?_ | with_reducible refine Bel.al ?_ _))) 1 rfl) HI1.out (by have := HQ7.out.1.sz; simp; omega) ?_; intro v12 x12 h12 hg12 ha12; obtain ⟨A12, c12, hv12, _⟩ := own_any h12; subst hv12; have HQ12 : Hid (Wq g (w.heap.size + 1 + 1 + 1) w x12 (.slice A7 (i + 1) c7) (.slice A12 (i + 1) c12) (i + 1) (i + 1) (S ++ [s]) (B ++ [3]) ∧ Bk x12 w.heap.size 59 #[.slice (some ad) n fc, .slice bF n fd] ∧ Bk x12 (w.heap.size + 1) 59 #[.slice none 0 0, .slice none 0 0] ∧ Bk x12 (w.heap.size + 1 + 1) 59 #[u, v]) := ⟨((HQ7.out.1.up (by repeat (first | exact Bel.rf | with_reducible refine Bel.drwN ?_ _ | with_reducible refine Bel.drw ?_ | with_reducible refine Bel.al ?_ _))).sx.ax h12 hg12 ha12).sx, bk_grw (HQ7.out.2.1.bel (by repeat (first | exact Bel.rf | with_reducible refine Bel.drwN ?_ _ | with_reducible refine Bel.drw ?_ | with_reducible refine Bel.al ?_ _))) hg12 (fun e => by have := (HQ7.out.1.ov.lt _ e).1; omega), bk_grw (HQ7.out.2.2.1.bel (by repeat (first | exact Bel.rf | with_reducible refine Bel.drwN ?_ _ | with_reducible refine Bel.drw ?_ | with_reducible refine Bel.al ?_ _))) hg12 (fun e => by have := (HQ7.out.1.ov.lt _ e).1; omega), bk_grw (HQ7.out.2.2.2.bel (by repeat (first | exact Bel.rf | with_reducible refine Bel.drwN ?_ _ | with_reducible refine Bel.drw ?_ | with_reducible refine Bel.al ?_ _))) hg12 (fun e => by have := (HQ7.out.1.ov.lt _ e).1; omega)⟩; have y0 := HQ12.out.2.2.2.cell 0; have y1 := HQ12.out.2.2.2.cell 1; have z0 := HQ12.out.2.2.2.fr 0; have z1 := HQ12.out.2.2.2.fr 1; simp only [List.getElem?_toArray, List.getElem?_cons_zero, List.getElem?_cons_succ] at y0 y1; clear h12 hg12 ha12
                try go_wp2_with fail
                refine hK.out _ _ ?_ (fun hH4 => ?_)
                · (try dsimp only); exact KS.out _ (HQ12.out.1.ch.tr (Ch.of_bel (by repeat (first | exact Bel.rf | with_reducible refine Bel.drwN ?_ _ | with_reducible refine Bel.drw ?_ | with_reducible refine Bel.al ?_ _)))) (HQ12.out.2.1.bel (by repeat (first | exact Bel.rf | with_reducible refine Bel.drwN ?_ _ | with_reducible refine Bel.drw ?_ | with_reducible refine Bel.al ?_ _))) (HQ12.out.2.2.2.bel (by repeat (first | exact Bel.rf | with_reducible refine Bel.drwN ?_ _ | with_reducible refine Bel.drw ?_ | with_reducible refine Bel.al ?_ _)))
                clear hK K hH3
                try simp only [Act.put, setIfInBounds_toArray, set_cons_zero, set_cons_succ]
                refine Rb.till_ready (rs := [18]) (by kernel_rfl) (by simp) ?_
                refine Rb.AllT.past (o := ⟨none, .store 22 (.tmp 33) (.tmp 27), 0, "make.go:196", #[⟨17, .data⟩, ⟨11, .data⟩, ⟨16, .chain⟩, ⟨0, .phase⟩, ⟨1, .phase⟩, ⟨2, .phase⟩, ⟨3, .phase⟩, ⟨4, .phase⟩, ⟨5, .phase⟩, ⟨6, .phase⟩, ⟨7, .phase⟩, ⟨8, .phase⟩, ⟨9, .phase⟩, ⟨10, .phase⟩, ⟨11, .phase⟩, ⟨12, .phase⟩, ⟨13, .phase⟩, ⟨14, .textOnly Departure.lateStores⟩, ⟨15, .textOnly Departure.lateStores⟩, ⟨16, .textOnly Departure.lateStoresUnsure⟩], none⟩) rfl (by kernel_rfl) (fun K hK => ?_) (Rb.AllT.nil)
                · go_simp
                  try go_wp2_with fail
                  refine hK.out _ _ trivial (fun hH5 => ?_)
                  clear hK K hH4
                  try simp only [Act.put, setIfInBounds_toArray, set_cons_zero, set_cons_succ]
                  refine Rb.till_free (i := 19) (oi := ⟨some 34, .fieldAddr 59 (.tmp 5) 1, 0, "make.go:196", #[⟨0, .phase⟩, ⟨1, .phase⟩, ⟨2, .phase⟩, ⟨3, .phase⟩, ⟨4, .phase⟩, ⟨5, .phase⟩, ⟨6, .phase⟩, ⟨7, .phase⟩, ⟨8, .phase⟩, ⟨9, .phase⟩, ⟨10, .phase⟩, ⟨11, .phase⟩, ⟨12, .phase⟩, ⟨13, .phase⟩, ⟨14, .phase⟩, ⟨15, .phase⟩, ⟨16, .phase⟩, ⟨17, .phase⟩, ⟨18, .phase⟩], none⟩) (v := ?_) rfl (by kernel_rfl) (by kernel_rfl) (by kernel_rfl) (fun _ _ _ h => h) (by decide) (Or.inl ⟨by kernel_rfl, ?_⟩) (fun h => absurd h (by decide)) ?_
                  rotate_left
                  · (intro w hSw; clear hSw; go_simp; try with_reducible rfl)
                  try simp only [Act.put, setIfInBounds_toArray, set_cons_zero, set_cons_succ]
                  refine Rb.till_ready (rs := [20]) (by kernel_rfl) (by simp) ?_
                  refine Rb.AllT.past (o := ⟨none, .store 22 (.tmp 34) (.tmp 32), 0, "make.go:196", #[⟨19, .data⟩, ⟨16, .data⟩, ⟨18, .chain⟩, ⟨0, .phase⟩, ⟨1, .phase⟩, ⟨2, .phase⟩, ⟨3, .phase⟩, ⟨4, .phase⟩, ⟨5, .phase⟩, ⟨6, .phase⟩, ⟨7, .phase⟩, ⟨8, .phase⟩, ⟨9, .phase⟩, ⟨10, .phase⟩, ⟨11, .phase⟩, ⟨12, .phase⟩, ⟨13, .phase⟩, ⟨14, .phase⟩, ⟨15, .phase⟩, ⟨16, .phase⟩, ⟨17, .phase⟩, ⟨18, .phase⟩], none⟩) rfl (by kernel_rfl) (fun K hK => ?_) (Rb.AllT.nil)
                  · go_simp
                    try go_wp2_with fail
                    refine hK.out _ _ trivial (fun hH6 => ?_)
                    clear hK K hH5
                    try simp only [Act.put, setIfInBounds_toArray, set_cons_zero, set_cons_succ]
                    refine Rb.till_done (by kernel_rfl) ?_ _
                    refine NoPanic.normal ?_
                    have HFL : Hid (Gd (i + 1) (S ++ [s]) (B ++ [3]) ∧ Us (i + 1) F (S ++ [s]) (B ++ [3]) ∧ Wq g (w.heap.size + 1 + 1 + 1) w ((x12.setCell ⟨w.heap.size + 1 + 1, 0, none⟩ (.slice A7 (i + 1) c7)).setCell ⟨w.heap.size + 1 + 1, 1, none⟩ (.slice A12 (i + 1) c12)) (.slice A7 (i + 1) c7) (.slice A12 (i + 1) c12) (i + 1) (i + 1) (S ++ [s]) (B ++ [3]) ∧ Bk ((x12.setCell ⟨w.heap.size + 1 + 1, 0, none⟩ (.slice A7 (i + 1) c7)).setCell ⟨w.heap.size + 1 + 1, 1, none⟩ (.slice A12 (i + 1) c12)) w.heap.size 59 #[.slice (some ad) n fc, .slice bF n fd] ∧ Bk ((x12.setCell ⟨w.heap.size + 1 + 1, 0, none⟩ (.slice A7 (i + 1) c7)).setCell ⟨w.heap.size + 1 + 1, 1, none⟩ (.slice A12 (i + 1) c12)) (w.heap.size + 1) 59 #[.slice none 0 0, .slice none 0 0] ∧ Bk ((x12.setCell ⟨w.heap.size + 1 + 1, 0, none⟩ (.slice A7 (i + 1) c7)).setCell ⟨w.heap.size + 1 + 1, 1, none⟩ (.slice A12 (i + 1) c12)) (w.heap.size + 1 + 1) 59 #[.slice A7 (i + 1) c7, .slice A12 (i + 1) c12]) := ⟨gd_snoc HGD.out (by decide) (by decide) HS5.out.1 HS5.out.2.1, us_snoc HUS.out HGD.out.1 HGD.out.2.1 HS5.out.2.2, (HQ12.out.1.st (by omega) (by omega) (by have := HGB.out; omega) _ _).st (by omega) (by omega) (by have := HGB.out; omega) _ _, (HQ12.out.2.1.far (by dsimp only; omega) _).far (by dsimp only; omega) _, (HQ12.out.2.2.1.far (by dsimp only; omega) _).far (by dsimp only; omega) _, (HQ12.out.2.2.2.st 0 _).st 1 _⟩
                    go_wp2_with fail
                    go_roundw
                    case rel => exact ⟨i + 1, _, _, _, _, _, rfl, by go_num, by omega, HFL.out.1, HFL.out.2.1, HFL.out.2.2.1, HFL.out.2.2.2.1, HFL.out.2.2.2.2.1, HFL.out.2.2.2.2.2⟩
                    case measure => simp [intOf]; omega
        · go_simp
          try go_wp2_with fail
          refine hK.out _ _ ?_ (fun hH1 => ?_)
          · (try dsimp only); exact KS.out _ (HQ6.out.1.ch.tr (Ch.of_bel (by repeat (first | exact Bel.rf | with_reducible refine Bel.drwN ?_ _ | with_reducible refine Bel.drw ?_ | with_reducible refine Bel.al ?_ _)))) (HQ6.out.2.1.bel (by repeat (first | exact Bel.rf | with_reducible refine Bel.drwN ?_ _ | with_reducible refine Bel.drw ?_ | with_reducible refine Bel.al ?_ _))) (HQ6.out.2.2.2.bel (by repeat (first | exact Bel.rf | with_reducible refine Bel.drwN ?_ _ | with_reducible refine Bel.drw ?_ | with_reducible refine Bel.al ?_ _)))
          clear hK K hH0
          try simp only [Act.put, setIfInBounds_toArray, set_cons_zero, set_cons_succ]
          refine Rb.till_ready (rs := [10]) (by kernel_rfl) (by simp) ?_
          refine Rb.AllT.cons (o := ⟨some 26, .buildSlice 22 1 #[(0, .tmp 25)], 22, "make.go:196", #[⟨9, .data⟩], none⟩) rfl (fun K hK => ?_) (Rb.AllT.nil)
          · go_simp
            try go_wp2_with fail
            refine hK.out _ _ ?_ (fun hH2 => ?_)
            · (try dsimp only); exact KS.out _ (HQ6.out.1.ch.tr (Ch.of_bel (by repeat (first | exact Bel.rf | with_reducible refine Bel.drwN ?_ _ | with_reducible refine Bel.drw ?_ | with_reducible refine Bel.al ?_ _)))) (HQ6.out.2.1.bel (by repeat (first | exact Bel.rf | with_reducible refine Bel.drwN ?_ _ | with_reducible refine Bel.drw ?_ | with_reducible refine Bel.al ?_ _))) (HQ6.out.2.2.2.bel (by repeat (first | exact Bel.rf | with_reducible refine Bel.drwN ?_ _ | with_reducible refine Bel.drw ?_ | with_reducible refine Bel.al ?_ _)))
            clear hK K hH1
            try simp only [Act.put, setIfInBounds_toArray, set_cons_zero, set_cons_succ]
            refine Rb.till_ready (rs := [11]) (by kernel_rfl) (by simp) ?_
            refine Rb.AllT.cons (o := ⟨some 27, .call { callee := Callee.builtin Builtin.append, args := #[.tmp 17, .tmp 26], argTypes := #[22, 22] }, 22, "make.go:196", #[⟨1, .data⟩, ⟨10, .data⟩], none⟩) rfl (fun K hK => ?_) (Rb.AllT.nil)
            · refine step_app _ rfl (.tmp 17) (.tmp 26) rfl (w.heap.size + 1 + 1 + 1) u i S rfl (own_bel HQ6.out.1.ou (by repeat (first | exact Bel.rf | with_reducible refine Bel.drwN ?_ _ | with_reducible refine Bel.drw ?_ | with_reducible refine Bel.al ?_ _))) ⟨w6.heap.size + 1, 0, none⟩ 1 1 [s] rfl (zi_bk (L := [s]) ((by repeat (first | (refine Bk.nq _ _ _ ?_; simp; done) | with_reducible refine Bk.drwN ?_ _ | with_reducible refine Bk.drw ?_ | with_reducible refine Bk.al ?_ _)) : Bk _ (w6.heap.size + 1) 3 (zs [s]).toArray) 1 rfl) HI1.out (by have := HQ6.out.1.sz; simp; omega) ?_; intro v7 x7 h7 hg7 ha7; obtain ⟨A7, c7, hv7, _⟩ := own_any h7; subst hv7; have HQ7 : Hid (Wq g (w.heap.size + 1 + 1 + 1) w x7 (.slice A7 (i + 1) c7) v (i + 1) i (S ++ [s]) B ∧ Bk x7 w.heap.size 59 #[.slice (some ad) n fc, .slice bF n fd] ∧ Bk x7 (w.heap.size + 1) 59 #[.slice none 0 0, .slice none 0 0] ∧ Bk x7 (w.heap.size + 1 + 1) 59 #[u, v]) := ⟨(HQ6.out.1.up (by repeat (first | exact Bel.rf | with_reducible refine Bel.drwN ?_ _ | with_reducible refine Bel.drw ?_ | with_reducible refine Bel.al ?_ _))).ax h7 hg7 ha7, bk_grw (HQ6.out.2.1.bel (by repeat (first | exact Bel.rf | with_reducible refine Bel.drwN ?_ _ | with_reducible refine Bel.drw ?_ | with_reducible refine Bel.al ?_ _))) hg7 (fun e => by have := (HQ6.out.1.ou.lt _ e).1; omega), bk_grw (HQ6.out.2.2.1.bel (by repeat (first | exact Bel.rf | with_reducible refine Bel.drwN ?_ _ | with_reducible refine Bel.drw ?_ | with_reducible refine Bel.al ?_ _))) hg7 (fun e => by have := (HQ6.out.1.ou.lt _ e).1; omega), bk_grw (HQ6.out.2.2.2.bel (by repeat (first | exact Bel.rf | with_reducible refine Bel.drwN ?_ _ | with_reducible refine Bel.drw ?_ | with_reducible refine Bel.al ?_ _))) hg7 (fun e => by have := (HQ6.out.1.ou.lt _ e).1; omega)⟩; have HX7 : Hid (Bk x7 w6.heap.size 3 (zs [3]).toArray) := bk_grw ((by repeat (first | (refine Bk.nq _ _ _ ?_; simp; done) | with_reducible refine Bk.drwN ?_ _ | with_reducible refine Bk.drw ?_ | with_reducible refine Bk.al ?_ _)) : Bk _ w6.heap.size 3 (zs [3]).toArray) hg7 (fun e => by have := HB6.out _ e; omega); clear h7 hg7 ha7
              try go_wp2_with fail
              refine hK.out _ _ ?_ (fun hH3 => ?_)
              · (try dsimp only); exact KS.out _ (HQ7.out.1.ch.tr (Ch.of_bel (by repeat (first | exact Bel.rf | with_reducible refine Bel.drwN ?_ _ | with_reducible refine Bel.drw ?_ | with_reducible refine Bel.al ?_ _)))) (HQ7.out.2.1.bel (by repeat (first | exact Bel.rf | with_reducible refine Bel.drwN ?_ _ | with_reducible refine Bel.drw ?_ | with_reducible refine Bel.al ?_ _))) (HQ7.out.2.2.2.bel (by repeat (first | exact Bel.rf | with_reducible refine Bel.drwN ?_ _ | with_reducible refine Bel.drw ?_ | with_reducible refine Bel.al ?_ _)))
              clear hK K hH2
              try simp only [Act.put, setIfInBounds_toArray, set_cons_zero, set_cons_succ]
              refine Rb.till_take (i := 17) (oi := ⟨some 33, .fieldAddr 59 (.tmp 5) 0, 0, "make.go:196", #[⟨0, .phase⟩, ⟨1, .phase⟩, ⟨2, .phase⟩, ⟨3, .phase⟩, ⟨4, .phase⟩, ⟨5, .phase⟩, ⟨6, .phase⟩, ⟨7, .phase⟩, ⟨8, .phase⟩, ⟨9, .phase⟩, ⟨10, .phase⟩, ⟨11, .phase⟩, ⟨12, .phase⟩, ⟨13, .phase⟩, ⟨14, .textOnly Departure.lateStores⟩, ⟨15, .textOnly Departure.lateStores⟩, ⟨16, .textOnly Departure.lateStoresUnsure⟩], none⟩) (v := ?_) rfl (by kernel_rfl) (by kernel_rfl) (by kernel_rfl) (fun _ _ _ h => h) (by decide) opU rfl (by kernel_rfl) (by kernel_rfl) (Or.inl ⟨by kernel_rfl, ?_⟩) (by assumption) ?_
              rotate_left
              · (intro w hSw; (try dsimp only at hSw); obtain ⟨d1, d2, d3, d4⟩ := hSw; go_simp; try with_reducible rfl)
              try simp only [Act.put, setIfInBounds_toArray, set_cons_zero, set_cons_succ]
              refine Rb.till_ready (rs := [16]) (by kernel_rfl) (by simp) ?_
              refine Rb.AllT.cons (o := ⟨some 32, .call { callee := Callee.builtin Builtin.append, args := #[.tmp 29, .tmp 31], argTypes := #[22, 22] }, 22, "make.go:196", #[⟨13, .data⟩, ⟨15, .data⟩, ⟨11, .chain⟩], none⟩) rfl (fun K hK => ?_) (Rb.AllT.nil)
              · refine step_app _ rfl (.tmp 29) (.tmp 31) rfl (w.heap.size + 1 + 1 + 1) v i B rfl (own_bel HQ7.out.1.ov (by repeat (first | exact Bel.rf | with_reducible refine Bel.drwN ?_ _ | with_reducible refine Bel.drw ?_ | with_reducible refine Bel.al ?_ _))) ⟨w6.heap.size, 0, none⟩ 1 1 [3] rfl (zi_bk (L := [3]) (HX7.out.bel (by repeat (first | exact Bel.rf | with_reducible refine Bel.drwN ?_ _ | with_reducible refine Bel.drw ?_ | with_reducible refine Bel.al ?_ _))) 1 rfl) HI1.out (by have := HQ7.out.1.sz; simp; omega) ?_; intro v12 x12 h12 hg12 ha12; obtain ⟨A12, c12, hv12, _⟩ := own_any h12; subst hv12; have HQ12 : Hid (Wq g (w.heap.size + 1 + 1 + 1) w x12 (.slice A7 (i + 1) c7) (.slice A12 (i + 1) c12) (i + 1) (i + 1) (S ++ [s]) (B ++ [3]) ∧ Bk x12 w.heap.size 59 #[.slice (some ad) n fc, .slice bF n fd] ∧ Bk x12 (w.heap.size + 1) 59 #[.slice none 0 0, .slice none 0 0] ∧ Bk x12 (w.heap.size + 1 + 1) 59 #[u, v]) := ⟨((HQ7.out.1.up (by repeat (first | exact Bel.rf | with_reducible refine Bel.drwN ?_ _ | with_reducible refine Bel.drw ?_ | with_reducible refine Bel.al ?_ _))).sx.ax h12 hg12 ha12).sx, bk_grw (HQ7.out.2.1.bel (by repeat (first | exact Bel.rf | with_reducible refine Bel.drwN ?_ _ | with_reducible refine Bel.drw ?_ | with_reducible refine Bel.al ?_ _))) hg12 (fun e => by have := (HQ7.out.1.ov.lt _ e).1; omega), bk_grw (HQ7.out.2.2.1.bel (by repeat (first | exact Bel.rf | with_reducible refine Bel.drwN ?_ _ | with_reducible refine Bel.drw ?_ | with_reducible refine Bel.al ?_ _))) hg12 (fun e => by have := (HQ7.out.1.ov.lt _ e).1; omega), bk_grw (HQ7.out.2.2.2.bel (by repeat (first | exact Bel.rf | with_reducible refine Bel.drwN ?_ _ | with_reducible refine Bel.drw ?_ | with_reducible refine Bel.al ?_ _))) hg12 (fun e => by have := (HQ7.out.1.ov.lt _ e).1; omega)⟩; have y0 := HQ12.out.2.2.2.cell 0; have y1 := HQ12.out.2.2.2.cell 1; have z0 := HQ12.out.2.2.2.fr 0; have z1 := HQ12.out.2.2.2.fr 1; simp only [List.getElem?_toArray, List.getElem?_cons_zero, List.getElem?_cons_succ] at y0 y1; clear h12 hg12 ha12
                try go_wp2_with fail
                refine hK.out _ _ ?_ (fun hH4 => ?_)
                · (try dsimp only); exact KS.out _ (HQ12.out.1.ch.tr (Ch.of_bel (by repeat (first | exact Bel.rf | with_reducible refine Bel.drwN ?_ _ | with_reducible refine Bel.drw ?_ | with_reducible refine Bel.al ?_ _)))) (HQ12.out.2.1.bel (by repeat (first | exact Bel.rf | with_reducible refine Bel.drwN ?_ _ | with_reducible refine Bel.drw ?_ | with_reducible refine Bel.al ?_ _))) (HQ12.out.2.2.2.bel (by repeat (first | exact Bel.rf | with_reducible refine Bel.drwN ?_ _ | with_reducible refine Bel.drw ?_ | with_reducible refine Bel.al ?_ _)))
                clear hK K hH3
                try simp only [Act.put, setIfInBounds_toArray, set_cons_zero, set_cons_succ]
                refine Rb.till_ready (rs := [18]) (by kernel_rfl) (by simp) ?_
                refine Rb.AllT.past (o := ⟨none, .store 22 (.tmp 33) (.tmp 27), 0, "make.go:196", #[⟨17, .data⟩, ⟨11, .data⟩, ⟨16, .chain⟩, ⟨0, .phase⟩, ⟨1, .phase⟩, ⟨2, .phase⟩, ⟨3, .phase⟩, ⟨4, .phase⟩, ⟨5, .phase⟩, ⟨6, .phase⟩, ⟨7, .phase⟩, ⟨8, .phase⟩, ⟨9, .phase⟩, ⟨10, .phase⟩, ⟨11, .phase⟩, ⟨12, .phase⟩, ⟨13, .phase⟩, ⟨14, .textOnly Departure.lateStores⟩, ⟨15, .textOnly Departure.lateStores⟩, ⟨16, .textOnly Departure.lateStoresUnsure⟩], none⟩) rfl (by kernel_rfl) (fun K hK => ?_) (Rb.AllT.nil)
                · go_simp
                  try go_wp2_with fail
                  refine hK.out _ _ trivial (fun hH5 => ?_)
                  clear hK K hH4
                  try simp only [Act.put, setIfInBounds_toArray, set_cons_zero, set_cons_succ]
                  refine Rb.till_free (i := 19) (oi := ⟨some 34, .fieldAddr 59 (.tmp 5) 1, 0, "make.go:196", #[⟨0, .phase⟩, ⟨1, .phase⟩, ⟨2, .phase⟩, ⟨3, .phase⟩, ⟨4, .phase⟩, ⟨5, .phase⟩, ⟨6, .phase⟩, ⟨7, .phase⟩, ⟨8, .phase⟩, ⟨9, .phase⟩, ⟨10, .phase⟩, ⟨11, .phase⟩, ⟨12, .phase⟩, ⟨13, .phase⟩, ⟨14, .phase⟩, ⟨15, .phase⟩, ⟨16, .phase⟩, ⟨17, .phase⟩, ⟨18, .phase⟩], none⟩) (v := ?_) rfl (by kernel_rfl) (by kernel_rfl) (by kernel_rfl) (fun _ _ _ h => h) (by decide) (Or.inl ⟨by kernel_rfl, ?_⟩) (fun h => absurd h (by decide)) ?_
                  rotate_left
                  · (intro w hSw; clear hSw; go_simp; try with_reducible rfl)
                  try simp only [Act.put, setIfInBounds_toArray, set_cons_zero, set_cons_succ]
                  refine Rb.till_ready (rs := [20]) (by kernel_rfl) (by simp) ?_
                  refine Rb.AllT.past (o := ⟨none, .store 22 (.tmp 34) (.tmp 32), 0, "make.go:196", #[⟨19, .data⟩, ⟨16, .data⟩, ⟨18, .chain⟩, ⟨0, .phase⟩, ⟨1, .phase⟩, ⟨2, .phase⟩, ⟨3, .phase⟩, ⟨4, .phase⟩, ⟨5, .phase⟩, ⟨6, .phase⟩, ⟨7, .phase⟩, ⟨8, .phase⟩, ⟨9, .phase⟩, ⟨10, .phase⟩, ⟨11, .phase⟩, ⟨12, .phase⟩, ⟨13, .phase⟩, ⟨14, .phase⟩, ⟨15, .phase⟩, ⟨16, .phase⟩, ⟨17, .phase⟩, ⟨18, .phase⟩], none⟩) rfl (by kernel_rfl) (fun K hK => ?_) (Rb.AllT.nil)
                  · go_simp
                    try go_wp2_with fail
                    refine hK.out _ _ trivial (fun hH6 => ?_)
                    clear hK K hH5
                    try simp only [Act.put, setIfInBounds_toArray, set_cons_zero, set_cons_succ]
                    refine Rb.till_done (by kernel_rfl) ?_ _
                    refine NoPanic.normal ?_
                    have HFL : Hid (Gd (i + 1) (S ++ [s]) (B ++ [3]) ∧ Us (i + 1) F (S ++ [s]) (B ++ [3]) ∧ Wq g (w.heap.size + 1 + 1 + 1) w ((x12.setCell ⟨w.heap.size + 1 + 1, 0, none⟩ (.slice A7 (i + 1) c7)).setCell ⟨w.heap.size + 1 + 1, 1, none⟩ (.slice A12 (i + 1) c12)) (.slice A7 (i + 1) c7) (.slice A12 (i + 1) c12) (i + 1) (i + 1) (S ++ [s]) (B ++ [3]) ∧ Bk ((x12.setCell ⟨w.heap.size + 1 + 1, 0, none⟩ (.slice A7 (i + 1) c7)).setCell ⟨w.heap.size + 1 + 1, 1, none⟩ (.slice A12 (i + 1) c12)) w.heap.size 59 #[.slice (some ad) n fc, .slice bF n fd] ∧ Bk ((x12.setCell ⟨w.heap.size + 1 + 1, 0, none⟩ (.slice A7 (i + 1) c7)).setCell ⟨w.heap.size + 1 + 1, 1, none⟩ (.slice A12 (i + 1) c12)) (w.heap.size + 1) 59 #[.slice none 0 0, .slice none 0 0] ∧ Bk ((x12.setCell ⟨w.heap.size + 1 + 1, 0, none⟩ (.slice A7 (i + 1) c7)).setCell ⟨w.heap.size + 1 + 1, 1, none⟩ (.slice A12 (i + 1) c12)) (w.heap.size + 1 + 1) 59 #[.slice A7 (i + 1) c7, .slice A12 (i + 1) c12]) := ⟨gd_snoc HGD.out (by decide) (by decide) HS5.out.1 HS5.out.2.1, us_snoc HUS.out HGD.out.1 HGD.out.2.1 HS5.out.2.2, (HQ12.out.1.st (by omega) (by omega) (by have := HGB.out; omega) _ _).st (by omega) (by omega) (by have := HGB.out; omega) _ _, (HQ12.out.2.1.far (by dsimp only; omega) _).far (by dsimp only; omega) _, (HQ12.out.2.2.1.far (by dsimp only; omega) _).far (by dsimp only; omega) _, (HQ12.out.2.2.2.st 0 _).st 1 _⟩
                    go_wp2_with fail
                    go_roundw
                    case rel => exact ⟨i + 1, _, _, _, _, _, rfl, by go_num, by omega, HFL.out.1, HFL.out.2.1, HFL.out.2.2.1, HFL.out.2.2.2.1, HFL.out.2.2.2.2.1, HFL.out.2.2.2.2.2⟩
                    case measure => simp [intOf]; omega
      · have wv1 : IntKind.i64.wrap 16 = 16 := by decide
        have wv2 : IntKind.i64.wrap (2 ^ 4) = 16 := by decide
        obtain ⟨s, hs⟩ : ∃ s, x / 1 = s := ⟨_, rfl⟩
        have wv3 : IntKind.i64.wrap 0 = 0 := by decide
        have hs9 : s = F.getD i 0 / 2 ^ (4 - (4 : Int).toNat) := by rw [HX.out]; exact hs.symm
        have HS5 : Hid (0 ≤ s ∧ s < 2 ^ (4 : Int).toNat ∧ s = F.getD i 0 / 2 ^ (4 - (4 : Int).toNat)) := ⟨by rw [← hs]; exact Int.ediv_nonneg x0 (by decide), (by show s < 16; (try simp at hs); omega), hs9⟩
        clear HY hs9
        go_wp2_with fail
        refine wp_region_noPanic ?_
        refine Rb.wp_region_till (S := fun W => W.cell? (⟨w.heap.size + 1 + 1, 0, none⟩ : Addr) = some u ∧ W.cell? (⟨w.heap.size + 1 + 1, 1, none⟩ : Addr) = some v ∧ W.cell? (⟨w.heap.size, 0, none⟩ : Addr) = some (.slice (some ad) n fc) ∧ W.cell? (ad.add i) = some (.int .i64 x)) 18 (by kernel_rfl) ?_ (fun hH0 => ?_)
        · (try dsimp only); exact KS.out _ (HQ6.out.1.ch.tr (Ch.of_bel (by repeat (first | exact Bel.rf | with_reducible refine Bel.drwN ?_ _ | with_reducible refine Bel.drw ?_ | with_reducible refine Bel.al ?_ _)))) (HQ6.out.2.1.bel (by repeat (first | exact Bel.rf | with_reducible refine Bel.drwN ?_ _ | with_reducible refine Bel.drw ?_ | with_reducible refine Bel.al ?_ _))) (HQ6.out.2.2.2.bel (by repeat (first | exact Bel.rf | with_reducible refine Bel.drwN ?_ _ | with_reducible refine Bel.drw ?_ | with_reducible refine Bel.al ?_ _)))
        refine Rb.till_take (i := 0) (oi := ⟨some 16, .fieldAddr 59 (.tmp 5) 0, 0, "make.go:196", #[], none⟩) (v := ?_) rfl (by kernel_rfl) (by kernel_rfl) (by kernel_rfl) (fun _ _ _ h => h) (by decide) opU rfl (by kernel_rfl) (by kernel_rfl) (Or.inl ⟨by kernel_rfl, ?_⟩) (by assumption) ?_
        rotate_left
        · (intro w hSw; (try dsimp only at hSw); obtain ⟨d1, d2, d3, d4⟩ := hSw; go_simp; try with_reducible rfl)
        try simp only [Act.put, setIfInBounds_toArray, set_cons_zero, set_cons_succ]
        refine Rb.till_take (i := 1) (oi := ⟨some 17, .load 22 (.tmp 16), 22, "make.go:196", #[⟨0, .data⟩], none⟩) (v := ?_) rfl (by kernel_rfl) (by kernel_rfl) (by kernel_rfl) (fun _ _ _ h => h) (by decide) opU rfl (by kernel_rfl) (by kernel_rfl) (Or.inl ⟨by kernel_rfl, ?_⟩) (by assumption) ?_
        rotate_left
        · (intro w hSw; (try dsimp only at hSw); obtain ⟨d1, d2, d3, d4⟩ := hSw; go_simp; try with_reducible rfl)
        try simp only [Act.put, setIfInBounds_toArray, set_cons_zero, set_cons_succ]
        refine Rb.till_take (i := 2) (oi := ⟨some 18, .fieldAddr 59 (.tmp 3) 0, 0, "make.go:196", #[], none⟩) (v := ?_) rfl (by kernel_rfl) (by kernel_rfl) (by kernel_rfl) (fun _ _ _ h => h) (by decide) opU rfl (by kernel_rfl) (by kernel_rfl) (Or.inl ⟨by kernel_rfl, ?_⟩) (by assumption) ?_
        rotate_left
        · (intro w hSw; (try dsimp only at hSw); obtain ⟨d1, d2, d3, d4⟩ := hSw; go_simp; try with_reducible rfl)
        try simp only [Act.put, setIfInBounds_toArray, set_cons_zero, set_cons_succ]
        refine Rb.till_take (i := 3) (oi := ⟨some 19, .load 22 (.tmp 18), 22, "make.go:196", #[⟨2, .data⟩], none⟩) (v := ?_) rfl (by kernel_rfl) (by kernel_rfl) (by kernel_rfl) (fun _ _ _ h => h) (by decide) opU rfl (by kernel_rfl) (by kernel_rfl) (Or.inl ⟨by kernel_rfl, ?_⟩) (by assumption) ?_
        rotate_left
        · (intro w hSw; (try dsimp only at hSw); obtain ⟨d1, d2, d3, d4⟩ := hSw; go_simp; try with_reducible rfl)
        try simp only [Act.put, setIfInBounds_toArray, set_cons_zero, set_cons_succ]
        refine Rb.till_take (i := 4) (oi := ⟨some 20, .move (.tmp 6), 3, "make.go:196", #[], none⟩) (v := ?_) rfl (by kernel_rfl) (by kernel_rfl) (by kernel_rfl) (fun _ _ _ h => h) (by decide) opU rfl (by kernel_rfl) (by kernel_rfl) (Or.inl ⟨by kernel_rfl, ?_⟩) (by assumption) ?_
        rotate_left
        · (intro w hSw; (try dsimp only at hSw); obtain ⟨d1, d2, d3, d4⟩ := hSw; go_simp; try with_reducible rfl)
        try simp only [Act.put, setIfInBounds_toArray, set_cons_zero, set_cons_succ]
        refine Rb.till_take (i := 5) (oi := ⟨some 21, .indexAddr 22 (.tmp 19) (.tmp 20), 0, "make.go:196", #[⟨3, .data⟩, ⟨4, .data⟩], none⟩) (v := ?_) rfl (by kernel_rfl) (by kernel_rfl) (by kernel_rfl) (fun _ _ _ h => h) (by decide) opU rfl (by kernel_rfl) (by kernel_rfl) (Or.inl ⟨by kernel_rfl, ?_⟩) (by assumption) ?_
        rotate_left
        · (intro w hSw; (try dsimp only at hSw); obtain ⟨d1, d2, d3, d4⟩ := hSw; go_simp; try with_reducible rfl)
        try simp only [Act.put, setIfInBounds_toArray, set_cons_zero, set_cons_succ]
        refine Rb.till_take (i := 6) (oi := ⟨some 22, .load 3 (.tmp 21), 3, "make.go:196", #[⟨5, .data⟩], none⟩) (v := ?_) rfl (by kernel_rfl) (by kernel_rfl) (by kernel_rfl) (fun _ _ _ h => h) (by decide) opU rfl (by kernel_rfl) (by kernel_rfl) (Or.inl ⟨by kernel_rfl, ?_⟩) (by assumption) ?_
        rotate_left
        · (intro w hSw; (try dsimp only at hSw); obtain ⟨d1, d2, d3, d4⟩ := hSw; go_simp; try with_reducible rfl)
        try simp only [Act.put, setIfInBounds_toArray, set_cons_zero, set_cons_succ]
        refine Rb.till_take (i := 7) (oi := ⟨some 23, .move (.tmp 7), 3, "make.go:196", #[], none⟩) (v := ?_) rfl (by kernel_rfl) (by kernel_rfl) (by kernel_rfl) (fun _ _ _ h => h) (by decide) opU rfl (by kernel_rfl) (by kernel_rfl) (Or.inl ⟨by kernel_rfl, ?_⟩) (by assumption) ?_
        rotate_left
        · (intro w hSw; (try dsimp only at hSw); obtain ⟨d1, d2, d3, d4⟩ := hSw; go_simp; try with_reducible rfl)
        try simp only [Act.put, setIfInBounds_toArray, set_cons_zero, set_cons_succ]
        refine Rb.till_take (i := 8) (oi := ⟨some 24, .binOp BinOp.sub 3 (.const (.int IntKind.i64 4)) (.tmp 23) 3, 3, "make.go:196", #[⟨7, .data⟩], none⟩) (v := ?_) rfl (by kernel_rfl) (by kernel_rfl) (by kernel_rfl) (fun _ _ _ h => h) (by decide) opU rfl (by kernel_rfl) (by kernel_rfl) (Or.inl ⟨by kernel_rfl, ?_⟩) (by assumption) ?_
        rotate_left
        · (intro w hSw; (try dsimp only at hSw); obtain ⟨d1, d2, d3, d4⟩ := hSw; go_simp; try with_reducible rfl)
        try simp only [Act.put, setIfInBounds_toArray, set_cons_zero, set_cons_succ]
        refine Rb.till_take (i := 9) (oi := ⟨some 25, .binOp BinOp.shr 3 (.tmp 22) (.tmp 24) 3, 3, "make.go:196", #[⟨6, .data⟩, ⟨8, .data⟩], none⟩) (v := ?_) rfl (by kernel_rfl) (by kernel_rfl) (by kernel_rfl) (fun _ _ _ h => h) (by decide) opU rfl (by kernel_rfl) (by kernel_rfl) (Or.inl ⟨by kernel_rfl, ?_⟩) (by assumption) ?_
        rotate_left
        · (intro w hSw; (try dsimp only at hSw); obtain ⟨d1, d2, d3, d4⟩ := hSw; go_simp; try with_reducible rfl)
        try simp only [Act.put, setIfInBounds_toArray, set_cons_zero, set_cons_succ]
        refine Rb.till_take (i := 12) (oi := ⟨some 28, .fieldAddr 59 (.tmp 5) 1, 0, "make.go:196", #[], none⟩) (v := ?_) rfl (by kernel_rfl) (by kernel_rfl) (by kernel_rfl) (fun _ _ _ h => h) (by decide) opU rfl (by kernel_rfl) (by kernel_rfl) (Or.inl ⟨by kernel_rfl, ?_⟩) (by assumption) ?_
        rotate_left
        · (intro w hSw; (try dsimp only at hSw); obtain ⟨d1, d2, d3, d4⟩ := hSw; go_simp; try with_reducible rfl)
        try simp only [Act.put, setIfInBounds_toArray, set_cons_zero, set_cons_succ]
        refine Rb.till_take (i := 13) (oi := ⟨some 29, .load 22 (.tmp 28), 22, "make.go:196", #[⟨12, .data⟩], none⟩) (v := ?_) rfl (by kernel_rfl) (by kernel_rfl) (by kernel_rfl) (fun _ _ _ h => h) (by decide) opU rfl (by kernel_rfl) (by kernel_rfl) (Or.inl ⟨by kernel_rfl, ?_⟩) (by assumption) ?_
        rotate_left
        · (intro w hSw; (try dsimp only at hSw); obtain ⟨d1, d2, d3, d4⟩ := hSw; go_simp; try with_reducible rfl)
        try simp only [Act.put, setIfInBounds_toArray, set_cons_zero, set_cons_succ]
        refine Rb.till_free (i := 14) (oi := ⟨some 30, .move (.tmp 7), 3, "make.go:196", #[], none⟩) (v := ?_) rfl (by kernel_rfl) (by kernel_rfl) (by kernel_rfl) (fun _ _ _ h => h) (by decide) (Or.inl ⟨by kernel_rfl, ?_⟩) (fun _ => by assumption) ?_
        rotate_left
        · (intro w hSw; clear hSw; go_simp; try with_reducible rfl)
        try simp only [Act.put, setIfInBounds_toArray, set_cons_zero, set_cons_succ]
        refine Rb.till_ready (rs := [10, 15]) (by kernel_rfl) (by simp) ?_
        refine Rb.AllT.cons (o := ⟨some 26, .buildSlice 22 1 #[(0, .tmp 25)], 22, "make.go:196", #[⟨9, .data⟩], none⟩) rfl (fun K hK => ?_) (Rb.AllT.cons (o := ⟨some 31, .buildSlice 22 1 #[(0, .tmp 30)], 22, "make.go:196", #[⟨14, .data⟩], none⟩) rfl (fun K hK => ?_) (Rb.AllT.nil))
        · go_simp
          try go_wp2_with fail
          refine hK.out _ _ ?_ (fun hH1 => ?_)
          · (try dsimp only); exact KS.out _ (HQ6.out.1.ch.tr (Ch.of_bel (by repeat (first | exact Bel.rf | with_reducible refine Bel.drwN ?_ _ | with_reducible refine Bel.drw ?_ | with_reducible refine Bel.al ?_ _)))) (HQ6.out.2.1.bel (by repeat (first | exact Bel.rf | with_reducible refine Bel.drwN ?_ _ | with_reducible refine Bel.drw ?_ | with_reducible refine Bel.al ?_ _))) (HQ6.out.2.2.2.bel (by repeat (first | exact Bel.rf | with_reducible refine Bel.drwN ?_ _ | with_reducible refine Bel.drw ?_ | with_reducible refine Bel.al ?_ _)))
          clear hK K hH0
          try simp only [Act.put, setIfInBounds_toArray, set_cons_zero, set_cons_succ]
          refine Rb.till_ready (rs := [11, 15]) (by kernel_rfl) (by simp) ?_
          refine Rb.AllT.cons (o := ⟨some 27, .call { callee := Callee.builtin Builtin.append, args := #[.tmp 17, .tmp 26], argTypes := #[22, 22] }, 22, "make.go:196", #[⟨1, .data⟩, ⟨10, .data⟩], none⟩) rfl (fun K hK => ?_) (Rb.AllT.cons (o := ⟨some 31, .buildSlice 22 1 #[(0, .tmp 30)], 22, "make.go:196", #[⟨14, .data⟩], none⟩) rfl (fun K hK => ?_) (Rb.AllT.nil))
          · refine step_app _ rfl (.tmp 17) (.tmp 26) rfl (w.heap.size + 1 + 1 + 1) u i S rfl (own_bel HQ6.out.1.ou (by repeat (first | exact Bel.rf | with_reducible refine Bel.drwN ?_ _ | with_reducible refine Bel.drw ?_ | with_reducible refine Bel.al ?_ _))) ⟨w6.heap.size, 0, none⟩ 1 1 [s] rfl (zi_bk (L := [s]) ((by repeat (first | (refine Bk.nq _ _ _ ?_; simp; done) | with_reducible refine Bk.drwN ?_ _ | with_reducible refine Bk.drw ?_ | with_reducible refine Bk.al ?_ _)) : Bk _ w6.heap.size 3 (zs [s]).toArray) 1 rfl) HI1.out (by have := HQ6.out.1.sz; simp; omega) ?_; intro v7 x7 h7 hg7 ha7; obtain ⟨A7, c7, hv7, _⟩ := own_any h7; subst hv7; have HQ7 : Hid (Wq g (w.heap.size + 1 + 1 + 1) w x7 (.slice A7 (i + 1) c7) v (i + 1) i (S ++ [s]) B ∧ Bk x7 w.heap.size 59 #[.slice (some ad) n fc, .slice bF n fd] ∧ Bk x7 (w.heap.size + 1) 59 #[.slice none 0 0, .slice none 0 0] ∧ Bk x7 (w.heap.size + 1 + 1) 59 #[u, v]) := ⟨(HQ6.out.1.up (by repeat (first | exact Bel.rf | with_reducible refine Bel.drwN ?_ _ | with_reducible refine Bel.drw ?_ | with_reducible refine Bel.al ?_ _))).ax h7 hg7 ha7, bk_grw (HQ6.out.2.1.bel (by repeat (first | exact Bel.rf | with_reducible refine Bel.drwN ?_ _ | with_reducible refine Bel.drw ?_ | with_reducible refine Bel.al ?_ _))) hg7 (fun e => by have := (HQ6.out.1.ou.lt _ e).1; omega), bk_grw (HQ6.out.2.2.1.bel (by repeat (first | exact Bel.rf | with_reducible refine Bel.drwN ?_ _ | with_reducible refine Bel.drw ?_ | with_reducible refine Bel.al ?_ _))) hg7 (fun e => by have := (HQ6.out.1.ou.lt _ e).1; omega), bk_grw (HQ6.out.2.2.2.bel (by repeat (first | exact Bel.rf | with_reducible refine Bel.drwN ?_ _ | with_reducible refine Bel.drw ?_ | with_reducible refine Bel.al ?_ _))) hg7 (fun e => by have := (HQ6.out.1.ou.lt _ e).1; omega)⟩; clear h7 hg7 ha7
            try go_wp2_with fail
            refine hK.out _ _ ?_ (fun hH2 => ?_)
            · (try dsimp only); exact KS.out _ (HQ7.out.1.ch.tr (Ch.of_bel (by repeat (first | exact Bel.rf | with_reducible refine Bel.drwN ?_ _ | with_reducible refine Bel.drw ?_ | with_reducible refine Bel.al ?_ _)))) (HQ7.out.2.1.bel (by repeat (first | exact Bel.rf | with_reducible refine Bel.drwN ?_ _ | with_reducible refine Bel.drw ?_ | with_reducible refine Bel.al ?_ _))) (HQ7.out.2.2.2.bel (by repeat (first | exact Bel.rf | with_reducible refine Bel.drwN ?_ _ | with_reducible refine Bel.drw ?_ | with_reducible refine Bel.al ?_ _)))
            clear hK K hH1
            try simp only [Act.put, setIfInBounds_toArray, set_cons_zero, set_cons_succ]
            refine Rb.till_take (i := 17) (oi := ⟨some 33, .fieldAddr 59 (.tmp 5) 0, 0, "make.go:196", #[⟨0, .phase⟩, ⟨1, .phase⟩, ⟨2, .phase⟩, ⟨3, .phase⟩, ⟨4, .phase⟩, ⟨5, .phase⟩, ⟨6, .phase⟩, ⟨7, .phase⟩, ⟨8, .phase⟩, ⟨9, .phase⟩, ⟨10, .phase⟩, ⟨11, .phase⟩, ⟨12, .phase⟩, ⟨13, .phase⟩, ⟨14, .textOnly Departure.lateStores⟩, ⟨15, .textOnly Departure.lateStores⟩, ⟨16, .textOnly Departure.lateStoresUnsure⟩], none⟩) (v := ?_) rfl (by kernel_rfl) (by kernel_rfl) (by kernel_rfl) (fun _ _ _ h => h) (by decide) opU rfl (by kernel_rfl) (by kernel_rfl) (Or.inl ⟨by kernel_rfl, ?_⟩) (by assumption) ?_
            rotate_left
            · (intro w hSw; (try dsimp only at hSw); obtain ⟨d1, d2, d3, d4⟩ := hSw; go_simp; try with_reducible rfl)
            try simp only [Act.put, setIfInBounds_toArray, set_cons_zero, set_cons_succ]
            refine Rb.till_ready (rs := [15]) (by kernel_rfl) (by simp) ?_
            refine Rb.AllT.cons (o := ⟨some 31, .buildSlice 22 1 #[(0, .tmp 30)], 22, "make.go:196", #[⟨14, .data⟩], none⟩) rfl (fun K hK => ?_) (Rb.AllT.nil)
            · go_simp
              try go_wp2_with fail
              refine hK.out _ _ ?_ (fun hH3 => ?_)
              · (try dsimp only); exact KS.out _ (HQ7.out.1.ch.tr (Ch.of_bel (by repeat (first | exact Bel.rf | with_reducible refine Bel.drwN ?_ _ | with_reducible refine Bel.drw ?_ | with_reducible refine Bel.al ?_ _)))) (HQ7.out.2.1.bel (by repeat (first | exact Bel.rf | with_reducible refine Bel.drwN ?_ _ | with_reducible refine Bel.drw ?_ | with_reducible refine Bel.al ?_ _))) (HQ7.out.2.2.2.bel (by repeat (first | exact Bel.rf | with_reducible refine Bel.drwN ?_ _ | with_reducible refine Bel.drw ?_ | with_reducible refine Bel.al ?_ _)))
              clear hK K hH2
              try simp only [Act.put, setIfInBounds_toArray, set_cons_zero, set_cons_succ]
              refine Rb.till_ready (rs := [16]) (by kernel_rfl) (by simp) ?_
              refine Rb.AllT.cons (o := ⟨some 32, .call { callee := Callee.builtin Builtin.append, args := #[.tmp 29, .tmp 31], argTypes := #[22, 22] }, 22, "make.go:196", #[⟨13, .data⟩, ⟨15, .data⟩, ⟨11, .chain⟩], none⟩) rfl (fun K hK => ?_) (Rb.AllT.nil)
              · refine step_app _ rfl (.tmp 29) (.tmp 31) rfl (w.heap.size + 1 + 1 + 1) v i B rfl (own_bel HQ7.out.1.ov (by repeat (first | exact Bel.rf | with_reducible refine Bel.drwN ?_ _ | with_reducible refine Bel.drw ?_ | with_reducible refine Bel.al ?_ _))) ⟨x7.heap.size, 0, none⟩ 1 1 [4] rfl (zi_bk (L := [4]) ((by repeat (first | (refine Bk.nq _ _ _ ?_; simp; done) | with_reducible refine Bk.drwN ?_ _ | with_reducible refine Bk.drw ?_ | with_reducible refine Bk.al ?_ _)) : Bk _ x7.heap.size 3 (zs [4]).toArray) 1 rfl) HI1.out (by have := HQ7.out.1.sz; simp; omega) ?_; intro v12 x12 h12 hg12 ha12; obtain ⟨A12, c12, hv12, _⟩ := own_any h12; subst hv12; have HQ12 : Hid (Wq g (w.heap.size + 1 + 1 + 1) w x12 (.slice A7 (i + 1) c7) (.slice A12 (i + 1) c12) (i + 1) (i + 1) (S ++ [s]) (B ++ [4]) ∧ Bk x12 w.heap.size 59 #[.slice (some ad) n fc, .slice bF n fd] ∧ Bk x12 (w.heap.size + 1) 59 #[.slice none 0 0, .slice none 0 0] ∧ Bk x12 (w.heap.size + 1 + 1) 59 #[u, v]) := ⟨((HQ7.out.1.up (by repeat (first | exact Bel.rf | with_reducible refine Bel.drwN ?_ _ | with_reducible refine Bel.drw ?_ | with_reducible refine Bel.al ?_ _))).sx.ax h12 hg12 ha12).sx, bk_grw (HQ7.out.2.1.bel (by repeat (first | exact Bel.rf | with_reducible refine Bel.drwN ?_ _ | with_reducible refine Bel.drw ?_ | with_reducible refine Bel.al ?_ _))) hg12 (fun e => by have := (HQ7.out.1.ov.lt _ e).1; omega), bk_grw (HQ7.out.2.2.1.bel (by repeat (first | exact Bel.rf | with_reducible refine Bel.drwN ?_ _ | with_reducible refine Bel.drw ?_ | with_reducible refine Bel.al ?_ _))) hg12 (fun e => by have := (HQ7.out.1.ov.lt _ e).1; omega), bk_grw (HQ7.out.2.2.2.bel (by repeat (first | exact Bel.rf | with_reducible refine Bel.drwN ?_ _ | with_reducible refine Bel.drw ?_ | with_reducible refine Bel.al ?_ _))) hg12 (fun e => by have := (HQ7.out.1.ov.lt _ e).1; omega)⟩; have y0 := HQ12.out.2.2.2.cell 0; have y1 := HQ12.out.2.2.2.cell 1; have z0 := HQ12.out.2.2.2.fr 0; have z1 := HQ12.out.2.2.2.fr 1; simp only [List.getElem?_toArray, List.getElem?_cons_zero, List.getElem?_cons_succ] at y0 y1; clear h12 hg12 ha12
                try go_wp2_with fail
                refine hK.out _ _ ?_ (fun hH4 => ?_)
                · (try dsimp only); exact KS.out _ (HQ12.out.1.ch.tr (Ch.of_bel (by repeat (first | exact Bel.rf | with_reducible refine Bel.drwN ?_ _ | with_reducible refine Bel.drw ?_ | with_reducible refine Bel.al ?_ _)))) (HQ12.out.2.1.bel (by repeat (first | exact Bel.rf | with_reducible refine Bel.drwN ?_ _ | with_reducible refine Bel.drw ?_ | with_reducible refine Bel.al ?_ _))) (HQ12.out.2.2.2.bel (by repeat (first | exact Bel.rf | with_reducible refine Bel.drwN ?_ _ | with_reducible refine Bel.drw ?_ | with_reducible refine Bel.al ?_ _)))
                clear hK K hH3
                try simp only [Act.put, setIfInBounds_toArray, set_cons_zero, set_cons_succ]
                refine Rb.till_ready (rs := [18]) (by kernel_rfl) (by simp) ?_
                refine Rb.AllT.past (o := ⟨none, .store 22 (.tmp 33) (.tmp 27), 0, "make.go:196", #[⟨17, .data⟩, ⟨11, .data⟩, ⟨16, .chain⟩, ⟨0, .phase⟩, ⟨1, .phase⟩, ⟨2, .phase⟩, ⟨3, .phase⟩, ⟨4, .phase⟩, ⟨5, .phase⟩, ⟨6, .phase⟩, ⟨7, .phase⟩, ⟨8, .phase⟩, ⟨9, .phase⟩, ⟨10, .phase⟩, ⟨11, .phase⟩, ⟨12, .phase⟩, ⟨13, .phase⟩, ⟨14, .textOnly Departure.lateStores⟩, ⟨15, .textOnly Departure.lateStores⟩, ⟨16, .textOnly Departure.lateStoresUnsure⟩], none⟩) rfl (by kernel_rfl) (fun K hK => ?_) (Rb.AllT.nil)
                · go_simp
                  try go_wp2_with fail
                  refine hK.out _ _ trivial (fun hH5 => ?_)
                  clear hK K hH4
                  try simp only [Act.put, setIfInBounds_toArray, set_cons_zero, set_cons_succ]
                  refine Rb.till_free (i := 19) (oi := ⟨some 34, .fieldAddr 59 (.tmp 5) 1, 0, "make.go:196", #[⟨0, .phase⟩, ⟨1, .phase⟩, ⟨2, .phase⟩, ⟨3, .phase⟩, ⟨4, .phase⟩, ⟨5, .phase⟩, ⟨6, .phase⟩, ⟨7, .phase⟩, ⟨8, .phase⟩, ⟨9, .phase⟩, ⟨10, .phase⟩, ⟨11, .phase⟩, ⟨12, .phase⟩, ⟨13, .phase⟩, ⟨14, .phase⟩, ⟨15, .phase⟩, ⟨16, .phase⟩, ⟨17, .phase⟩, ⟨18, .phase⟩], none⟩) (v := ?_) rfl (by kernel_rfl) (by kernel_rfl) (by kernel_rfl) (fun _ _ _ h => h) (by decide) (Or.inl ⟨by kernel_rfl, ?_⟩) (fun h => absurd h (by decide)) ?_
                  rotate_left
                  · (intro w hSw; clear hSw; go_simp; try with_reducible rfl)
                  try simp only [Act.put, setIfInBounds_toArray, set_cons_zero, set_cons_succ]
                  refine Rb.till_ready (rs := [20]) (by kernel_rfl) (by simp) ?_
                  refine Rb.AllT.past (o := ⟨none, .store 22 (.tmp 34) (.tmp 32), 0, "make.go:196", #[⟨19, .data⟩, ⟨16, .data⟩, ⟨18, .chain⟩, ⟨0, .phase⟩, ⟨1, .phase⟩, ⟨2, .phase⟩, ⟨3, .phase⟩, ⟨4, .phase⟩, ⟨5, .phase⟩, ⟨6, .phase⟩, ⟨7, .phase⟩, ⟨8, .phase⟩, ⟨9, .phase⟩, ⟨10, .phase⟩, ⟨11, .phase⟩, ⟨12, .phase⟩, ⟨13, .phase⟩, ⟨14, .phase⟩, ⟨15, .phase⟩, ⟨16, .phase⟩, ⟨17, .phase⟩, ⟨18, .phase⟩], none⟩) rfl (by kernel_rfl) (fun K hK => ?_) (Rb.AllT.nil)
                  · go_simp
                    try go_wp2_with fail
                    refine hK.out _ _ trivial (fun hH6 => ?_)
                    clear hK K hH5
                    try simp only [Act.put, setIfInBounds_toArray, set_cons_zero, set_cons_succ]
                    refine Rb.till_done (by kernel_rfl) ?_ _
                    refine NoPanic.normal ?_
                    have HFL : Hid (Gd (i + 1) (S ++ [s]) (B ++ [4]) ∧ Us (i + 1) F (S ++ [s]) (B ++ [4]) ∧ Wq g (w.heap.size + 1 + 1 + 1) w ((x12.setCell ⟨w.heap.size + 1 + 1, 0, none⟩ (.slice A7 (i + 1) c7)).setCell ⟨w.heap.size + 1 + 1, 1, none⟩ (.slice A12 (i + 1) c12)) (.slice A7 (i + 1) c7) (.slice A12 (i + 1) c12) (i + 1) (i + 1) (S ++ [s]) (B ++ [4]) ∧ Bk ((x12.setCell ⟨w.heap.size + 1 + 1, 0, none⟩ (.slice A7 (i + 1) c7)).setCell ⟨w.heap.size + 1 + 1, 1, none⟩ (.slice A12 (i + 1) c12)) w.heap.size 59 #[.slice (some ad) n fc, .slice bF n fd] ∧ Bk ((x12.setCell ⟨w.heap.size + 1 + 1, 0, none⟩ (.slice A7 (i + 1) c7)).setCell ⟨w.heap.size + 1 + 1, 1, none⟩ (.slice A12 (i + 1) c12)) (w.heap.size + 1) 59 #[.slice none 0 0, .slice none 0 0] ∧ Bk ((x12.setCell ⟨w.heap.size + 1 + 1, 0, none⟩ (.slice A7 (i + 1) c7)).setCell ⟨w.heap.size + 1 + 1, 1, none⟩ (.slice A12 (i + 1) c12)) (w.heap.size + 1 + 1) 59 #[.slice A7 (i + 1) c7, .slice A12 (i + 1) c12]) := ⟨gd_snoc HGD.out (by decide) (by decide) HS5.out.1 HS5.out.2.1, us_snoc HUS.out HGD.out.1 HGD.out.2.1 HS5.out.2.2, (HQ12.out.1.st (by omega) (by omega) (by have := HGB.out; omega) _ _).st (by omega) (by omega) (by have := HGB.out; omega) _ _, (HQ12.out.2.1.far (by dsimp only; omega) _).far (by dsimp only; omega) _, (HQ12.out.2.2.1.far (by dsimp only; omega) _).far (by dsimp only; omega) _, (HQ12.out.2.2.2.st 0 _).st 1 _⟩
                    go_wp2_with fail
                    go_roundw
                    case rel => exact ⟨i + 1, _, _, _, _, _, rfl, by go_num, by omega, HFL.out.1, HFL.out.2.1, HFL.out.2.2.1, HFL.out.2.2.2.1, HFL.out.2.2.2.2.1, HFL.out.2.2.2.2.2⟩
                    case measure => simp [intOf]; omega
          · go_simp
            try go_wp2_with fail
            refine hK.out _ _ ?_ (fun hH2 => ?_)
            · (try dsimp only); exact KS.out _ (HQ6.out.1.ch.tr (Ch.of_bel (by repeat (first | exact Bel.rf | with_reducible refine Bel.drwN ?_ _ | with_reducible refine Bel.drw ?_ | with_reducible refine Bel.al ?_ _)))) (HQ6.out.2.1.bel (by repeat (first | exact Bel.rf | with_reducible refine Bel.drwN ?_ _ | with_reducible refine Bel.drw ?_ | with_reducible refine Bel.al ?_ _))) (HQ6.out.2.2.2.bel (by repeat (first | exact Bel.rf | with_reducible refine Bel.drwN ?_ _ | with_reducible refine Bel.drw ?_ | with_reducible refine Bel.al ?_ _)))
            clear hK K hH1
            try simp only [Act.put, setIfInBounds_toArray, set_cons_zero, set_cons_succ]
            refine Rb.till_ready (rs := [11]) (by kernel_rfl) (by simp) ?_
            refine Rb.AllT.cons (o := ⟨some 27, .call { callee := Callee.builtin Builtin.append, args := #[.tmp 17, .tmp 26], argTypes := #[22, 22] }, 22, "make.go:196", #[⟨1, .data⟩, ⟨10, .data⟩], none⟩) rfl (fun K hK => ?_) (Rb.AllT.nil)
            · refine step_app _ rfl (.tmp 17) (.tmp 26) rfl (w.heap.size + 1 + 1 + 1) u i S rfl (own_bel HQ6.out.1.ou (by repeat (first | exact Bel.rf | with_reducible refine Bel.drwN ?_ _ | with_reducible refine Bel.drw ?_ | with_reducible refine Bel.al ?_ _))) ⟨w6.heap.size, 0, none⟩ 1 1 [s] rfl (zi_bk (L := [s]) ((by repeat (first | (refine Bk.nq _ _ _ ?_; simp; done) | with_reducible refine Bk.drwN ?_ _ | with_reducible refine Bk.drw ?_ | with_reducible refine Bk.al ?_ _)) : Bk _ w6.heap.size 3 (zs [s]).toArray) 1 rfl) HI1.out (by have := HQ6.out.1.sz; simp; omega) ?_; intro v7 x7 h7 hg7 ha7; obtain ⟨A7, c7, hv7, _⟩ := own_any h7; subst hv7; have HQ7 : Hid (Wq g (w.heap.size + 1 + 1 + 1) w x7 (.slice A7 (i + 1) c7) v (i + 1) i (S ++ [s]) B ∧ Bk x7 w.heap.size 59 #[.slice (some ad) n fc, .slice bF n fd] ∧ Bk x7 (w.heap.size + 1) 59 #[.slice none 0 0, .slice none 0 0] ∧ Bk x7 (w.heap.size + 1 + 1) 59 #[u, v]) := ⟨(HQ6.out.1.up (by repeat (first | exact Bel.rf | with_reducible refine Bel.drwN ?_ _ | with_reducible refine Bel.drw ?_ | with_reducible refine Bel.al ?_ _))).ax h7 hg7 ha7, bk_grw (HQ6.out.2.1.bel (by repeat (first | exact Bel.rf | with_reducible refine Bel.drwN ?_ _ | with_reducible refine Bel.drw ?_ | with_reducible refine Bel.al ?_ _))) hg7 (fun e => by have := (HQ6.out.1.ou.lt _ e).1; omega), bk_grw (HQ6.out.2.2.1.bel (by repeat (first | exact Bel.rf | with_reducible refine Bel.drwN ?_ _ | with_reducible refine Bel.drw ?_ | with_reducible refine Bel.al ?_ _))) hg7 (fun e => by have := (HQ6.out.1.ou.lt _ e).1; omega), bk_grw (HQ6.out.2.2.2.bel (by repeat (first | exact Bel.rf | with_reducible refine Bel.drwN ?_ _ | with_reducible refine Bel.drw ?_ | with_reducible refine Bel.al ?_ _))) hg7 (fun e => by have := (HQ6.out.1.ou.lt _ e).1; omega)⟩; have HX7 : Hid (Bk x7 (w6.heap.size + 1) 3 (zs [4]).toArray) := bk_grw ((by repeat (first | (refine Bk.nq _ _ _ ?_; simp; done) | with_reducible refine Bk.drwN ?_ _ | with_reducible refine Bk.drw ?_ | with_reducible refine Bk.al ?_ _)) : Bk _ (w6.heap.size + 1) 3 (zs [4]).toArray) hg7 (fun e => by have := HB6.out _ e; omega); clear h7 hg7 ha7
              try go_wp2_with fail
              refine hK.out _ _ ?_ (fun hH3 => ?_)
              · (try dsimp only); exact KS.out _ (HQ7.out.1.ch.tr (Ch.of_bel (by repeat (first | exact Bel.rf | with_reducible refine Bel.drwN ?_ _ | with_reducible refine Bel.drw ?_ | with_reducible refine Bel.al ?_ _)))) (HQ7.out.2.1.bel (by repeat (first | exact Bel.rf | with_reducible refine Bel.drwN ?_ _ | with_reducible refine Bel.drw ?_ | with_reducible refine Bel.al ?_ _))) (HQ7.out.2.2.2.bel (by repeat (first | exact Bel.rf | with_reducible refine Bel.drwN ?_ _ | with_reducible refine Bel.drw ?_ | with_reducible refine Bel.al ?_ _)))
              clear hK K hH2
              try simp only [Act.put, setIfInBounds_toArray, set_cons_zero, set_cons_succ]
              refine Rb.till_take (i := 17) (oi := ⟨some 33, .fieldAddr 59 (.tmp 5) 0, 0, "make.go:196", #[⟨0, .phase⟩, ⟨1, .phase⟩, ⟨2, .phase⟩, ⟨3, .phase⟩, ⟨4, .phase⟩, ⟨5, .phase⟩, ⟨6, .phase⟩, ⟨7, .phase⟩, ⟨8, .phase⟩, ⟨9, .phase⟩, ⟨10, .phase⟩, ⟨11, .phase⟩, ⟨12, .phase⟩, ⟨13, .phase⟩, ⟨14, .textOnly Departure.lateStores⟩, ⟨15, .textOnly Departure.lateStores⟩, ⟨16, .textOnly Departure.lateStoresUnsure⟩], none⟩) (v := ?_) rfl (by kernel_rfl) (by kernel_rfl) (by kernel_rfl) (fun _ _ _ h => h) (by decide) opU rfl (by kernel_rfl) (by kernel_rfl) (Or.inl ⟨by kernel_rfl, ?_⟩) (by assumption) ?_
              rotate_left
              · (intro w hSw; (try dsimp only at hSw); obtain ⟨d1, d2, d3, d4⟩ := hSw; go_simp; try with_reducible rfl)
              try simp only [Act.put, setIfInBounds_toArray, set_cons_zero, set_cons_succ]
              refine Rb.till_ready (rs := [16]) (by kernel_rfl) (by simp) ?_
              refine Rb.AllT.cons (o := ⟨some 32, .call { callee := Callee.builtin Builtin.append, args := #[.tmp 29, .tmp 31], argTypes := #[22, 22] }, 22, "make.go:196", #[⟨13, .data⟩, ⟨15, .data⟩, ⟨11, .chain⟩], none⟩) rfl (fun K hK => ?_) (Rb.AllT.nil)
              · refine step_app _ rfl (.tmp 29) (.tmp 31) rfl (w.heap.size + 1 + 1 + 1) v i B rfl (own_bel HQ7.out.1.ov (by repeat (first | exact Bel.rf | with_reducible refine Bel.drwN ?_ _ | with_reducible refine Bel.drw ?_ | with_reducible refine Bel.al ?_ _))) ⟨w6.heap.size + 1, 0, none⟩ 1 1 [4] rfl (zi_bk (L := [4]) (HX7.out.bel (by repeat (first | exact Bel.rf | with_reducible refine Bel.drwN ?_ _ | with_reducible refine Bel.drw ?_ | with_reducible refine Bel.al ?_ _))) 1 rfl) HI1.out (by have := HQ7.out.1.sz; simp; omega) ?_; intro v12 x12 h12 hg12 ha12; obtain ⟨A12, c12, hv12, _⟩ := own_any h12; subst hv12; have HQ12 : Hid (Wq g (w.heap.size + 1 + 1 + 1) w x12 (.slice A7 (i + 1) c7) (.slice A12 (i + 1) c12) (i + 1) (i + 1) (S ++ [s]) (B ++ [4]) ∧ Bk x12 w.heap.size 59 #[.slice (some ad) n fc, .slice bF n fd] ∧ Bk x12 (w.heap.size + 1) 59 #[.slice none 0 0, .slice none 0 0] ∧ Bk x12 (w.heap.size + 1 + 1) 59 #[u, v]) := ⟨((HQ7.out.1.up (by repeat (first | exact Bel.rf | with_reducible refine Bel.drwN ?_ _ | with_reducible refine Bel.drw ?_ | with_reducible refine Bel.al ?_ _))).sx.ax h12 hg12 ha12).sx, bk_grw (HQ7.out.2.1.bel (by repeat (first | exact Bel.rf | with_reducible refine Bel.drwN ?_ _ | with_reducible refine Bel.drw ?_ | with_reducible refine Bel.al ?_ _))) hg12 (fun e => by have := (HQ7.out.1.ov.lt _ e).1; omega), bk_grw (HQ7.out.2.2.1.bel (by repeat (first | exact Bel.rf | with_reducible refine Bel.drwN ?_ _ | with_reducible refine Bel.drw ?_ | with_reducible refine Bel.al ?_ _))) hg12 (fun e => by have := (HQ7.out.1.ov.lt _ e).1; omega), bk_grw (HQ7.out.2.2.2.bel (by repeat (first | exact Bel.rf | with_reducible refine Bel.drwN ?_ _ | with_reducible refine Bel.drw ?_ | with_reducible refine Bel.al ?_ _))) hg12 (fun e => by have := (HQ7.out.1.ov.lt _ e).1; omega)⟩; have y0 := HQ12.out.2.2.2.cell 0; have y1 := HQ12.out.2.2.2.cell 1; have z0 := HQ12.out.2.2.2.fr 0; have z1 := HQ12.out.2.2.2.fr 1; simp only [List.getElem?_toArray, List.getElem?_cons_zero, List.getElem?_cons_succ] at y0 y1; clear h12 hg12 ha12
                try go_wp2_with fail
                refine hK.out _ _ ?_ (fun hH4 => ?_)
                · (try dsimp only); exact KS.out _ (HQ12.out.1.ch.tr (Ch.of_bel (by repeat (first | exact Bel.rf | with_reducible refine Bel.drwN ?_ _ | with_reducible refine Bel.drw ?_ | with_reducible refine Bel.al ?_ _)))) (HQ12.out.2.1.bel (by repeat (first | exact Bel.rf | with_reducible refine Bel.drwN ?_ _ | with_reducible refine Bel.drw ?_ | with_reducible refine Bel.al ?_ _))) (HQ12.out.2.2.2.bel (by repeat (first | exact Bel.rf | with_reducible refine Bel.drwN ?_ _ | with_reducible refine Bel.drw ?_ | with_reducible refine Bel.al ?_ _)))
                clear hK K hH3
                try simp only [Act.put, setIfInBounds_toArray, set_cons_zero, set_cons_succ]
                refine Rb.till_ready (rs := [18]) (by kernel_rfl) (by simp) ?_
                refine Rb.AllT.past (o := ⟨none, .store 22 (.tmp 33) (.tmp 27), 0, "make.go:196", #[⟨17, .data⟩, ⟨11, .data⟩, ⟨16, .chain⟩, ⟨0, .phase⟩, ⟨1, .phase⟩, ⟨2, .phase⟩, ⟨3, .phase⟩, ⟨4, .phase⟩, ⟨5, .phase⟩, ⟨6, .phase⟩, ⟨7, .phase⟩, ⟨8, .phase⟩, ⟨9, .phase⟩, ⟨10, .phase⟩, ⟨11, .phase⟩, ⟨12, .phase⟩, ⟨13, .phase⟩, ⟨14, .textOnly Departure.lateStores⟩, ⟨15, .textOnly Departure.lateStores⟩, ⟨16, .textOnly Departure.lateStoresUnsure⟩], none⟩) rfl (by kernel_rfl) (fun K hK => ?_) (Rb.AllT.nil)
                · go_simp
                  try go_wp2_with fail
                  refine hK.out _ _ trivial (fun hH5 => ?_)
                  clear hK K hH4
                  try simp only [Act.put, setIfInBounds_toArray, set_cons_zero, set_cons_succ]
                  refine Rb.till_free (i := 19) (oi := ⟨some 34, .fieldAddr 59 (.tmp 5) 1, 0, "make.go:196", #[⟨0, .phase⟩, ⟨1, .phase⟩, ⟨2, .phase⟩, ⟨3, .phase⟩, ⟨4, .phase⟩, ⟨5, .phase⟩, ⟨6, .phase⟩, ⟨7, .phase⟩, ⟨8, .phase⟩, ⟨9, .phase⟩, ⟨10, .phase⟩, ⟨11, .phase⟩, ⟨12, .phase⟩, ⟨13, .phase⟩, ⟨14, .phase⟩, ⟨15, .phase⟩, ⟨16, .phase⟩, ⟨17, .phase⟩, ⟨18, .phase⟩], none⟩) (v := ?_) rfl (by kernel_rfl) (by kernel_rfl) (by kernel_rfl) (fun _ _ _ h => h) (by decide) (Or.inl ⟨by kernel_rfl, ?_⟩) (fun h => absurd h (by decide)) ?_
                  rotate_left
                  · (intro w hSw; clear hSw; go_simp; try with_reducible rfl)
                  try simp only [Act.put, setIfInBounds_toArray, set_cons_zero, set_cons_succ]
                  refine Rb.till_ready (rs := [20]) (by kernel_rfl) (by simp) ?_
                  refine Rb.AllT.past (o := ⟨none, .store 22 (.tmp 34) (.tmp 32), 0, "make.go:196", #[⟨19, .data⟩, ⟨16, .data⟩, ⟨18, .chain⟩, ⟨0, .phase⟩, ⟨1, .phase⟩, ⟨2, .phase⟩, ⟨3, .phase⟩, ⟨4, .phase⟩, ⟨5, .phase⟩, ⟨6, .phase⟩, ⟨7, .phase⟩, ⟨8, .phase⟩, ⟨9, .phase⟩, ⟨10, .phase⟩, ⟨11, .phase⟩, ⟨12, .phase⟩, ⟨13, .phase⟩, ⟨14, .phase⟩, ⟨15, .phase⟩, ⟨16, .phase⟩, ⟨17, .phase⟩, ⟨18, .phase⟩], none⟩) rfl (by kernel_rfl) (fun K hK => ?_) (Rb.AllT.nil)
                  · go_simp
                    try go_wp2_with fail
                    refine hK.out _ _ trivial (fun hH6 => ?_)
                    clear hK K hH5
                    try simp only [Act.put, setIfInBounds_toArray, set_cons_zero, set_cons_succ]
                    refine Rb.till_done (by kernel_rfl) ?_ _
                    refine NoPanic.normal ?_
                    have HFL : Hid (Gd (i + 1) (S ++ [s]) (B ++ [4]) ∧ Us (i + 1) F (S ++ [s]) (B ++ [4]) ∧ Wq g (w.heap.size + 1 + 1 + 1) w ((x12.setCell ⟨w.heap.size + 1 + 1, 0, none⟩ (.slice A7 (i + 1) c7)).setCell ⟨w.heap.size + 1 + 1, 1, none⟩ (.slice A12 (i + 1) c12)) (.slice A7 (i + 1) c7) (.slice A12 (i + 1) c12) (i + 1) (i + 1) (S ++ [s]) (B ++ [4]) ∧ Bk ((x12.setCell ⟨w.heap.size + 1 + 1, 0, none⟩ (.slice A7 (i + 1) c7)).setCell ⟨w.heap.size + 1 + 1, 1, none⟩ (.slice A12 (i + 1) c12)) w.heap.size 59 #[.slice (some ad) n fc, .slice bF n fd] ∧ Bk ((x12.setCell ⟨w.heap.size + 1 + 1, 0, none⟩ (.slice A7 (i + 1) c7)).setCell ⟨w.heap.size + 1 + 1, 1, none⟩ (.slice A12 (i + 1) c12)) (w.heap.size + 1) 59 #[.slice none 0 0, .slice none 0 0] ∧ Bk ((x12.setCell ⟨w.heap.size + 1 + 1, 0, none⟩ (.slice A7 (i + 1) c7)).setCell ⟨w.heap.size + 1 + 1, 1, none⟩ (.slice A12 (i + 1) c12)) (w.heap.size + 1 + 1) 59 #[.slice A7 (i + 1) c7, .slice A12 (i + 1) c12]) := ⟨gd_snoc HGD.out (by decide) (by decide) HS5.out.1 HS5.out.2.1, us_snoc HUS.out HGD.out.1 HGD.out.2.1 HS5.out.2.2, (HQ12.out.1.st (by omega) (by omega) (by have := HGB.out; omega) _ _).st (by omega) (by omega) (by have := HGB.out; omega) _ _, (HQ12.out.2.1.far (by dsimp only; omega) _).far (by dsimp only; omega) _, (HQ12.out.2.2.1.far (by dsimp only; omega) _).far (by dsimp only; omega) _, (HQ12.out.2.2.2.st 0 _).st 1 _⟩
                    go_wp2_with fail
                    go_roundw
                    case rel => exact ⟨i + 1, _, _, _, _, _, rfl, by go_num, by omega, HFL.out.1, HFL.out.2.1, HFL.out.2.2.1, HFL.out.2.2.2.1, HFL.out.2.2.2.2.1, HFL.out.2.2.2.2.2⟩
                    case measure => simp [intOf]; omega
        · go_simp
          try go_wp2_with fail
          refine hK.out _ _ ?_ (fun hH1 => ?_)
          · (try dsimp only); exact KS.out _ (HQ6.out.1.ch.tr (Ch.of_bel (by repeat (first | exact Bel.rf | with_reducible refine Bel.drwN ?_ _ | with_reducible refine Bel.drw ?_ | with_reducible refine Bel.al ?_ _)))) (HQ6.out.2.1.bel (by repeat (first | exact Bel.rf | with_reducible refine Bel.drwN ?_ _ | with_reducible refine Bel.drw ?_ | with_reducible refine Bel.al ?_ _))) (HQ6.out.2.2.2.bel (by repeat (first | exact Bel.rf | with_reducible refine Bel.drwN ?_ _ | with_reducible refine Bel.drw ?_ | with_reducible refine Bel.al ?_ _)))
          clear hK K hH0
          try simp only [Act.put, setIfInBounds_toArray, set_cons_zero, set_cons_succ]
          refine Rb.till_ready (rs := [10]) (by kernel_rfl) (by simp) ?_
          refine Rb.AllT.cons (o := ⟨some 26, .buildSlice 22 1 #[(0, .tmp 25)], 22, "make.go:196", #[⟨9, .data⟩], none⟩) rfl (fun K hK => ?_) (Rb.AllT.nil)
          · go_simp
            try go_wp2_with fail
            refine hK.out _ _ ?_ (fun hH2 => ?_)
            · (try dsimp only); exact KS.out _ (HQ6.out.1.ch.tr (Ch.of_bel (by repeat (first | exact Bel.rf | with_reducible refine Bel.drwN ?_ _ | with_reducible refine Bel.drw ?_ | with_reducible refine Bel.al ?_ _)))) (HQ6.out.2.1.bel (by repeat (first | exact Bel.rf | with_reducible refine Bel.drwN ?_ _ | with_reducible refine Bel.drw ?_ | with_reducible refine Bel.al ?_ _))) (HQ6.out.2.2.2.bel (by repeat (first | exact Bel.rf | with_reducible refine Bel.drwN ?_ _ | with_reducible refine Bel.drw ?_ | with_reducible refine Bel.al ?_ _)))
            clear hK K hH1
            try simp only [Act.put, setIfInBounds_toArray, set_cons_zero, set_cons_succ]
            refine Rb.till_ready (rs := [11]) (by kernel_rfl) (by simp) ?_
            refine Rb.AllT.cons (o := ⟨some 27, .call { callee := Callee.builtin Builtin.append, args := #[.tmp 17, .tmp 26], argTypes := #[22, 22] }, 22, "make.go:196", #[⟨1, .data⟩, ⟨10, .data⟩], none⟩) rfl (fun K hK => ?_) (Rb.AllT.nil)
            · refine step_app _ rfl (.tmp 17) (.tmp 26) rfl (w.heap.size + 1 + 1 + 1) u i S rfl (own_bel HQ6.out.1.ou (by repeat (first | exact Bel.rf | with_reducible refine Bel.drwN ?_ _ | with_reducible refine Bel.drw ?_ | with_reducible refine Bel.al ?_ _))) ⟨w6.heap.size + 1, 0, none⟩ 1 1 [s] rfl (zi_bk (L := [s]) ((by repeat (first | (refine Bk.nq _ _ _ ?_; simp; done) | with_reducible refine Bk.drwN ?_ _ | with_reducible refine Bk.drw ?_ | with_reducible refine Bk.al ?_ _)) : Bk _ (w6.heap.size + 1) 3 (zs [s]).toArray) 1 rfl) HI1.out (by have := HQ6.out.1.sz; simp; omega) ?_; intro v7 x7 h7 hg7 ha7; obtain ⟨A7, c7, hv7, _⟩ := own_any h7; subst hv7; have HQ7 : Hid (Wq g (w.heap.size + 1 + 1 + 1) w x7 (.slice A7 (i + 1) c7) v (i + 1) i (S ++ [s]) B ∧ Bk x7 w.heap.size 59 #[.slice (some ad) n fc, .slice bF n fd] ∧ Bk x7 (w.heap.size + 1) 59 #[.slice none 0 0, .slice none 0 0] ∧ Bk x7 (w.heap.size + 1 + 1) 59 #[u, v]) := ⟨(HQ6.out.1.up (by repeat (first | exact Bel.rf | with_reducible refine Bel.drwN ?_ _ | with_reducible refine Bel.drw ?_ | with_reducible refine Bel.al ?_ _))).ax h7 hg7 ha7, bk_grw (HQ6.out.2.1.bel (by repeat (first | exact Bel.rf | with_reducible refine Bel.drwN ?_ _ | with_reducible refine Bel.drw ?_ | with_reducible refine Bel.al ?_ _))) hg7 (fun e => by have := (HQ6.out.1.ou.lt _ e).1; omega), bk_grw (HQ6.out.2.2.1.bel (by repeat (first | exact Bel.rf | with_reducible refine Bel.drwN ?_ _ | with_reducible refine Bel.drw ?_ | with_reducible refine Bel.al ?_ _))) hg7 (fun e => by have := (HQ6.out.1.ou.lt _ e).1; omega), bk_grw (HQ6.out.2.2.2.bel (by repeat (first | exact Bel.rf | with_reducible refine Bel.drwN ?_ _ | with_reducible refine Bel.drw ?_ | with_reducible refine Bel.al ?_ _))) hg7 (fun e => by have := (HQ6.out.1.ou.lt _ e).1; omega)⟩; have HX7 : Hid (Bk x7 w6.heap.size 3 (zs [4]).toArray) := bk_grw ((by repeat (first | (refine Bk.nq _ _ _ ?_; simp; done) | with_reducible refine Bk.drwN ?_ _ | with_reducible refine Bk.drw ?_ | with_reducible refine Bk.al ?_ _)) : Bk _ w6.heap.size 3 (zs [4]).toArray) hg7 (fun e => by have := HB6.out _ e; omega); clear h7 hg7 ha7
              try go_wp2_with fail
              refine hK.out _ _ ?_ (fun hH3 => ?_)
              · (try dsimp only); exact KS.out _ (HQ7.out.1.ch.tr (Ch.of_bel (by repeat (first | exact Bel.rf | with_reducible refine Bel.drwN ?_ _ | with_reducible refine Bel.drw ?_ | with_reducible refine Bel.al ?_ _)))) (HQ7.out.2.1.bel (by repeat (first | exact Bel.rf | with_reducible refine Bel.drwN ?_ _ | with_reducible refine Bel.drw ?_ | with_reducible refine Bel.al ?_ _))) (HQ7.out.2.2.2.bel (by repeat (first | exact Bel.rf | with_reducible refine Bel.drwN ?_ _ | with_reducible refine Bel.drw ?_ | with_reducible refine Bel.al ?_ _)))
              clear hK K hH2
              try simp only [Act.put, setIfInBounds_toArray, set_cons_zero, set_cons_succ]
              refine Rb.till_take (i := 17) (oi := ⟨some 33, .fieldAddr 59 (.tmp 5) 0, 0, "make.go:196", #[⟨0, .phase⟩, ⟨1, .phase⟩, ⟨2, .phase⟩, ⟨3, .phase⟩, ⟨4, .phase⟩, ⟨5, .phase⟩, ⟨6, .phase⟩, ⟨7, .phase⟩, ⟨8, .phase⟩, ⟨9, .phase⟩, ⟨10, .phase⟩, ⟨11, .phase⟩, ⟨12, .phase⟩, ⟨13, .phase⟩, ⟨14, .textOnly Departure.lateStores⟩, ⟨15, .textOnly Departure.lateStores⟩, ⟨16, .textOnly Departure.lateStoresUnsure⟩], none⟩) (v := ?_) rfl (by kernel_rfl) (by kernel_rfl) (by kernel_rfl) (fun _ _ _ h => h) (by decide) opU rfl (by kernel_rfl) (by kernel_rfl) (Or.inl ⟨by kernel_rfl, ?_⟩) (by assumption) ?_
              rotate_left
              · (intro w hSw; (try dsimp only at hSw); obtain ⟨d1, d2, d3, d4⟩ := hSw; go_simp; try with_reducible rfl)
              try simp only [Act.put, setIfInBounds_toArray, set_cons_zero, set_cons_succ]
              refine Rb.till_ready (rs := [16]) (by kernel_rfl) (by simp) ?_
              refine Rb.AllT.cons (o := ⟨some 32, .call { callee := Callee.builtin Builtin.append, args := #[.tmp 29, .tmp 31], argTypes := #[22, 22] }, 22, "make.go:196", #[⟨13, .data⟩, ⟨15, .data⟩, ⟨11, .chain⟩], none⟩) rfl (fun K hK => ?_) (Rb.AllT.nil)
              · refine step_app _ rfl (.tmp 29) (.tmp 31) rfl (w.heap.size + 1 + 1 + 1) v i B rfl (own_bel HQ7.out.1.ov (by repeat (first | exact Bel.rf | with_reducible refine Bel.drwN ?_ _ | with_reducible refine Bel.drw ?_ | with_reducible refine Bel.al ?_ _))) ⟨w6.heap.size, 0, none⟩ 1 1 [4] rfl (zi_bk (L := [4]) (HX7.out.bel (by repeat (first | exact Bel.rf | with_reducible refine Bel.drwN ?_ _ | with_reducible refine Bel.drw ?_ | with_reducible refine Bel.al ?_ _))) 1 rfl) HI1.out (by have := HQ7.out.1.sz; simp; omega) ?_; intro v12 x12 h12 hg12 ha12; obtain ⟨A12, c12, hv12, _⟩ := own_any h12; subst hv12; have HQ12 : Hid (Wq g (w.heap.size + 1 + 1 + 1) w x12 (.slice A7 (i + 1) c7) (.slice A12 (i + 1) c12) (i + 1) (i + 1) (S ++ [s]) (B ++ [4]) ∧ Bk x12 w.heap.size 59 #[.slice (some ad) n fc, .slice bF n fd] ∧ Bk x12 (w.heap.size + 1) 59 #[.slice none 0 0, .slice none 0 0] ∧ Bk x12 (w.heap.size + 1 + 1) 59 #[u, v]) := ⟨((HQ7.out.1.up (by repeat (first | exact Bel.rf | with_reducible refine Bel.drwN ?_ _ | with_reducible refine Bel.drw ?_ | with_reducible refine Bel.al ?_ _))).sx.ax h12 hg12 ha12).sx, bk_grw (HQ7.out.2.1.bel (by repeat (first | exact Bel.rf | with_reducible refine Bel.drwN ?_ _ | with_reducible refine Bel.drw ?_ | with_reducible refine Bel.al ?_ _))) hg12 (fun e => by have := (HQ7.out.1.ov.lt _ e).1; omega), bk_grw (HQ7.out.2.2.1.bel (by repeat (first | exact Bel.rf | with_reducible refine Bel.drwN ?_ _ | with_reducible refine Bel.drw ?_ | with_reducible refine Bel.al ?_ _))) hg12 (fun e => by have := (HQ7.out.1.ov.lt _ e).1; omega), bk_grw (HQ7.out.2.2.2.bel (by repeat (first | exact Bel.rf | with_reducible refine Bel.drwN ?_ _ | with_reducible refine Bel.drw ?_ | with_reducible refine Bel.al ?_ _))) hg12 (fun e => by have := (HQ7.out.1.ov.lt _ e).1; omega)⟩; have y0 := HQ12.out.2.2.2.cell 0; have y1 := HQ12.out.2.2.2.cell 1; have z0 := HQ12.out.2.2.2.fr 0; have z1 := HQ12.out.2.2.2.fr 1; simp only [List.getElem?_toArray, List.getElem?_cons_zero, List.getElem?_cons_succ] at y0 y1; clear h12 hg12 ha12
                try go_wp2_with fail
                refine hK.out _ _ ?_ (fun hH4 => ?_)
                · (try dsimp only); exact KS.out _ (HQ12.out.1.ch.tr (Ch.of_bel (by repeat (first | exact Bel.rf | with_reducible refine Bel.drwN ?_ _ | with_reducible refine Bel.drw ?_ | with_reducible refine Bel.al ?_ _)))) (HQ12.out.2.1.bel (by repeat (first | exact Bel.rf | with_reducible refine Bel.drwN ?_ _ | with_reducible refine Bel.drw ?_ | with_reducible refine Bel.al ?_ _))) (HQ12.out.2.2.2.bel (by repeat (first | exact Bel.rf | with_reducible refine Bel.drwN ?_ _ | with_reducible refine Bel.drw ?_ | with_reducible refine Bel.al ?_ _)))
                clear hK K hH3
                try simp only [Act.put, setIfInBounds_toArray, set_cons_zero, set_cons_succ]
                refine Rb.till_ready (rs := [18]) (by kernel_rfl) (by simp) ?_
                refine Rb.AllT.past (o := ⟨none, .store 22 (.tmp 33) (.tmp 27), 0, "make.go:196", #[⟨17, .data⟩, ⟨11, .data⟩, ⟨16, .chain⟩, ⟨0, .phase⟩, ⟨1, .phase⟩, ⟨2, .phase⟩, ⟨3, .phase⟩, ⟨4, .phase⟩, ⟨5, .phase⟩, ⟨6, .phase⟩, ⟨7, .phase⟩, ⟨8, .phase⟩, ⟨9, .phase⟩, ⟨10, .phase⟩, ⟨11, .phase⟩, ⟨12, .phase⟩, ⟨13, .phase⟩, ⟨14, .textOnly Departure.lateStores⟩, ⟨15, .textOnly Departure.lateStores⟩, ⟨16, .textOnly Departure.lateStoresUnsure⟩], none⟩) rfl (by kernel_rfl) (fun K hK => ?_) (Rb.AllT.nil)
                · go_simp
                  try go_wp2_with fail
                  refine hK.out _ _ trivial (fun hH5 => ?_)
                  clear hK K hH4
                  try simp only [Act.put, setIfInBounds_toArray, set_cons_zero, set_cons_succ]
                  refine Rb.till_free (i := 19) (oi := ⟨some 34, .fieldAddr 59 (.tmp 5) 1, 0, "make.go:196", #[⟨0, .phase⟩, ⟨1, .phase⟩, ⟨2, .phase⟩, ⟨3, .phase⟩, ⟨4, .phase⟩, ⟨5, .phase⟩, ⟨6, .phase⟩, ⟨7, .phase⟩, ⟨8, .phase⟩, ⟨9, .phase⟩, ⟨10, .phase⟩, ⟨11, .phase⟩, ⟨12, .phase⟩, ⟨13, .phase⟩, ⟨14, .phase⟩, ⟨15, .phase⟩, ⟨16, .phase⟩, ⟨17, .phase⟩, ⟨18, .phase⟩], none⟩) (v := ?_) rfl (by kernel_rfl) (by kernel_rfl) (by kernel_rfl) (fun _ _ _ h => h) (by decide) (Or.inl ⟨by kernel_rfl, ?_⟩) (fun h => absurd h (by decide)) ?_
                  rotate_left
                  · (intro w hSw; clear hSw; go_simp; try with_reducible rfl)
                  try simp only [Act.put, setIfInBounds_toArray, set_cons_zero, set_cons_succ]
                  refine Rb.till_ready (rs := [20]) (by kernel_rfl) (by simp) ?_
                  refine Rb.AllT.past (o := ⟨none, .store 22 (.tmp 34) (.tmp 32), 0, "make.go:196", #[⟨19, .data⟩, ⟨16, .data⟩, ⟨18, .chain⟩, ⟨0, .phase⟩, ⟨1, .phase⟩, ⟨2, .phase⟩, ⟨3, .phase⟩, ⟨4, .phase⟩, ⟨5, .phase⟩, ⟨6, .phase⟩, ⟨7, .phase⟩, ⟨8, .phase⟩, ⟨9, .phase⟩, ⟨10, .phase⟩, ⟨11, .phase⟩, ⟨12, .phase⟩, ⟨13, .phase⟩, ⟨14, .phase⟩, ⟨15, .phase⟩, ⟨16, .phase⟩, ⟨17, .phase⟩, ⟨18, .phase⟩], none⟩) rfl (by kernel_rfl) (fun K hK => ?_) (Rb.AllT.nil)
                  · go_simp
                    try go_wp2_with fail
                    refine hK.out _ _ trivial (fun hH6 => ?_)
                    clear hK K hH5
                    try simp only [Act.put, setIfInBounds_toArray, set_cons_zero, set_cons_succ]
                    refine Rb.till_done (by kernel_rfl) ?_ _
                    refine NoPanic.normal ?_
                    have HFL : Hid (Gd (i + 1) (S ++ [s]) (B ++ [4]) ∧ Us (i + 1) F (S ++ [s]) (B ++ [4]) ∧ Wq g (w.heap.size + 1 + 1 + 1) w ((x12.setCell ⟨w.heap.size + 1 + 1, 0, none⟩ (.slice A7 (i + 1) c7)).setCell ⟨w.heap.size + 1 + 1, 1, none⟩ (.slice A12 (i + 1) c12)) (.slice A7 (i + 1) c7) (.slice A12 (i + 1) c12) (i + 1) (i + 1) (S ++ [s]) (B ++ [4]) ∧ Bk ((x12.setCell ⟨w.heap.size + 1 + 1, 0, none⟩ (.slice A7 (i + 1) c7)).setCell ⟨w.heap.size + 1 + 1, 1, none⟩ (.slice A12 (i + 1) c12)) w.heap.size 59 #[.slice (some ad) n fc, .slice bF n fd] ∧ Bk ((x12.setCell ⟨w.heap.size + 1 + 1, 0, none⟩ (.slice A7 (i + 1) c7)).setCell ⟨w.heap.size + 1 + 1, 1, none⟩ (.slice A12 (i + 1) c12)) (w.heap.size + 1) 59 #[.slice none 0 0, .slice none 0 0] ∧ Bk ((x12.setCell ⟨w.heap.size + 1 + 1, 0, none⟩ (.slice A7 (i + 1) c7)).setCell ⟨w.heap.size + 1 + 1, 1, none⟩ (.slice A12 (i + 1) c12)) (w.heap.size + 1 + 1) 59 #[.slice A7 (i + 1) c7, .slice A12 (i + 1) c12]) := ⟨gd_snoc HGD.out (by decide) (by decide) HS5.out.1 HS5.out.2.1, us_snoc HUS.out HGD.out.1 HGD.out.2.1 HS5.out.2.2, (HQ12.out.1.st (by omega) (by omega) (by have := HGB.out; omega) _ _).st (by omega) (by omega) (by have := HGB.out; omega) _ _, (HQ12.out.2.1.far (by dsimp only; omega) _).far (by dsimp only; omega) _, (HQ12.out.2.2.1.far (by dsimp only; omega) _).far (by dsimp only; omega) _, (HQ12.out.2.2.2.st 0 _).st 1 _⟩
                    go_wp2_with fail
                    go_roundw
                    case rel => exact ⟨i + 1, _, _, _, _, _, rfl, by go_num, by omega, HFL.out.1, HFL.out.2.1, HFL.out.2.2.1, HFL.out.2.2.2.1, HFL.out.2.2.2.2.1, HFL.out.2.2.2.2.2⟩
                    case measure => simp [intOf]; omega
    · obtain rfl : i = n := by omega
      obtain ⟨A1, c1, hu, z1⟩ := own_zx HQ.out.ou HGD.out.1
      obtain ⟨A2, c2, hv, z2⟩ := own_zx HQ.out.ov HGD.out.2.1
      subst hu
      subst hv
      have r0 := HK.out.2.1.cell 0
      have r1 := HK.out.2.1.cell 1
      have e0 := HK.out.2.1.fr 0
      have e1 := HK.out.2.1.fr 1
      have u0 := HK.out.2.2.cell 0
      have u1 := HK.out.2.2.cell 1
      simp only [List.getElem?_toArray, List.getElem?_cons_zero, List.getElem?_cons_succ] at r0 r1 u0 u1
      have HF : Hid (Wq g (w.heap.size + 1 + 1 + 1) w ((wr.setCell ⟨w.heap.size + 1, 0, none⟩ (.slice A1 i c1)).setCell ⟨w.heap.size + 1, 1, none⟩ (.slice A2 i c2)) (.slice A1 i c1) (.slice A2 i c2) i i S B ∧ Bk ((wr.setCell ⟨w.heap.size + 1, 0, none⟩ (.slice A1 i c1)).setCell ⟨w.heap.size + 1, 1, none⟩ (.slice A2 i c2)) (w.heap.size + 1) 59 #[.slice A1 i c1, .slice A2 i c2]) := ⟨(HQ.out.st (by omega) (by omega) (by have := HGB.out; omega) _ _).st (by omega) (by omega) (by have := HGB.out; omega) _ _, (HK.out.2.1.st 0 _).st 1 _⟩
      obtain ⟨A3, c3, hu3, z3⟩ := own_zx HF.out.1.ou HGD.out.1
      obtain ⟨A4, c4, hv4, z4⟩ := own_zx HF.out.1.ov HGD.out.2.1
      cases hu3
      cases hv4
      have HZ3 := Lib.hid (And.intro z3 z4)
      clear z1 z2 z3 z4
      go_wp2
      exact bodyPost_ret (v := Wx i A1 A2 c1 c2) (results_w Try.results38 _ _ (w.heap.size + 1) _ _ rfl (HF.out.2.bel (by repeat (first | exact Bel.rf | with_reducible refine Bel.drwN ?_ _ | with_reducible refine Bel.drw ?_ | with_reducible refine Bel.al ?_ _)))) rfl ⟨A1, A2, c1, c2, S, B, rfl, HGD.out, HUS.out, HZ3.out.1.bel (by repeat (first | exact Bel.rf | with_reducible refine Bel.drwN ?_ _ | with_reducible refine Bel.drw ?_ | with_reducible refine Bel.al ?_ _)), HZ3.out.2.bel (by repeat (first | exact Bel.rf | with_reducible refine Bel.drwN ?_ _ | with_reducible refine Bel.drw ?_ | with_reducible refine Bel.al ?_ _)), HF.out.1.ok.bel (by repeat (first | exact Bel.rf | with_reducible refine Bel.drwN ?_ _ | with_reducible refine Bel.drw ?_ | with_reducible refine Bel.al ?_ _)), HF.out.1.ch.tr (Ch.of_bel (by repeat (first | exact Bel.rf | with_reducible refine Bel.drwN ?_ _ | with_reducible refine Bel.drw ?_ | with_reducible refine Bel.al ?_ _))), own_fz HF.out.1.ou (by omega), own_fz HF.out.1.ov (by omega)⟩
end Go.Proofs.Ytmgdoglnckkobaa.Wd
