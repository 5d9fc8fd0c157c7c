/- keep.Word. -/
import Derived.Test.YtgdhgeongdenpaaWd8
import Derived.Test.YtgdhgeongdenpaaRegB
namespace Go.Proofs.Ytgdhgeongdenpaa.Wd
open List (setIfInBounds_toArray set_cons_zero set_cons_succ)
open Go.ChangeShapes Go.WideShapes Go.RowKit Wo Sr Wi Ms
set_option linter.unusedVariables false
set_option linter.unusedSimpArgs false
theorem bk_grw {W W' : World} {g : Nat} {t : TypeId} {cs : Array Value} {row : Option Nat} (h : Bk W g t cs) (hg : W.grownBy W' row) (hr : row ≠ some g) : Bk W' g t cs :=
  (hg.block g h.lt (fun e => hr e.symm)).trans h
/-- the two rows of a word that grow -/
structure Wq (g base : Nat) (w V : World) (u v : Value) (nu nv : Nat) (S B : List Int) : Prop where
  ou : V.ownsRow base 3 1 u nu (zs S)
  ov : V.ownsRow base 3 1 v nv (zs B)
  ap : ∀ b, u.ownBlock = some b → v.ownBlock ≠ some b
  ok : Ok V g
  ch : Ch g w V
  sz : base ≤ V.heap.size
  gb : g < base
  wb : w.heap.size ≤ base
theorem Wq.sx {g base : Nat} {w V : World} {u v : Value} {nu nv : Nat} {S B : List Int} (h : Wq g base w V u v nu nv S B) : Wq g base w V v u nv nu B S :=
  ⟨h.ov, h.ou, fun b e e2 => h.ap b e2 e, h.ok, h.ch, h.sz, h.gb, h.wb⟩
theorem Wq.to {g base : Nat} {w V V' : World} {u v : Value} {nu nv : Nat} {S B : List Int} (h : Wq g base w V u v nu nv S B) (ho : Ok V' g) (hc : Ch g V V') : Wq g base w V' u v nu nv S B :=
  ⟨own_ch h.ou hc h.gb, own_ch h.ov hc h.gb, h.ap, ho, h.ch.tr hc, Nat.le_trans h.sz hc.sz, h.gb, h.wb⟩
theorem Wq.up {g base : Nat} {w V V' : World} {u v : Value} {nu nv : Nat} {S B : List Int} (h : Wq g base w V u v nu nv S B) (hb : Bel V V') : Wq g base w V' u v nu nv S B := h.to (h.ok.bel hb) (Ch.of_bel hb)
theorem Wq.ax {g base : Nat} {w V V' : World} {u v u' : Value} {nu nv : Nat} {S B : List Int} {s : Int} (h : Wq g base w V u v nu nv S B)
    (h1 : V'.ownsRow base 3 1 u' (nu + 1) (zs (S ++ [s]))) (hg : V.grownBy V' u.ownBlock) (hat : u'.ownBlock = u.ownBlock ∨ u'.ownBlock = some V.heap.size) : Wq g base w V' u' v (nu + 1) nv (S ++ [s]) B := by
  refine ⟨h1, h.ov.kept hg (Classical.or_iff_not_imp_left.2 fun hn e => ?_), fun b e e2 => ?_, ok_grown h.ok hg (fun b e => ?_), ch_grown h.ch hg (fun b e => ?_), Nat.le_trans h.sz hg.size, h.gb, h.wb⟩
  · rcases hx : u.ownBlock with _ | q
    · rw [hx] at e; exact hn e
    · rw [hx] at e; exact h.ap q hx e
  · rcases hat with hat | hat
    · rw [hat] at e; exact h.ap b e e2
    · rw [hat] at e; cases e
      have := (h.ov.lt _ e2).2
      omega
  · have := (h.ou.lt b e).1; have := h.gb; omega
  · have := (h.ou.lt b e).1; have := h.wb; omega
theorem Wq.st {g base : Nat} {w V : World} {u v : Value} {nu nv r : Nat} {S B : List Int} (h : Wq g base w V u v nu nv S B) (h1 : w.heap.size ≤ r) (h2 : r < base) (h3 : g < r) (o : Nat) (x : Value) : Wq g base w (V.setCell ⟨r, o, none⟩ x) u v nu nv S B :=
  ⟨own_ch h.ou ((Ch.rf (g := r)).st o x) h2, own_ch h.ov ((Ch.rf (g := r)).st o x) h2, h.ap, h.ok.st h3 _, h.ch.st2 h1 _, by have := h.sz; simpa [World.setCell] using this, h.gb, h.wb⟩
theorem own_zx {w : World} {base k : Nat} {v : Value} {L : List Int} (h : w.ownsRow base 3 1 v k (zs L)) (hk : L.length = k) : ∃ A c, v = .slice A k c ∧ Zi w A k L := by
  obtain ⟨A, c, rfl, hp⟩ := own_any h
  rcases Nat.eq_zero_or_pos k with h0 | h0
  · exact ⟨A, c, rfl, hk, fun h => by omega⟩
  · obtain ⟨r, rfl⟩ := hp h0
    exact ⟨_, c, rfl, own_zi h hk⟩
/-- the good parts so far -/
def Gd (k : Nat) (S B : List Int) : Prop := S.length = k ∧ B.length = k ∧ ∀ p, p < k → 0 ≤ B.getD p 0 ∧ B.getD p 0 ≤ 4 ∧ 0 ≤ S.getD p 0 ∧ S.getD p 0 < 2 ^ (B.getD p 0).toNat
theorem gd_snoc {k : Nat} {S B : List Int} {s y : Int} (h : Gd k S B) (y0 : 0 ≤ y) (y4 : y ≤ 4) (s0 : 0 ≤ s) (s1 : s < 2 ^ y.toNat) : Gd (k + 1) (S ++ [s]) (B ++ [y]) := by
  refine ⟨by rw [List.length_append, h.1]; rfl, by rw [List.length_append, h.2.1]; rfl, fun p hp => ?_⟩
  rw [List.getD_eq_getElem?_getD, List.getD_eq_getElem?_getD]
  rcases Nat.lt_or_ge p k with q | q
  · rw [List.getElem?_append_left (by rw [h.2.1]; exact q), List.getElem?_append_left (by rw [h.1]; exact q), ← List.getD_eq_getElem?_getD, ← List.getD_eq_getElem?_getD]
    exact h.2.2 p q
  · obtain rfl : p = k := by omega
    rw [List.getElem?_append_right (by rw [h.2.1]; exact Nat.le_refl _), List.getElem?_append_right (by rw [h.1]; exact Nat.le_refl _), h.1, h.2.1, Nat.sub_self]
    exact ⟨y0, y4, s0, s1⟩
/-- a word of a scheme -/
def SomeWd (g n : Nat) (w : World) (e : Ending) (w' : World) : Prop := ∃ sA bA sc bc S B, e = .returned (Wx n sA bA sc bc) ∧ Wv n S B ∧ Zi w' sA n S ∧ Zi w' bA n B ∧ Ok w' g ∧ Ch g w w' ∧ Fz w sA n ∧ Fz w bA n
def opW : Oper := ⟨none, .store 22 (.tmp 29) (.tmp 23), 0, "make.go:186", #[⟨13, .data⟩, ⟨7, .data⟩, ⟨12, .chain⟩, ⟨0, .phase⟩, ⟨1, .phase⟩, ⟨2, .phase⟩, ⟨3, .phase⟩, ⟨4, .phase⟩, ⟨5, .phase⟩, ⟨6, .phase⟩, ⟨7, .phase⟩, ⟨8, .phase⟩, ⟨9, .phase⟩, ⟨10, .textOnly Departure.lateStores⟩, ⟨11, .textOnly Departure.lateStores⟩, ⟨12, .textOnly Departure.lateStoresUnsure⟩], none⟩
set_option maxHeartbeats 8000000 in
set_option maxRecDepth 100000 in
theorem word_any (g : Nat) (k b q : Int) (m n : Nat) (n8 : n ≤ 8) (A : Option Addr) (nc cc : Nat) (w : World) (h : Ok w g) :
    Calls Try.prog 15 #[.pointer (some ⟨g, 0, none⟩), Sx k b q m n A nc cc] w (SomeWd g n w) := by
  have HGB := Lib.hid h.lt
  have HZQ : Hid (Ok (((w.alloc (.cells #[.int .i64 k, .int .i64 b, .int .i64 q, .int .i64 (m : Int), .int .i64 (n : Int), .slice A nc cc] 28)).alloc (.cells #[.slice none 0 0, .slice none 0 0] 32)).alloc (.cells #[.slice none 0 0, .slice none 0 0] 32)) g ∧ Bk (((w.alloc (.cells #[.int .i64 k, .int .i64 b, .int .i64 q, .int .i64 (m : Int), .int .i64 (n : Int), .slice A nc cc] 28)).alloc (.cells #[.slice none 0 0, .slice none 0 0] 32)).alloc (.cells #[.slice none 0 0, .slice none 0 0] 32)) w.heap.size 28 #[.int .i64 k, .int .i64 b, .int .i64 q, .int .i64 (m : Int), .int .i64 (n : Int), .slice A nc cc] ∧ Bk (((w.alloc (.cells #[.int .i64 k, .int .i64 b, .int .i64 q, .int .i64 (m : Int), .int .i64 (n : Int), .slice A nc cc] 28)).alloc (.cells #[.slice none 0 0, .slice none 0 0] 32)).alloc (.cells #[.slice none 0 0, .slice none 0 0] 32)) (w.heap.size + 1) 32 #[.slice none 0 0, .slice none 0 0] ∧ Bk (((w.alloc (.cells #[.int .i64 k, .int .i64 b, .int .i64 q, .int .i64 (m : Int), .int .i64 (n : Int), .slice A nc cc] 28)).alloc (.cells #[.slice none 0 0, .slice none 0 0] 32)).alloc (.cells #[.slice none 0 0, .slice none 0 0] 32)) (w.heap.size + 1 + 1) 32 #[.slice none 0 0, .slice none 0 0] ∧ Bel w (((w.alloc (.cells #[.int .i64 k, .int .i64 b, .int .i64 q, .int .i64 (m : Int), .int .i64 (n : Int), .slice A nc cc] 28)).alloc (.cells #[.slice none 0 0, .slice none 0 0] 32)).alloc (.cells #[.slice none 0 0, .slice none 0 0] 32))) := ⟨h.bel (by repeat (first | exact Bel.rf | with_reducible refine Bel.drwN ?_ _ | with_reducible refine Bel.drw ?_ | with_reducible refine Bel.al ?_ _)), ((Bk.nw _ _ _).al _).al _, (Bk.nq _ _ _ (by simp)).al _, Bk.nq _ _ _ (by simp), (by repeat (first | exact Bel.rf | with_reducible refine Bel.drwN ?_ _ | with_reducible refine Bel.drw ?_ | with_reducible refine Bel.al ?_ _))⟩
  have ni : (n : Int) ≤ 8 := by omega
  clear h
  unfold Sx
  go_enter Try.func15, Try.ntmps15
  go_wp2_with fail
  go_loopw [6, 7] (fun s6 s7 wr => ∃ (i : Nat) (u v : Value) (S B : List Int) (V : World), V = wr ∧ s6 = .int .i64 (i : Int) ∧ i ≤ n ∧ Gd i S B ∧ Wq g (w.heap.size + 1 + 1 + 1) w wr u v i i S B ∧ Bk wr w.heap.size 28 #[.int .i64 k, .int .i64 b, .int .i64 q, .int .i64 (m : Int), .int .i64 (n : Int), .slice A nc cc] ∧ Bk wr (w.heap.size + 1) 32 #[.slice none 0 0, .slice none 0 0] ∧ Bk wr (w.heap.size + 1 + 1) 32 #[u, v]) (fun s6 _ _ => n - (intOf s6).toNat)
  case atStart => exact ⟨0, _, _, [], [], _, rfl, by go_num, by omega, ⟨rfl, rfl, fun p hp => by omega⟩, ⟨World.ownsRow_nil _ _ _ _, World.ownsRow_nil _ _ _ _, fun b e => (by cases e), HZQ.out.1.bel (by repeat (first | exact Bel.rf | with_reducible refine Bel.drwN ?_ _ | with_reducible refine Bel.drw ?_ | with_reducible refine Bel.al ?_ _)), Ch.of_bel (by repeat (first | exact Bel.rf | with_reducible refine Bel.drwN ?_ _ | with_reducible refine Bel.drw ?_ | with_reducible refine Bel.al ?_ _)), (by first | exact Nat.le_refl _ | (simp; done) | (simp; omega)), (by have := HGB.out; omega), (by omega)⟩, HZQ.out.2.1.bel (by repeat (first | exact Bel.rf | with_reducible refine Bel.drwN ?_ _ | with_reducible refine Bel.drw ?_ | with_reducible refine Bel.al ?_ _)), HZQ.out.2.2.1.bel (by repeat (first | exact Bel.rf | with_reducible refine Bel.drwN ?_ _ | with_reducible refine Bel.drw ?_ | with_reducible refine Bel.al ?_ _)), HZQ.out.2.2.2.1.bel (by repeat (first | exact Bel.rf | with_reducible refine Bel.drwN ?_ _ | with_reducible refine Bel.drw ?_ | with_reducible refine Bel.al ?_ _))⟩
  case round =>
    obtain ⟨i, u, v, S, B, wr, hwr, rfl, hi, hgd, hq, hk1, hk2, hk3⟩ := hrel
    subst hwr
    have HQ := Lib.hid hq
    have HGD := Lib.hid hgd
    have HK := Lib.hid (And.intro hk1 (And.intro hk2 hk3))
    have q4 := hk1.cell 4
    simp only [List.getElem?_toArray, List.getElem?_cons_zero, List.getElem?_cons_succ] at q4
    clear hq hgd hk1 hk2 hk3
    rcases Nat.lt_or_ge i n with hlt | hge
    · have ii : (i : Int) < (n : Int) := by omega
      have i0 : (0 : Int) ≤ (i : Int) := by omega
      go_wp2_with fail
      go_at_call 21
      refine (n_any g 5 (by decide) (by decide) _ (HQ.out.ok.bel (by repeat (first | exact Bel.rf | with_reducible refine Bel.drwN ?_ _ | with_reducible refine Bel.drw ?_ | with_reducible refine Bel.al ?_ _)))).mono ?_
      rintro e w6 ⟨y, rfl, y0, y5, ho, hc⟩
      have hcc : Ch g wr w6 := (Ch.of_bel (by repeat (first | exact Bel.rf | with_reducible refine Bel.drwN ?_ _ | with_reducible refine Bel.drw ?_ | with_reducible refine Bel.al ?_ _))).tr hc
      have HQ6 : Hid (Wq g (w.heap.size + 1 + 1 + 1) w w6 u v i i S B ∧ Bk w6 w.heap.size 28 #[.int .i64 k, .int .i64 b, .int .i64 q, .int .i64 (m : Int), .int .i64 (n : Int), .slice A nc cc] ∧ Bk w6 (w.heap.size + 1) 32 #[.slice none 0 0, .slice none 0 0] ∧ Bk w6 (w.heap.size + 1 + 1) 32 #[u, v]) := ⟨HQ.out.to ho hcc, hcc.bk HK.out.1 (by have := HGB.out; omega), hcc.bk HK.out.2.1 (by have := HGB.out; omega), hcc.bk HK.out.2.2 (by have := HGB.out; omega)⟩
      have KS : Hid (∀ W, Bk W (w.heap.size + 1 + 1) 32 #[u, v] → W.cell? (⟨w.heap.size + 1 + 1, 0, none⟩ : Addr) = some u ∧ W.cell? (⟨w.heap.size + 1 + 1, 1, none⟩ : Addr) = some v) := fun W h => by
        have u0 := h.cell 0
        have u1 := h.cell 1
        simp only [List.getElem?_toArray, List.getElem?_cons_zero, List.getElem?_cons_succ] at u0 u1
        exact ⟨u0, u1⟩
      have HI1 : Hid (i + 1 ≤ 1000000) := (by omega : _ ≤ _)
      have HB6 : Hid (∀ r, u.ownBlock = some r → r < w6.heap.size) := fun r e => (HQ6.out.1.ou.lt r e).2
      clear q4 ho hc hcc
      have hb5 : y = 0 ∨ y = 1 ∨ y = 2 ∨ y = 3 ∨ y = 4 := by omega
      have HY := Lib.hid hb5
      clear hb5 y0 y5
      rcases HY.out with rfl | rfl | rfl | rfl | rfl
      · have wv1 : IntKind.i64.wrap 1 = 1 := by decide
        have wv2 : IntKind.i64.wrap (2 ^ 0) = 1 := by decide
        clear HY
        go_wp2_with fail
        refine wp_region_noPanic ?_
        refine Rb.wp_region_till (S := fun W => W.cell? (⟨w.heap.size + 1 + 1, 0, none⟩ : Addr) = some u ∧ W.cell? (⟨w.heap.size + 1 + 1, 1, none⟩ : Addr) = some v) 14 (by kernel_rfl) ?_ (fun hH0 => ?_)
        · (try dsimp only); exact KS.out _ (HQ6.out.2.2.2.bel (by repeat (first | exact Bel.rf | with_reducible refine Bel.drwN ?_ _ | with_reducible refine Bel.drw ?_ | with_reducible refine Bel.al ?_ _)))
        refine Rb.till_take (i := 0) (oi := ⟨some 16, .fieldAddr 32 (.tmp 5) 0, 0, "make.go:186", #[], none⟩) (v := ?_) rfl (by kernel_rfl) (by kernel_rfl) (by kernel_rfl) (fun _ _ _ h => h) (by decide) opW rfl (by kernel_rfl) (by kernel_rfl) (Or.inl ⟨by kernel_rfl, ?_⟩) (by assumption) ?_
        rotate_left
        · (intro w hSw; (try dsimp only at hSw); obtain ⟨d1, d2⟩ := hSw; go_simp; try with_reducible rfl)
        try simp only [Act.put, setIfInBounds_toArray, set_cons_zero, set_cons_succ]
        refine Rb.till_take (i := 1) (oi := ⟨some 17, .load 22 (.tmp 16), 22, "make.go:186", #[⟨0, .data⟩], none⟩) (v := ?_) rfl (by kernel_rfl) (by kernel_rfl) (by kernel_rfl) (fun _ _ _ h => h) (by decide) opW rfl (by kernel_rfl) (by kernel_rfl) (Or.inl ⟨by kernel_rfl, ?_⟩) (by assumption) ?_
        rotate_left
        · (intro w hSw; (try dsimp only at hSw); obtain ⟨d1, d2⟩ := hSw; go_simp; try with_reducible rfl)
        try simp only [Act.put, setIfInBounds_toArray, set_cons_zero, set_cons_succ]
        refine Rb.till_take (i := 2) (oi := ⟨some 18, .move (.tmp 0), 23, "make.go:186", #[], none⟩) (v := ?_) rfl (by kernel_rfl) (by kernel_rfl) (by kernel_rfl) (fun _ _ _ h => h) (by decide) opW rfl (by kernel_rfl) (by kernel_rfl) (Or.inl ⟨by kernel_rfl, ?_⟩) (by assumption) ?_
        rotate_left
        · (intro w hSw; (try dsimp only at hSw); obtain ⟨d1, d2⟩ := hSw; go_simp; try with_reducible rfl)
        try simp only [Act.put, setIfInBounds_toArray, set_cons_zero, set_cons_succ]
        refine Rb.till_take (i := 3) (oi := ⟨some 19, .move (.tmp 7), 3, "make.go:186", #[], none⟩) (v := ?_) rfl (by kernel_rfl) (by kernel_rfl) (by kernel_rfl) (fun _ _ _ h => h) (by decide) opW rfl (by kernel_rfl) (by kernel_rfl) (Or.inl ⟨by kernel_rfl, ?_⟩) (by assumption) ?_
        rotate_left
        · (intro w hSw; (try dsimp only at hSw); obtain ⟨d1, d2⟩ := hSw; go_simp; try with_reducible rfl)
        try simp only [Act.put, setIfInBounds_toArray, set_cons_zero, set_cons_succ]
        refine Rb.till_take (i := 4) (oi := ⟨some 20, .binOp BinOp.shl 3 (.const (.int IntKind.i64 1)) (.tmp 19) 3, 3, "make.go:186", #[⟨3, .data⟩], none⟩) (v := ?_) rfl (by kernel_rfl) (by kernel_rfl) (by kernel_rfl) (fun _ _ _ h => h) (by decide) opW rfl (by kernel_rfl) (by kernel_rfl) (Or.inl ⟨by kernel_rfl, ?_⟩) (by assumption) ?_
        rotate_left
        · (intro w hSw; (try dsimp only at hSw); obtain ⟨d1, d2⟩ := hSw; go_simp; try with_reducible rfl)
        try simp only [Act.put, setIfInBounds_toArray, set_cons_zero, set_cons_succ]
        refine Rb.till_take (i := 8) (oi := ⟨some 24, .fieldAddr 32 (.tmp 5) 1, 0, "make.go:186", #[], none⟩) (v := ?_) rfl (by kernel_rfl) (by kernel_rfl) (by kernel_rfl) (fun _ _ _ h => h) (by decide) opW rfl (by kernel_rfl) (by kernel_rfl) (Or.inl ⟨by kernel_rfl, ?_⟩) (by assumption) ?_
        rotate_left
        · (intro w hSw; (try dsimp only at hSw); obtain ⟨d1, d2⟩ := hSw; go_simp; try with_reducible rfl)
        try simp only [Act.put, setIfInBounds_toArray, set_cons_zero, set_cons_succ]
        refine Rb.till_take (i := 9) (oi := ⟨some 25, .load 22 (.tmp 24), 22, "make.go:186", #[⟨8, .data⟩], none⟩) (v := ?_) rfl (by kernel_rfl) (by kernel_rfl) (by kernel_rfl) (fun _ _ _ h => h) (by decide) opW rfl (by kernel_rfl) (by kernel_rfl) (Or.inl ⟨by kernel_rfl, ?_⟩) (by assumption) ?_
        rotate_left
        · (intro w hSw; (try dsimp only at hSw); obtain ⟨d1, d2⟩ := hSw; go_simp; try with_reducible rfl)
        try simp only [Act.put, setIfInBounds_toArray, set_cons_zero, set_cons_succ]
        refine Rb.till_free (i := 10) (oi := ⟨some 26, .move (.tmp 7), 3, "make.go:186", #[], none⟩) (v := ?_) rfl (by kernel_rfl) (by kernel_rfl) (by kernel_rfl) (fun _ _ _ h => h) (by decide) (Or.inl ⟨by kernel_rfl, ?_⟩) (fun _ => by assumption) ?_
        rotate_left
        · (intro w hSw; clear hSw; go_simp; try with_reducible rfl)
        try simp only [Act.put, setIfInBounds_toArray, set_cons_zero, set_cons_succ]
        refine Rb.till_ready (rs := [5, 11]) (by kernel_rfl) (by simp) ?_
        refine Rb.AllT.cons (o := ⟨some 21, .call { callee := Callee.value (.func 21), args := #[.tmp 18, .tmp 20], argTypes := #[23, 3] }, 3, "make.go:186", #[⟨2, .data⟩, ⟨4, .data⟩], none⟩) rfl (fun K hK => ?_) (Rb.AllT.cons (o := ⟨some 27, .buildSlice 22 1 #[(0, .tmp 26)], 22, "make.go:186", #[⟨10, .data⟩], none⟩) rfl (fun K hK => ?_) (Rb.AllT.nil))
        · go_simp
          go_at_call 21; (try simp only [wv1, wv2]); refine (n_any g 1 (by decide) (by decide) _ (HQ6.out.1.ok.bel (by repeat (first | exact Bel.rf | with_reducible refine Bel.drwN ?_ _ | with_reducible refine Bel.drw ?_ | with_reducible refine Bel.al ?_ _)))).mono ?_; rintro e x5 ⟨s, rfl, s0, s1, ho5, hc5⟩; have hcd : Ch g w6 x5 := (Ch.of_bel (by repeat (first | exact Bel.rf | with_reducible refine Bel.drwN ?_ _ | with_reducible refine Bel.drw ?_ | with_reducible refine Bel.al ?_ _))).tr hc5; have HQ5 : Hid (Wq g (w.heap.size + 1 + 1 + 1) w x5 u v i i S B ∧ Bk x5 w.heap.size 28 #[.int .i64 k, .int .i64 b, .int .i64 q, .int .i64 (m : Int), .int .i64 (n : Int), .slice A nc cc] ∧ Bk x5 (w.heap.size + 1) 32 #[.slice none 0 0, .slice none 0 0] ∧ Bk x5 (w.heap.size + 1 + 1) 32 #[u, v]) := ⟨HQ6.out.1.to ho5 hcd, hcd.bk HQ6.out.2.1 (by have := HGB.out; omega), hcd.bk HQ6.out.2.2.1 (by have := HGB.out; omega), hcd.bk HQ6.out.2.2.2 (by have := HGB.out; omega)⟩; have HS5 := Lib.hid (And.intro s0 s1); clear ho5 hc5 hcd s0 s1
          try go_wp2_with fail
          refine hK.out _ _ ?_ (fun hH1 => ?_)
          · (try dsimp only); exact KS.out _ (HQ5.out.2.2.2.bel (by repeat (first | exact Bel.rf | with_reducible refine Bel.drwN ?_ _ | with_reducible refine Bel.drw ?_ | with_reducible refine Bel.al ?_ _)))
          clear hK K hH0
          try simp only [Act.put, setIfInBounds_toArray, set_cons_zero, set_cons_succ]
          refine Rb.till_ready (rs := [6, 11]) (by kernel_rfl) (by simp) ?_
          refine Rb.AllT.cons (o := ⟨some 22, .buildSlice 22 1 #[(0, .tmp 21)], 22, "make.go:186", #[⟨5, .data⟩], none⟩) rfl (fun K hK => ?_) (Rb.AllT.cons (o := ⟨some 27, .buildSlice 22 1 #[(0, .tmp 26)], 22, "make.go:186", #[⟨10, .data⟩], none⟩) rfl (fun K hK => ?_) (Rb.AllT.nil))
          · go_simp
            try go_wp2_with fail
            refine hK.out _ _ ?_ (fun hH2 => ?_)
            · (try dsimp only); exact KS.out _ (HQ5.out.2.2.2.bel (by repeat (first | exact Bel.rf | with_reducible refine Bel.drwN ?_ _ | with_reducible refine Bel.drw ?_ | with_reducible refine Bel.al ?_ _)))
            clear hK K hH1
            try simp only [Act.put, setIfInBounds_toArray, set_cons_zero, set_cons_succ]
            refine Rb.till_ready (rs := [7, 11]) (by kernel_rfl) (by simp) ?_
            refine Rb.AllT.cons (o := ⟨some 23, .call { callee := Callee.builtin Builtin.append, args := #[.tmp 17, .tmp 22], argTypes := #[22, 22] }, 22, "make.go:186", #[⟨1, .data⟩, ⟨6, .data⟩, ⟨5, .chain⟩], none⟩) rfl (fun K hK => ?_) (Rb.AllT.cons (o := ⟨some 27, .buildSlice 22 1 #[(0, .tmp 26)], 22, "make.go:186", #[⟨10, .data⟩], none⟩) rfl (fun K hK => ?_) (Rb.AllT.nil))
            · refine step_app _ rfl (.tmp 17) (.tmp 22) rfl (w.heap.size + 1 + 1 + 1) u i S rfl (own_bel HQ5.out.1.ou (by repeat (first | exact Bel.rf | with_reducible refine Bel.drwN ?_ _ | with_reducible refine Bel.drw ?_ | with_reducible refine Bel.al ?_ _))) ⟨x5.heap.size, 0, none⟩ 1 1 [s] rfl (zi_bk (L := [s]) ((by repeat (first | (refine Bk.nq _ _ _ ?_; simp; done) | with_reducible refine Bk.drwN ?_ _ | with_reducible refine Bk.drw ?_ | with_reducible refine Bk.al ?_ _)) : Bk _ x5.heap.size 3 (zs [s]).toArray) 1 rfl) HI1.out (by have := HQ5.out.1.sz; simp; omega) ?_; intro v7 x7 h7 hg7 ha7; obtain ⟨A7, c7, hv7, _⟩ := own_any h7; subst hv7; have HQ7 : Hid (Wq g (w.heap.size + 1 + 1 + 1) w x7 (.slice A7 (i + 1) c7) v (i + 1) i (S ++ [s]) B ∧ Bk x7 w.heap.size 28 #[.int .i64 k, .int .i64 b, .int .i64 q, .int .i64 (m : Int), .int .i64 (n : Int), .slice A nc cc] ∧ Bk x7 (w.heap.size + 1) 32 #[.slice none 0 0, .slice none 0 0] ∧ Bk x7 (w.heap.size + 1 + 1) 32 #[u, v]) := ⟨(HQ5.out.1.up (by repeat (first | exact Bel.rf | with_reducible refine Bel.drwN ?_ _ | with_reducible refine Bel.drw ?_ | with_reducible refine Bel.al ?_ _))).ax h7 hg7 ha7, bk_grw (HQ5.out.2.1.bel (by repeat (first | exact Bel.rf | with_reducible refine Bel.drwN ?_ _ | with_reducible refine Bel.drw ?_ | with_reducible refine Bel.al ?_ _))) hg7 (fun e => by have := (HQ5.out.1.ou.lt _ e).1; omega), bk_grw (HQ5.out.2.2.1.bel (by repeat (first | exact Bel.rf | with_reducible refine Bel.drwN ?_ _ | with_reducible refine Bel.drw ?_ | with_reducible refine Bel.al ?_ _))) hg7 (fun e => by have := (HQ5.out.1.ou.lt _ e).1; omega), bk_grw (HQ5.out.2.2.2.bel (by repeat (first | exact Bel.rf | with_reducible refine Bel.drwN ?_ _ | with_reducible refine Bel.drw ?_ | with_reducible refine Bel.al ?_ _))) hg7 (fun e => by have := (HQ5.out.1.ou.lt _ e).1; omega)⟩; clear h7 hg7 ha7
              try go_wp2_with fail
              refine hK.out _ _ ?_ (fun hH3 => ?_)
              · (try dsimp only); exact KS.out _ (HQ7.out.2.2.2.bel (by repeat (first | exact Bel.rf | with_reducible refine Bel.drwN ?_ _ | with_reducible refine Bel.drw ?_ | with_reducible refine Bel.al ?_ _)))
              clear hK K hH2
              try simp only [Act.put, setIfInBounds_toArray, set_cons_zero, set_cons_succ]
              refine Rb.till_take (i := 13) (oi := ⟨some 29, .fieldAddr 32 (.tmp 5) 0, 0, "make.go:186", #[⟨0, .phase⟩, ⟨1, .phase⟩, ⟨2, .phase⟩, ⟨3, .phase⟩, ⟨4, .phase⟩, ⟨5, .phase⟩, ⟨6, .phase⟩, ⟨7, .phase⟩, ⟨8, .phase⟩, ⟨9, .phase⟩, ⟨10, .textOnly Departure.lateStores⟩, ⟨11, .textOnly Departure.lateStores⟩, ⟨12, .textOnly Departure.lateStoresUnsure⟩], none⟩) (v := ?_) rfl (by kernel_rfl) (by kernel_rfl) (by kernel_rfl) (fun _ _ _ h => h) (by decide) opW rfl (by kernel_rfl) (by kernel_rfl) (Or.inl ⟨by kernel_rfl, ?_⟩) (by assumption) ?_
              rotate_left
              · (intro w hSw; (try dsimp only at hSw); obtain ⟨d1, d2⟩ := hSw; go_simp; try with_reducible rfl)
              try simp only [Act.put, setIfInBounds_toArray, set_cons_zero, set_cons_succ]
              refine Rb.till_ready (rs := [11]) (by kernel_rfl) (by simp) ?_
              refine Rb.AllT.cons (o := ⟨some 27, .buildSlice 22 1 #[(0, .tmp 26)], 22, "make.go:186", #[⟨10, .data⟩], none⟩) rfl (fun K hK => ?_) (Rb.AllT.nil)
              · go_simp
                try go_wp2_with fail
                refine hK.out _ _ ?_ (fun hH4 => ?_)
                · (try dsimp only); exact KS.out _ (HQ7.out.2.2.2.bel (by repeat (first | exact Bel.rf | with_reducible refine Bel.drwN ?_ _ | with_reducible refine Bel.drw ?_ | with_reducible refine Bel.al ?_ _)))
                clear hK K hH3
                try simp only [Act.put, setIfInBounds_toArray, set_cons_zero, set_cons_succ]
                refine Rb.till_ready (rs := [12]) (by kernel_rfl) (by simp) ?_
                refine Rb.AllT.cons (o := ⟨some 28, .call { callee := Callee.builtin Builtin.append, args := #[.tmp 25, .tmp 27], argTypes := #[22, 22] }, 22, "make.go:186", #[⟨9, .data⟩, ⟨11, .data⟩, ⟨7, .chain⟩], none⟩) rfl (fun K hK => ?_) (Rb.AllT.nil)
                · refine step_app _ rfl (.tmp 25) (.tmp 27) rfl (w.heap.size + 1 + 1 + 1) v i B rfl (own_bel HQ7.out.1.ov (by repeat (first | exact Bel.rf | with_reducible refine Bel.drwN ?_ _ | with_reducible refine Bel.drw ?_ | with_reducible refine Bel.al ?_ _))) ⟨x7.heap.size, 0, none⟩ 1 1 [0] rfl (zi_bk (L := [0]) ((by repeat (first | (refine Bk.nq _ _ _ ?_; simp; done) | with_reducible refine Bk.drwN ?_ _ | with_reducible refine Bk.drw ?_ | with_reducible refine Bk.al ?_ _)) : Bk _ x7.heap.size 3 (zs [0]).toArray) 1 rfl) HI1.out (by have := HQ7.out.1.sz; simp; omega) ?_; intro v12 x12 h12 hg12 ha12; obtain ⟨A12, c12, hv12, _⟩ := own_any h12; subst hv12; have HQ12 : Hid (Wq g (w.heap.size + 1 + 1 + 1) w x12 (.slice A7 (i + 1) c7) (.slice A12 (i + 1) c12) (i + 1) (i + 1) (S ++ [s]) (B ++ [0]) ∧ Bk x12 w.heap.size 28 #[.int .i64 k, .int .i64 b, .int .i64 q, .int .i64 (m : Int), .int .i64 (n : Int), .slice A nc cc] ∧ Bk x12 (w.heap.size + 1) 32 #[.slice none 0 0, .slice none 0 0] ∧ Bk x12 (w.heap.size + 1 + 1) 32 #[u, v]) := ⟨((HQ7.out.1.up (by repeat (first | exact Bel.rf | with_reducible refine Bel.drwN ?_ _ | with_reducible refine Bel.drw ?_ | with_reducible refine Bel.al ?_ _))).sx.ax h12 hg12 ha12).sx, bk_grw (HQ7.out.2.1.bel (by repeat (first | exact Bel.rf | with_reducible refine Bel.drwN ?_ _ | with_reducible refine Bel.drw ?_ | with_reducible refine Bel.al ?_ _))) hg12 (fun e => by have := (HQ7.out.1.ov.lt _ e).1; omega), bk_grw (HQ7.out.2.2.1.bel (by repeat (first | exact Bel.rf | with_reducible refine Bel.drwN ?_ _ | with_reducible refine Bel.drw ?_ | with_reducible refine Bel.al ?_ _))) hg12 (fun e => by have := (HQ7.out.1.ov.lt _ e).1; omega), bk_grw (HQ7.out.2.2.2.bel (by repeat (first | exact Bel.rf | with_reducible refine Bel.drwN ?_ _ | with_reducible refine Bel.drw ?_ | with_reducible refine Bel.al ?_ _))) hg12 (fun e => by have := (HQ7.out.1.ov.lt _ e).1; omega)⟩; have y0 := HQ12.out.2.2.2.cell 0; have y1 := HQ12.out.2.2.2.cell 1; have z0 := HQ12.out.2.2.2.fr 0; have z1 := HQ12.out.2.2.2.fr 1; simp only [List.getElem?_toArray, List.getElem?_cons_zero, List.getElem?_cons_succ] at y0 y1; clear h12 hg12 ha12
                  try go_wp2_with fail
                  refine hK.out _ _ ?_ (fun hH5 => ?_)
                  · (try dsimp only); exact KS.out _ (HQ12.out.2.2.2.bel (by repeat (first | exact Bel.rf | with_reducible refine Bel.drwN ?_ _ | with_reducible refine Bel.drw ?_ | with_reducible refine Bel.al ?_ _)))
                  clear hK K hH4
                  try simp only [Act.put, setIfInBounds_toArray, set_cons_zero, set_cons_succ]
                  refine Rb.till_ready (rs := [14]) (by kernel_rfl) (by simp) ?_
                  refine Rb.AllT.past (o := ⟨none, .store 22 (.tmp 29) (.tmp 23), 0, "make.go:186", #[⟨13, .data⟩, ⟨7, .data⟩, ⟨12, .chain⟩, ⟨0, .phase⟩, ⟨1, .phase⟩, ⟨2, .phase⟩, ⟨3, .phase⟩, ⟨4, .phase⟩, ⟨5, .phase⟩, ⟨6, .phase⟩, ⟨7, .phase⟩, ⟨8, .phase⟩, ⟨9, .phase⟩, ⟨10, .textOnly Departure.lateStores⟩, ⟨11, .textOnly Departure.lateStores⟩, ⟨12, .textOnly Departure.lateStoresUnsure⟩], none⟩) rfl (by kernel_rfl) (fun K hK => ?_) (Rb.AllT.nil)
                  · go_simp
                    try go_wp2_with fail
                    refine hK.out _ _ trivial (fun hH6 => ?_)
                    clear hK K hH5
                    try simp only [Act.put, setIfInBounds_toArray, set_cons_zero, set_cons_succ]
                    refine Rb.till_free (i := 15) (oi := ⟨some 30, .fieldAddr 32 (.tmp 5) 1, 0, "make.go:186", #[⟨0, .phase⟩, ⟨1, .phase⟩, ⟨2, .phase⟩, ⟨3, .phase⟩, ⟨4, .phase⟩, ⟨5, .phase⟩, ⟨6, .phase⟩, ⟨7, .phase⟩, ⟨8, .phase⟩, ⟨9, .phase⟩, ⟨10, .phase⟩, ⟨11, .phase⟩, ⟨12, .phase⟩, ⟨13, .phase⟩, ⟨14, .phase⟩], none⟩) (v := ?_) rfl (by kernel_rfl) (by kernel_rfl) (by kernel_rfl) (fun _ _ _ h => h) (by decide) (Or.inl ⟨by kernel_rfl, ?_⟩) (fun h => absurd h (by decide)) ?_
                    rotate_left
                    · (intro w hSw; clear hSw; go_simp; try with_reducible rfl)
                    try simp only [Act.put, setIfInBounds_toArray, set_cons_zero, set_cons_succ]
                    refine Rb.till_ready (rs := [16]) (by kernel_rfl) (by simp) ?_
                    refine Rb.AllT.past (o := ⟨none, .store 22 (.tmp 30) (.tmp 28), 0, "make.go:186", #[⟨15, .data⟩, ⟨12, .data⟩, ⟨14, .chain⟩, ⟨0, .phase⟩, ⟨1, .phase⟩, ⟨2, .phase⟩, ⟨3, .phase⟩, ⟨4, .phase⟩, ⟨5, .phase⟩, ⟨6, .phase⟩, ⟨7, .phase⟩, ⟨8, .phase⟩, ⟨9, .phase⟩, ⟨10, .phase⟩, ⟨11, .phase⟩, ⟨12, .phase⟩, ⟨13, .phase⟩, ⟨14, .phase⟩], none⟩) rfl (by kernel_rfl) (fun K hK => ?_) (Rb.AllT.nil)
                    · go_simp
                      try go_wp2_with fail
                      refine hK.out _ _ trivial (fun hH7 => ?_)
                      clear hK K hH6
                      try simp only [Act.put, setIfInBounds_toArray, set_cons_zero, set_cons_succ]
                      refine Rb.till_done (by kernel_rfl) ?_ _
                      refine NoPanic.normal ?_
                      have HFF : Hid (Gd (i + 1) (S ++ [s]) (B ++ [0]) ∧ Wq g (w.heap.size + 1 + 1 + 1) w ((x12.setCell ⟨w.heap.size + 1 + 1, 0, none⟩ (.slice A7 (i + 1) c7)).setCell ⟨w.heap.size + 1 + 1, 1, none⟩ (.slice A12 (i + 1) c12)) (.slice A7 (i + 1) c7) (.slice A12 (i + 1) c12) (i + 1) (i + 1) (S ++ [s]) (B ++ [0]) ∧ Bk ((x12.setCell ⟨w.heap.size + 1 + 1, 0, none⟩ (.slice A7 (i + 1) c7)).setCell ⟨w.heap.size + 1 + 1, 1, none⟩ (.slice A12 (i + 1) c12)) w.heap.size 28 #[.int .i64 k, .int .i64 b, .int .i64 q, .int .i64 (m : Int), .int .i64 (n : Int), .slice A nc cc] ∧ Bk ((x12.setCell ⟨w.heap.size + 1 + 1, 0, none⟩ (.slice A7 (i + 1) c7)).setCell ⟨w.heap.size + 1 + 1, 1, none⟩ (.slice A12 (i + 1) c12)) (w.heap.size + 1) 32 #[.slice none 0 0, .slice none 0 0] ∧ Bk ((x12.setCell ⟨w.heap.size + 1 + 1, 0, none⟩ (.slice A7 (i + 1) c7)).setCell ⟨w.heap.size + 1 + 1, 1, none⟩ (.slice A12 (i + 1) c12)) (w.heap.size + 1 + 1) 32 #[.slice A7 (i + 1) c7, .slice A12 (i + 1) c12]) := ⟨gd_snoc HGD.out (by decide) (by decide) HS5.out.1 (show s < 2 ^ (0 : Int).toNat from HS5.out.2), (HQ12.out.1.st (by omega) (by omega) (by have := HGB.out; omega) _ _).st (by omega) (by omega) (by have := HGB.out; omega) _ _, (HQ12.out.2.1.far (by dsimp only; omega) _).far (by dsimp only; omega) _, (HQ12.out.2.2.1.far (by dsimp only; omega) _).far (by dsimp only; omega) _, (HQ12.out.2.2.2.st 0 _).st 1 _⟩
                      go_wp2_with fail
                      go_roundw
                      case rel => exact ⟨i + 1, _, _, _, _, _, rfl, by go_num, by omega, HFF.out.1, HFF.out.2.1, HFF.out.2.2.1, HFF.out.2.2.2.1, HFF.out.2.2.2.2⟩
                      case measure => simp [intOf]; omega
            · go_simp
              try go_wp2_with fail
              refine hK.out _ _ ?_ (fun hH3 => ?_)
              · (try dsimp only); exact KS.out _ (HQ5.out.2.2.2.bel (by repeat (first | exact Bel.rf | with_reducible refine Bel.drwN ?_ _ | with_reducible refine Bel.drw ?_ | with_reducible refine Bel.al ?_ _)))
              clear hK K hH2
              try simp only [Act.put, setIfInBounds_toArray, set_cons_zero, set_cons_succ]
              refine Rb.till_ready (rs := [7]) (by kernel_rfl) (by simp) ?_
              refine Rb.AllT.cons (o := ⟨some 23, .call { callee := Callee.builtin Builtin.append, args := #[.tmp 17, .tmp 22], argTypes := #[22, 22] }, 22, "make.go:186", #[⟨1, .data⟩, ⟨6, .data⟩, ⟨5, .chain⟩], none⟩) rfl (fun K hK => ?_) (Rb.AllT.nil)
              · refine step_app _ rfl (.tmp 17) (.tmp 22) rfl (w.heap.size + 1 + 1 + 1) u i S rfl (own_bel HQ5.out.1.ou (by repeat (first | exact Bel.rf | with_reducible refine Bel.drwN ?_ _ | with_reducible refine Bel.drw ?_ | with_reducible refine Bel.al ?_ _))) ⟨x5.heap.size, 0, none⟩ 1 1 [s] rfl (zi_bk (L := [s]) ((by repeat (first | (refine Bk.nq _ _ _ ?_; simp; done) | with_reducible refine Bk.drwN ?_ _ | with_reducible refine Bk.drw ?_ | with_reducible refine Bk.al ?_ _)) : Bk _ x5.heap.size 3 (zs [s]).toArray) 1 rfl) HI1.out (by have := HQ5.out.1.sz; simp; omega) ?_; intro v7 x7 h7 hg7 ha7; obtain ⟨A7, c7, hv7, _⟩ := own_any h7; subst hv7; have HQ7 : Hid (Wq g (w.heap.size + 1 + 1 + 1) w x7 (.slice A7 (i + 1) c7) v (i + 1) i (S ++ [s]) B ∧ Bk x7 w.heap.size 28 #[.int .i64 k, .int .i64 b, .int .i64 q, .int .i64 (m : Int), .int .i64 (n : Int), .slice A nc cc] ∧ Bk x7 (w.heap.size + 1) 32 #[.slice none 0 0, .slice none 0 0] ∧ Bk x7 (w.heap.size + 1 + 1) 32 #[u, v]) := ⟨(HQ5.out.1.up (by repeat (first | exact Bel.rf | with_reducible refine Bel.drwN ?_ _ | with_reducible refine Bel.drw ?_ | with_reducible refine Bel.al ?_ _))).ax h7 hg7 ha7, bk_grw (HQ5.out.2.1.bel (by repeat (first | exact Bel.rf | with_reducible refine Bel.drwN ?_ _ | with_reducible refine Bel.drw ?_ | with_reducible refine Bel.al ?_ _))) hg7 (fun e => by have := (HQ5.out.1.ou.lt _ e).1; omega), bk_grw (HQ5.out.2.2.1.bel (by repeat (first | exact Bel.rf | with_reducible refine Bel.drwN ?_ _ | with_reducible refine Bel.drw ?_ | with_reducible refine Bel.al ?_ _))) hg7 (fun e => by have := (HQ5.out.1.ou.lt _ e).1; omega), bk_grw (HQ5.out.2.2.2.bel (by repeat (first | exact Bel.rf | with_reducible refine Bel.drwN ?_ _ | with_reducible refine Bel.drw ?_ | with_reducible refine Bel.al ?_ _))) hg7 (fun e => by have := (HQ5.out.1.ou.lt _ e).1; omega)⟩; have HX7 : Hid (Bk x7 (x5.heap.size + 1) 3 #[.int .i64 0]) := bk_grw ((by repeat (first | (refine Bk.nq _ _ _ ?_; simp; done) | with_reducible refine Bk.drwN ?_ _ | with_reducible refine Bk.drw ?_ | with_reducible refine Bk.al ?_ _)) : Bk _ (x5.heap.size + 1) 3 #[.int .i64 0]) hg7 (fun e => by have := (HQ5.out.1.ou.lt _ e).2; omega); clear h7 hg7 ha7
                try go_wp2_with fail
                refine hK.out _ _ ?_ (fun hH4 => ?_)
                · (try dsimp only); exact KS.out _ (HQ7.out.2.2.2.bel (by repeat (first | exact Bel.rf | with_reducible refine Bel.drwN ?_ _ | with_reducible refine Bel.drw ?_ | with_reducible refine Bel.al ?_ _)))
                clear hK K hH3
                try simp only [Act.put, setIfInBounds_toArray, set_cons_zero, set_cons_succ]
                refine Rb.till_take (i := 13) (oi := ⟨some 29, .fieldAddr 32 (.tmp 5) 0, 0, "make.go:186", #[⟨0, .phase⟩, ⟨1, .phase⟩, ⟨2, .phase⟩, ⟨3, .phase⟩, ⟨4, .phase⟩, ⟨5, .phase⟩, ⟨6, .phase⟩, ⟨7, .phase⟩, ⟨8, .phase⟩, ⟨9, .phase⟩, ⟨10, .textOnly Departure.lateStores⟩, ⟨11, .textOnly Departure.lateStores⟩, ⟨12, .textOnly Departure.lateStoresUnsure⟩], none⟩) (v := ?_) rfl (by kernel_rfl) (by kernel_rfl) (by kernel_rfl) (fun _ _ _ h => h) (by decide) opW rfl (by kernel_rfl) (by kernel_rfl) (Or.inl ⟨by kernel_rfl, ?_⟩) (by assumption) ?_
                rotate_left
                · (intro w hSw; (try dsimp only at hSw); obtain ⟨d1, d2⟩ := hSw; go_simp; try with_reducible rfl)
                try simp only [Act.put, setIfInBounds_toArray, set_cons_zero, set_cons_succ]
                refine Rb.till_ready (rs := [12]) (by kernel_rfl) (by simp) ?_
                refine Rb.AllT.cons (o := ⟨some 28, .call { callee := Callee.builtin Builtin.append, args := #[.tmp 25, .tmp 27], argTypes := #[22, 22] }, 22, "make.go:186", #[⟨9, .data⟩, ⟨11, .data⟩, ⟨7, .chain⟩], none⟩) rfl (fun K hK => ?_) (Rb.AllT.nil)
                · refine step_app _ rfl (.tmp 25) (.tmp 27) rfl (w.heap.size + 1 + 1 + 1) v i B rfl (own_bel HQ7.out.1.ov (by repeat (first | exact Bel.rf | with_reducible refine Bel.drwN ?_ _ | with_reducible refine Bel.drw ?_ | with_reducible refine Bel.al ?_ _))) ⟨x5.heap.size + 1, 0, none⟩ 1 1 [0] rfl (zi_bk (L := [0]) (HX7.out.bel (by repeat (first | exact Bel.rf | with_reducible refine Bel.drwN ?_ _ | with_reducible refine Bel.drw ?_ | with_reducible refine Bel.al ?_ _))) 1 rfl) HI1.out (by have := HQ7.out.1.sz; simp; omega) ?_; intro v12 x12 h12 hg12 ha12; obtain ⟨A12, c12, hv12, _⟩ := own_any h12; subst hv12; have HQ12 : Hid (Wq g (w.heap.size + 1 + 1 + 1) w x12 (.slice A7 (i + 1) c7) (.slice A12 (i + 1) c12) (i + 1) (i + 1) (S ++ [s]) (B ++ [0]) ∧ Bk x12 w.heap.size 28 #[.int .i64 k, .int .i64 b, .int .i64 q, .int .i64 (m : Int), .int .i64 (n : Int), .slice A nc cc] ∧ Bk x12 (w.heap.size + 1) 32 #[.slice none 0 0, .slice none 0 0] ∧ Bk x12 (w.heap.size + 1 + 1) 32 #[u, v]) := ⟨((HQ7.out.1.up (by repeat (first | exact Bel.rf | with_reducible refine Bel.drwN ?_ _ | with_reducible refine Bel.drw ?_ | with_reducible refine Bel.al ?_ _))).sx.ax h12 hg12 ha12).sx, bk_grw (HQ7.out.2.1.bel (by repeat (first | exact Bel.rf | with_reducible refine Bel.drwN ?_ _ | with_reducible refine Bel.drw ?_ | with_reducible refine Bel.al ?_ _))) hg12 (fun e => by have := (HQ7.out.1.ov.lt _ e).1; omega), bk_grw (HQ7.out.2.2.1.bel (by repeat (first | exact Bel.rf | with_reducible refine Bel.drwN ?_ _ | with_reducible refine Bel.drw ?_ | with_reducible refine Bel.al ?_ _))) hg12 (fun e => by have := (HQ7.out.1.ov.lt _ e).1; omega), bk_grw (HQ7.out.2.2.2.bel (by repeat (first | exact Bel.rf | with_reducible refine Bel.drwN ?_ _ | with_reducible refine Bel.drw ?_ | with_reducible refine Bel.al ?_ _))) hg12 (fun e => by have := (HQ7.out.1.ov.lt _ e).1; omega)⟩; have y0 := HQ12.out.2.2.2.cell 0; have y1 := HQ12.out.2.2.2.cell 1; have z0 := HQ12.out.2.2.2.fr 0; have z1 := HQ12.out.2.2.2.fr 1; simp only [List.getElem?_toArray, List.getElem?_cons_zero, List.getElem?_cons_succ] at y0 y1; clear h12 hg12 ha12
                  try go_wp2_with fail
                  refine hK.out _ _ ?_ (fun hH5 => ?_)
                  · (try dsimp only); exact KS.out _ (HQ12.out.2.2.2.bel (by repeat (first | exact Bel.rf | with_reducible refine Bel.drwN ?_ _ | with_reducible refine Bel.drw ?_ | with_reducible refine Bel.al ?_ _)))
                  clear hK K hH4
                  try simp only [Act.put, setIfInBounds_toArray, set_cons_zero, set_cons_succ]
                  refine Rb.till_ready (rs := [14]) (by kernel_rfl) (by simp) ?_
                  refine Rb.AllT.past (o := ⟨none, .store 22 (.tmp 29) (.tmp 23), 0, "make.go:186", #[⟨13, .data⟩, ⟨7, .data⟩, ⟨12, .chain⟩, ⟨0, .phase⟩, ⟨1, .phase⟩, ⟨2, .phase⟩, ⟨3, .phase⟩, ⟨4, .phase⟩, ⟨5, .phase⟩, ⟨6, .phase⟩, ⟨7, .phase⟩, ⟨8, .phase⟩, ⟨9, .phase⟩, ⟨10, .textOnly Departure.lateStores⟩, ⟨11, .textOnly Departure.lateStores⟩, ⟨12, .textOnly Departure.lateStoresUnsure⟩], none⟩) rfl (by kernel_rfl) (fun K hK => ?_) (Rb.AllT.nil)
                  · go_simp
                    try go_wp2_with fail
                    refine hK.out _ _ trivial (fun hH6 => ?_)
                    clear hK K hH5
                    try simp only [Act.put, setIfInBounds_toArray, set_cons_zero, set_cons_succ]
                    refine Rb.till_free (i := 15) (oi := ⟨some 30, .fieldAddr 32 (.tmp 5) 1, 0, "make.go:186", #[⟨0, .phase⟩, ⟨1, .phase⟩, ⟨2, .phase⟩, ⟨3, .phase⟩, ⟨4, .phase⟩, ⟨5, .phase⟩, ⟨6, .phase⟩, ⟨7, .phase⟩, ⟨8, .phase⟩, ⟨9, .phase⟩, ⟨10, .phase⟩, ⟨11, .phase⟩, ⟨12, .phase⟩, ⟨13, .phase⟩, ⟨14, .phase⟩], none⟩) (v := ?_) rfl (by kernel_rfl) (by kernel_rfl) (by kernel_rfl) (fun _ _ _ h => h) (by decide) (Or.inl ⟨by kernel_rfl, ?_⟩) (fun h => absurd h (by decide)) ?_
                    rotate_left
                    · (intro w hSw; clear hSw; go_simp; try with_reducible rfl)
                    try simp only [Act.put, setIfInBounds_toArray, set_cons_zero, set_cons_succ]
                    refine Rb.till_ready (rs := [16]) (by kernel_rfl) (by simp) ?_
                    refine Rb.AllT.past (o := ⟨none, .store 22 (.tmp 30) (.tmp 28), 0, "make.go:186", #[⟨15, .data⟩, ⟨12, .data⟩, ⟨14, .chain⟩, ⟨0, .phase⟩, ⟨1, .phase⟩, ⟨2, .phase⟩, ⟨3, .phase⟩, ⟨4, .phase⟩, ⟨5, .phase⟩, ⟨6, .phase⟩, ⟨7, .phase⟩, ⟨8, .phase⟩, ⟨9, .phase⟩, ⟨10, .phase⟩, ⟨11, .phase⟩, ⟨12, .phase⟩, ⟨13, .phase⟩, ⟨14, .phase⟩], none⟩) rfl (by kernel_rfl) (fun K hK => ?_) (Rb.AllT.nil)
                    · go_simp
                      try go_wp2_with fail
                      refine hK.out _ _ trivial (fun hH7 => ?_)
                      clear hK K hH6
                      try simp only [Act.put, setIfInBounds_toArray, set_cons_zero, set_cons_succ]
                      refine Rb.till_done (by kernel_rfl) ?_ _
                      refine NoPanic.normal ?_
                      have HFF : Hid (Gd (i + 1) (S ++ [s]) (B ++ [0]) ∧ Wq g (w.heap.size + 1 + 1 + 1) w ((x12.setCell ⟨w.heap.size + 1 + 1, 0, none⟩ (.slice A7 (i + 1) c7)).setCell ⟨w.heap.size + 1 + 1, 1, none⟩ (.slice A12 (i + 1) c12)) (.slice A7 (i + 1) c7) (.slice A12 (i + 1) c12) (i + 1) (i + 1) (S ++ [s]) (B ++ [0]) ∧ Bk ((x12.setCell ⟨w.heap.size + 1 + 1, 0, none⟩ (.slice A7 (i + 1) c7)).setCell ⟨w.heap.size + 1 + 1, 1, none⟩ (.slice A12 (i + 1) c12)) w.heap.size 28 #[.int .i64 k, .int .i64 b, .int .i64 q, .int .i64 (m : Int), .int .i64 (n : Int), .slice A nc cc] ∧ Bk ((x12.setCell ⟨w.heap.size + 1 + 1, 0, none⟩ (.slice A7 (i + 1) c7)).setCell ⟨w.heap.size + 1 + 1, 1, none⟩ (.slice A12 (i + 1) c12)) (w.heap.size + 1) 32 #[.slice none 0 0, .slice none 0 0] ∧ Bk ((x12.setCell ⟨w.heap.size + 1 + 1, 0, none⟩ (.slice A7 (i + 1) c7)).setCell ⟨w.heap.size + 1 + 1, 1, none⟩ (.slice A12 (i + 1) c12)) (w.heap.size + 1 + 1) 32 #[.slice A7 (i + 1) c7, .slice A12 (i + 1) c12]) := ⟨gd_snoc HGD.out (by decide) (by decide) HS5.out.1 (show s < 2 ^ (0 : Int).toNat from HS5.out.2), (HQ12.out.1.st (by omega) (by omega) (by have := HGB.out; omega) _ _).st (by omega) (by omega) (by have := HGB.out; omega) _ _, (HQ12.out.2.1.far (by dsimp only; omega) _).far (by dsimp only; omega) _, (HQ12.out.2.2.1.far (by dsimp only; omega) _).far (by dsimp only; omega) _, (HQ12.out.2.2.2.st 0 _).st 1 _⟩
                      go_wp2_with fail
                      go_roundw
                      case rel => exact ⟨i + 1, _, _, _, _, _, rfl, by go_num, by omega, HFF.out.1, HFF.out.2.1, HFF.out.2.2.1, HFF.out.2.2.2.1, HFF.out.2.2.2.2⟩
                      case measure => simp [intOf]; omega
          · go_simp
            try go_wp2_with fail
            refine hK.out _ _ ?_ (fun hH2 => ?_)
            · (try dsimp only); exact KS.out _ (HQ5.out.2.2.2.bel (by repeat (first | exact Bel.rf | with_reducible refine Bel.drwN ?_ _ | with_reducible refine Bel.drw ?_ | with_reducible refine Bel.al ?_ _)))
            clear hK K hH1
            try simp only [Act.put, setIfInBounds_toArray, set_cons_zero, set_cons_succ]
            refine Rb.till_ready (rs := [6]) (by kernel_rfl) (by simp) ?_
            refine Rb.AllT.cons (o := ⟨some 22, .buildSlice 22 1 #[(0, .tmp 21)], 22, "make.go:186", #[⟨5, .data⟩], none⟩) rfl (fun K hK => ?_) (Rb.AllT.nil)
            · go_simp
              try go_wp2_with fail
              refine hK.out _ _ ?_ (fun hH3 => ?_)
              · (try dsimp only); exact KS.out _ (HQ5.out.2.2.2.bel (by repeat (first | exact Bel.rf | with_reducible refine Bel.drwN ?_ _ | with_reducible refine Bel.drw ?_ | with_reducible refine Bel.al ?_ _)))
              clear hK K hH2
              try simp only [Act.put, setIfInBounds_toArray, set_cons_zero, set_cons_succ]
              refine Rb.till_ready (rs := [7]) (by kernel_rfl) (by simp) ?_
              refine Rb.AllT.cons (o := ⟨some 23, .call { callee := Callee.builtin Builtin.append, args := #[.tmp 17, .tmp 22], argTypes := #[22, 22] }, 22, "make.go:186", #[⟨1, .data⟩, ⟨6, .data⟩, ⟨5, .chain⟩], none⟩) rfl (fun K hK => ?_) (Rb.AllT.nil)
              · refine step_app _ rfl (.tmp 17) (.tmp 22) rfl (w.heap.size + 1 + 1 + 1) u i S rfl (own_bel HQ5.out.1.ou (by repeat (first | exact Bel.rf | with_reducible refine Bel.drwN ?_ _ | with_reducible refine Bel.drw ?_ | with_reducible refine Bel.al ?_ _))) ⟨x5.heap.size + 1, 0, none⟩ 1 1 [s] rfl (zi_bk (L := [s]) ((by repeat (first | (refine Bk.nq _ _ _ ?_; simp; done) | with_reducible refine Bk.drwN ?_ _ | with_reducible refine Bk.drw ?_ | with_reducible refine Bk.al ?_ _)) : Bk _ (x5.heap.size + 1) 3 (zs [s]).toArray) 1 rfl) HI1.out (by have := HQ5.out.1.sz; simp; omega) ?_; intro v7 x7 h7 hg7 ha7; obtain ⟨A7, c7, hv7, _⟩ := own_any h7; subst hv7; have HQ7 : Hid (Wq g (w.heap.size + 1 + 1 + 1) w x7 (.slice A7 (i + 1) c7) v (i + 1) i (S ++ [s]) B ∧ Bk x7 w.heap.size 28 #[.int .i64 k, .int .i64 b, .int .i64 q, .int .i64 (m : Int), .int .i64 (n : Int), .slice A nc cc] ∧ Bk x7 (w.heap.size + 1) 32 #[.slice none 0 0, .slice none 0 0] ∧ Bk x7 (w.heap.size + 1 + 1) 32 #[u, v]) := ⟨(HQ5.out.1.up (by repeat (first | exact Bel.rf | with_reducible refine Bel.drwN ?_ _ | with_reducible refine Bel.drw ?_ | with_reducible refine Bel.al ?_ _))).ax h7 hg7 ha7, bk_grw (HQ5.out.2.1.bel (by repeat (first | exact Bel.rf | with_reducible refine Bel.drwN ?_ _ | with_reducible refine Bel.drw ?_ | with_reducible refine Bel.al ?_ _))) hg7 (fun e => by have := (HQ5.out.1.ou.lt _ e).1; omega), bk_grw (HQ5.out.2.2.1.bel (by repeat (first | exact Bel.rf | with_reducible refine Bel.drwN ?_ _ | with_reducible refine Bel.drw ?_ | with_reducible refine Bel.al ?_ _))) hg7 (fun e => by have := (HQ5.out.1.ou.lt _ e).1; omega), bk_grw (HQ5.out.2.2.2.bel (by repeat (first | exact Bel.rf | with_reducible refine Bel.drwN ?_ _ | with_reducible refine Bel.drw ?_ | with_reducible refine Bel.al ?_ _))) hg7 (fun e => by have := (HQ5.out.1.ou.lt _ e).1; omega)⟩; have HX7 : Hid (Bk x7 x5.heap.size 3 #[.int .i64 0]) := bk_grw ((by repeat (first | (refine Bk.nq _ _ _ ?_; simp; done) | with_reducible refine Bk.drwN ?_ _ | with_reducible refine Bk.drw ?_ | with_reducible refine Bk.al ?_ _)) : Bk _ x5.heap.size 3 #[.int .i64 0]) hg7 (fun e => by have := (HQ5.out.1.ou.lt _ e).2; omega); clear h7 hg7 ha7
                try go_wp2_with fail
                refine hK.out _ _ ?_ (fun hH4 => ?_)
                · (try dsimp only); exact KS.out _ (HQ7.out.2.2.2.bel (by repeat (first | exact Bel.rf | with_reducible refine Bel.drwN ?_ _ | with_reducible refine Bel.drw ?_ | with_reducible refine Bel.al ?_ _)))
                clear hK K hH3
                try simp only [Act.put, setIfInBounds_toArray, set_cons_zero, set_cons_succ]
                refine Rb.till_take (i := 13) (oi := ⟨some 29, .fieldAddr 32 (.tmp 5) 0, 0, "make.go:186", #[⟨0, .phase⟩, ⟨1, .phase⟩, ⟨2, .phase⟩, ⟨3, .phase⟩, ⟨4, .phase⟩, ⟨5, .phase⟩, ⟨6, .phase⟩, ⟨7, .phase⟩, ⟨8, .phase⟩, ⟨9, .phase⟩, ⟨10, .textOnly Departure.lateStores⟩, ⟨11, .textOnly Departure.lateStores⟩, ⟨12, .textOnly Departure.lateStoresUnsure⟩], none⟩) (v := ?_) rfl (by kernel_rfl) (by kernel_rfl) (by kernel_rfl) (fun _ _ _ h => h) (by decide) opW rfl (by kernel_rfl) (by kernel_rfl) (Or.inl ⟨by kernel_rfl, ?_⟩) (by assumption) ?_
                rotate_left
                · (intro w hSw; (try dsimp only at hSw); obtain ⟨d1, d2⟩ := hSw; go_simp; try with_reducible rfl)
                try simp only [Act.put, setIfInBounds_toArray, set_cons_zero, set_cons_succ]
                refine Rb.till_ready (rs := [12]) (by kernel_rfl) (by simp) ?_
                refine Rb.AllT.cons (o := ⟨some 28, .call { callee := Callee.builtin Builtin.append, args := #[.tmp 25, .tmp 27], argTypes := #[22, 22] }, 22, "make.go:186", #[⟨9, .data⟩, ⟨11, .data⟩, ⟨7, .chain⟩], none⟩) rfl (fun K hK => ?_) (Rb.AllT.nil)
                · refine step_app _ rfl (.tmp 25) (.tmp 27) rfl (w.heap.size + 1 + 1 + 1) v i B rfl (own_bel HQ7.out.1.ov (by repeat (first | exact Bel.rf | with_reducible refine Bel.drwN ?_ _ | with_reducible refine Bel.drw ?_ | with_reducible refine Bel.al ?_ _))) ⟨x5.heap.size, 0, none⟩ 1 1 [0] rfl (zi_bk (L := [0]) (HX7.out.bel (by repeat (first | exact Bel.rf | with_reducible refine Bel.drwN ?_ _ | with_reducible refine Bel.drw ?_ | with_reducible refine Bel.al ?_ _))) 1 rfl) HI1.out (by have := HQ7.out.1.sz; simp; omega) ?_; intro v12 x12 h12 hg12 ha12; obtain ⟨A12, c12, hv12, _⟩ := own_any h12; subst hv12; have HQ12 : Hid (Wq g (w.heap.size + 1 + 1 + 1) w x12 (.slice A7 (i + 1) c7) (.slice A12 (i + 1) c12) (i + 1) (i + 1) (S ++ [s]) (B ++ [0]) ∧ Bk x12 w.heap.size 28 #[.int .i64 k, .int .i64 b, .int .i64 q, .int .i64 (m : Int), .int .i64 (n : Int), .slice A nc cc] ∧ Bk x12 (w.heap.size + 1) 32 #[.slice none 0 0, .slice none 0 0] ∧ Bk x12 (w.heap.size + 1 + 1) 32 #[u, v]) := ⟨((HQ7.out.1.up (by repeat (first | exact Bel.rf | with_reducible refine Bel.drwN ?_ _ | with_reducible refine Bel.drw ?_ | with_reducible refine Bel.al ?_ _))).sx.ax h12 hg12 ha12).sx, bk_grw (HQ7.out.2.1.bel (by repeat (first | exact Bel.rf | with_reducible refine Bel.drwN ?_ _ | with_reducible refine Bel.drw ?_ | with_reducible refine Bel.al ?_ _))) hg12 (fun e => by have := (HQ7.out.1.ov.lt _ e).1; omega), bk_grw (HQ7.out.2.2.1.bel (by repeat (first | exact Bel.rf | with_reducible refine Bel.drwN ?_ _ | with_reducible refine Bel.drw ?_ | with_reducible refine Bel.al ?_ _))) hg12 (fun e => by have := (HQ7.out.1.ov.lt _ e).1; omega), bk_grw (HQ7.out.2.2.2.bel (by repeat (first | exact Bel.rf | with_reducible refine Bel.drwN ?_ _ | with_reducible refine Bel.drw ?_ | with_reducible refine Bel.al ?_ _))) hg12 (fun e => by have := (HQ7.out.1.ov.lt _ e).1; omega)⟩; have y0 := HQ12.out.2.2.2.cell 0; have y1 := HQ12.out.2.2.2.cell 1; have z0 := HQ12.out.2.2.2.fr 0; have z1 := HQ12.out.2.2.2.fr 1; simp only [List.getElem?_toArray, List.getElem?_cons_zero, List.getElem?_cons_succ] at y0 y1; clear h12 hg12 ha12
                  try go_wp2_with fail
                  refine hK.out _ _ ?_ (fun hH5 => ?_)
                  · (try dsimp only); exact KS.out _ (HQ12.out.2.2.2.bel (by repeat (first | exact Bel.rf | with_reducible refine Bel.drwN ?_ _ | with_reducible refine Bel.drw ?_ | with_reducible refine Bel.al ?_ _)))
                  clear hK K hH4
                  try simp only [Act.put, setIfInBounds_toArray, set_cons_zero, set_cons_succ]
                  refine Rb.till_ready (rs := [14]) (by kernel_rfl) (by simp) ?_
                  refine Rb.AllT.past (o := ⟨none, .store 22 (.tmp 29) (.tmp 23), 0, "make.go:186", #[⟨13, .data⟩, ⟨7, .data⟩, ⟨12, .chain⟩, ⟨0, .phase⟩, ⟨1, .phase⟩, ⟨2, .phase⟩, ⟨3, .phase⟩, ⟨4, .phase⟩, ⟨5, .phase⟩, ⟨6, .phase⟩, ⟨7, .phase⟩, ⟨8, .phase⟩, ⟨9, .phase⟩, ⟨10, .textOnly Departure.lateStores⟩, ⟨11, .textOnly Departure.lateStores⟩, ⟨12, .textOnly Departure.lateStoresUnsure⟩], none⟩) rfl (by kernel_rfl) (fun K hK => ?_) (Rb.AllT.nil)
                  · go_simp
                    try go_wp2_with fail
                    refine hK.out _ _ trivial (fun hH6 => ?_)
                    clear hK K hH5
                    try simp only [Act.put, setIfInBounds_toArray, set_cons_zero, set_cons_succ]
                    refine Rb.till_free (i := 15) (oi := ⟨some 30, .fieldAddr 32 (.tmp 5) 1, 0, "make.go:186", #[⟨0, .phase⟩, ⟨1, .phase⟩, ⟨2, .phase⟩, ⟨3, .phase⟩, ⟨4, .phase⟩, ⟨5, .phase⟩, ⟨6, .phase⟩, ⟨7, .phase⟩, ⟨8, .phase⟩, ⟨9, .phase⟩, ⟨10, .phase⟩, ⟨11, .phase⟩, ⟨12, .phase⟩, ⟨13, .phase⟩, ⟨14, .phase⟩], none⟩) (v := ?_) rfl (by kernel_rfl) (by kernel_rfl) (by kernel_rfl) (fun _ _ _ h => h) (by decide) (Or.inl ⟨by kernel_rfl, ?_⟩) (fun h => absurd h (by decide)) ?_
                    rotate_left
                    · (intro w hSw; clear hSw; go_simp; try with_reducible rfl)
                    try simp only [Act.put, setIfInBounds_toArray, set_cons_zero, set_cons_succ]
                    refine Rb.till_ready (rs := [16]) (by kernel_rfl) (by simp) ?_
                    refine Rb.AllT.past (o := ⟨none, .store 22 (.tmp 30) (.tmp 28), 0, "make.go:186", #[⟨15, .data⟩, ⟨12, .data⟩, ⟨14, .chain⟩, ⟨0, .phase⟩, ⟨1, .phase⟩, ⟨2, .phase⟩, ⟨3, .phase⟩, ⟨4, .phase⟩, ⟨5, .phase⟩, ⟨6, .phase⟩, ⟨7, .phase⟩, ⟨8, .phase⟩, ⟨9, .phase⟩, ⟨10, .phase⟩, ⟨11, .phase⟩, ⟨12, .phase⟩, ⟨13, .phase⟩, ⟨14, .phase⟩], none⟩) rfl (by kernel_rfl) (fun K hK => ?_) (Rb.AllT.nil)
                    · go_simp
                      try go_wp2_with fail
                      refine hK.out _ _ trivial (fun hH7 => ?_)
                      clear hK K hH6
                      try simp only [Act.put, setIfInBounds_toArray, set_cons_zero, set_cons_succ]
                      refine Rb.till_done (by kernel_rfl) ?_ _
                      refine NoPanic.normal ?_
                      have HFF : Hid (Gd (i + 1) (S ++ [s]) (B ++ [0]) ∧ Wq g (w.heap.size + 1 + 1 + 1) w ((x12.setCell ⟨w.heap.size + 1 + 1, 0, none⟩ (.slice A7 (i + 1) c7)).setCell ⟨w.heap.size + 1 + 1, 1, none⟩ (.slice A12 (i + 1) c12)) (.slice A7 (i + 1) c7) (.slice A12 (i + 1) c12) (i + 1) (i + 1) (S ++ [s]) (B ++ [0]) ∧ Bk ((x12.setCell ⟨w.heap.size + 1 + 1, 0, none⟩ (.slice A7 (i + 1) c7)).setCell ⟨w.heap.size + 1 + 1, 1, none⟩ (.slice A12 (i + 1) c12)) w.heap.size 28 #[.int .i64 k, .int .i64 b, .int .i64 q, .int .i64 (m : Int), .int .i64 (n : Int), .slice A nc cc] ∧ Bk ((x12.setCell ⟨w.heap.size + 1 + 1, 0, none⟩ (.slice A7 (i + 1) c7)).setCell ⟨w.heap.size + 1 + 1, 1, none⟩ (.slice A12 (i + 1) c12)) (w.heap.size + 1) 32 #[.slice none 0 0, .slice none 0 0] ∧ Bk ((x12.setCell ⟨w.heap.size + 1 + 1, 0, none⟩ (.slice A7 (i + 1) c7)).setCell ⟨w.heap.size + 1 + 1, 1, none⟩ (.slice A12 (i + 1) c12)) (w.heap.size + 1 + 1) 32 #[.slice A7 (i + 1) c7, .slice A12 (i + 1) c12]) := ⟨gd_snoc HGD.out (by decide) (by decide) HS5.out.1 (show s < 2 ^ (0 : Int).toNat from HS5.out.2), (HQ12.out.1.st (by omega) (by omega) (by have := HGB.out; omega) _ _).st (by omega) (by omega) (by have := HGB.out; omega) _ _, (HQ12.out.2.1.far (by dsimp only; omega) _).far (by dsimp only; omega) _, (HQ12.out.2.2.1.far (by dsimp only; omega) _).far (by dsimp only; omega) _, (HQ12.out.2.2.2.st 0 _).st 1 _⟩
                      go_wp2_with fail
                      go_roundw
                      case rel => exact ⟨i + 1, _, _, _, _, _, rfl, by go_num, by omega, HFF.out.1, HFF.out.2.1, HFF.out.2.2.1, HFF.out.2.2.2.1, HFF.out.2.2.2.2⟩
                      case measure => simp [intOf]; omega
        · go_simp
          try go_wp2_with fail
          refine hK.out _ _ ?_ (fun hH1 => ?_)
          · (try dsimp only); exact KS.out _ (HQ6.out.2.2.2.bel (by repeat (first | exact Bel.rf | with_reducible refine Bel.drwN ?_ _ | with_reducible refine Bel.drw ?_ | with_reducible refine Bel.al ?_ _)))
          clear hK K hH0
          try simp only [Act.put, setIfInBounds_toArray, set_cons_zero, set_cons_succ]
          refine Rb.till_ready (rs := [5]) (by kernel_rfl) (by simp) ?_
          refine Rb.AllT.cons (o := ⟨some 21, .call { callee := Callee.value (.func 21), args := #[.tmp 18, .tmp 20], argTypes := #[23, 3] }, 3, "make.go:186", #[⟨2, .data⟩, ⟨4, .data⟩], none⟩) rfl (fun K hK => ?_) (Rb.AllT.nil)
          · go_simp
            go_at_call 21; (try simp only [wv1, wv2]); refine (n_any g 1 (by decide) (by decide) _ (HQ6.out.1.ok.bel (by repeat (first | exact Bel.rf | with_reducible refine Bel.drwN ?_ _ | with_reducible refine Bel.drw ?_ | with_reducible refine Bel.al ?_ _)))).mono ?_; rintro e x5 ⟨s, rfl, s0, s1, ho5, hc5⟩; have hcd : Ch g w6 x5 := (Ch.of_bel (by repeat (first | exact Bel.rf | with_reducible refine Bel.drwN ?_ _ | with_reducible refine Bel.drw ?_ | with_reducible refine Bel.al ?_ _))).tr hc5; have HQ5 : Hid (Wq g (w.heap.size + 1 + 1 + 1) w x5 u v i i S B ∧ Bk x5 w.heap.size 28 #[.int .i64 k, .int .i64 b, .int .i64 q, .int .i64 (m : Int), .int .i64 (n : Int), .slice A nc cc] ∧ Bk x5 (w.heap.size + 1) 32 #[.slice none 0 0, .slice none 0 0] ∧ Bk x5 (w.heap.size + 1 + 1) 32 #[u, v]) := ⟨HQ6.out.1.to ho5 hcd, hcd.bk HQ6.out.2.1 (by have := HGB.out; omega), hcd.bk HQ6.out.2.2.1 (by have := HGB.out; omega), hcd.bk HQ6.out.2.2.2 (by have := HGB.out; omega)⟩; have HS5 := Lib.hid (And.intro s0 s1); have HX5 : Hid (Bk x5 w6.heap.size 3 #[.int .i64 0]) := hc5.bk ((by repeat (first | (refine Bk.nq _ _ _ ?_; simp; done) | with_reducible refine Bk.drwN ?_ _ | with_reducible refine Bk.drw ?_ | with_reducible refine Bk.al ?_ _)) : Bk _ w6.heap.size 3 #[.int .i64 0]) (by have := HQ6.out.1.gb; have := HQ6.out.1.sz; omega); clear ho5 hc5 hcd s0 s1
            try go_wp2_with fail
            refine hK.out _ _ ?_ (fun hH2 => ?_)
            · (try dsimp only); exact KS.out _ (HQ5.out.2.2.2.bel (by repeat (first | exact Bel.rf | with_reducible refine Bel.drwN ?_ _ | with_reducible refine Bel.drw ?_ | with_reducible refine Bel.al ?_ _)))
            clear hK K hH1
            try simp only [Act.put, setIfInBounds_toArray, set_cons_zero, set_cons_succ]
            refine Rb.till_ready (rs := [6]) (by kernel_rfl) (by simp) ?_
            refine Rb.AllT.cons (o := ⟨some 22, .buildSlice 22 1 #[(0, .tmp 21)], 22, "make.go:186", #[⟨5, .data⟩], none⟩) rfl (fun K hK => ?_) (Rb.AllT.nil)
            · go_simp
              try go_wp2_with fail
              refine hK.out _ _ ?_ (fun hH3 => ?_)
              · (try dsimp only); exact KS.out _ (HQ5.out.2.2.2.bel (by repeat (first | exact Bel.rf | with_reducible refine Bel.drwN ?_ _ | with_reducible refine Bel.drw ?_ | with_reducible refine Bel.al ?_ _)))
              clear hK K hH2
              try simp only [Act.put, setIfInBounds_toArray, set_cons_zero, set_cons_succ]
              refine Rb.till_ready (rs := [7]) (by kernel_rfl) (by simp) ?_
              refine Rb.AllT.cons (o := ⟨some 23, .call { callee := Callee.builtin Builtin.append, args := #[.tmp 17, .tmp 22], argTypes := #[22, 22] }, 22, "make.go:186", #[⟨1, .data⟩, ⟨6, .data⟩, ⟨5, .chain⟩], none⟩) rfl (fun K hK => ?_) (Rb.AllT.nil)
              · refine step_app _ rfl (.tmp 17) (.tmp 22) rfl (w.heap.size + 1 + 1 + 1) u i S rfl (own_bel HQ5.out.1.ou (by repeat (first | exact Bel.rf | with_reducible refine Bel.drwN ?_ _ | with_reducible refine Bel.drw ?_ | with_reducible refine Bel.al ?_ _))) ⟨x5.heap.size, 0, none⟩ 1 1 [s] rfl (zi_bk (L := [s]) ((by repeat (first | (refine Bk.nq _ _ _ ?_; simp; done) | with_reducible refine Bk.drwN ?_ _ | with_reducible refine Bk.drw ?_ | with_reducible refine Bk.al ?_ _)) : Bk _ x5.heap.size 3 (zs [s]).toArray) 1 rfl) HI1.out (by have := HQ5.out.1.sz; simp; omega) ?_; intro v7 x7 h7 hg7 ha7; obtain ⟨A7, c7, hv7, _⟩ := own_any h7; subst hv7; have HQ7 : Hid (Wq g (w.heap.size + 1 + 1 + 1) w x7 (.slice A7 (i + 1) c7) v (i + 1) i (S ++ [s]) B ∧ Bk x7 w.heap.size 28 #[.int .i64 k, .int .i64 b, .int .i64 q, .int .i64 (m : Int), .int .i64 (n : Int), .slice A nc cc] ∧ Bk x7 (w.heap.size + 1) 32 #[.slice none 0 0, .slice none 0 0] ∧ Bk x7 (w.heap.size + 1 + 1) 32 #[u, v]) := ⟨(HQ5.out.1.up (by repeat (first | exact Bel.rf | with_reducible refine Bel.drwN ?_ _ | with_reducible refine Bel.drw ?_ | with_reducible refine Bel.al ?_ _))).ax h7 hg7 ha7, bk_grw (HQ5.out.2.1.bel (by repeat (first | exact Bel.rf | with_reducible refine Bel.drwN ?_ _ | with_reducible refine Bel.drw ?_ | with_reducible refine Bel.al ?_ _))) hg7 (fun e => by have := (HQ5.out.1.ou.lt _ e).1; omega), bk_grw (HQ5.out.2.2.1.bel (by repeat (first | exact Bel.rf | with_reducible refine Bel.drwN ?_ _ | with_reducible refine Bel.drw ?_ | with_reducible refine Bel.al ?_ _))) hg7 (fun e => by have := (HQ5.out.1.ou.lt _ e).1; omega), bk_grw (HQ5.out.2.2.2.bel (by repeat (first | exact Bel.rf | with_reducible refine Bel.drwN ?_ _ | with_reducible refine Bel.drw ?_ | with_reducible refine Bel.al ?_ _))) hg7 (fun e => by have := (HQ5.out.1.ou.lt _ e).1; omega)⟩; have HX7 : Hid (Bk x7 w6.heap.size 3 #[.int .i64 0]) := bk_grw (HX5.out.bel (by repeat (first | exact Bel.rf | with_reducible refine Bel.drwN ?_ _ | with_reducible refine Bel.drw ?_ | with_reducible refine Bel.al ?_ _))) hg7 (fun e => by have := HB6.out _ e; omega); clear h7 hg7 ha7
                try go_wp2_with fail
                refine hK.out _ _ ?_ (fun hH4 => ?_)
                · (try dsimp only); exact KS.out _ (HQ7.out.2.2.2.bel (by repeat (first | exact Bel.rf | with_reducible refine Bel.drwN ?_ _ | with_reducible refine Bel.drw ?_ | with_reducible refine Bel.al ?_ _)))
                clear hK K hH3
                try simp only [Act.put, setIfInBounds_toArray, set_cons_zero, set_cons_succ]
                refine Rb.till_take (i := 13) (oi := ⟨some 29, .fieldAddr 32 (.tmp 5) 0, 0, "make.go:186", #[⟨0, .phase⟩, ⟨1, .phase⟩, ⟨2, .phase⟩, ⟨3, .phase⟩, ⟨4, .phase⟩, ⟨5, .phase⟩, ⟨6, .phase⟩, ⟨7, .phase⟩, ⟨8, .phase⟩, ⟨9, .phase⟩, ⟨10, .textOnly Departure.lateStores⟩, ⟨11, .textOnly Departure.lateStores⟩, ⟨12, .textOnly Departure.lateStoresUnsure⟩], none⟩) (v := ?_) rfl (by kernel_rfl) (by kernel_rfl) (by kernel_rfl) (fun _ _ _ h => h) (by decide) opW rfl (by kernel_rfl) (by kernel_rfl) (Or.inl ⟨by kernel_rfl, ?_⟩) (by assumption) ?_
                rotate_left
                · (intro w hSw; (try dsimp only at hSw); obtain ⟨d1, d2⟩ := hSw; go_simp; try with_reducible rfl)
                try simp only [Act.put, setIfInBounds_toArray, set_cons_zero, set_cons_succ]
                refine Rb.till_ready (rs := [12]) (by kernel_rfl) (by simp) ?_
                refine Rb.AllT.cons (o := ⟨some 28, .call { callee := Callee.builtin Builtin.append, args := #[.tmp 25, .tmp 27], argTypes := #[22, 22] }, 22, "make.go:186", #[⟨9, .data⟩, ⟨11, .data⟩, ⟨7, .chain⟩], none⟩) rfl (fun K hK => ?_) (Rb.AllT.nil)
                · refine step_app _ rfl (.tmp 25) (.tmp 27) rfl (w.heap.size + 1 + 1 + 1) v i B rfl (own_bel HQ7.out.1.ov (by repeat (first | exact Bel.rf | with_reducible refine Bel.drwN ?_ _ | with_reducible refine Bel.drw ?_ | with_reducible refine Bel.al ?_ _))) ⟨w6.heap.size, 0, none⟩ 1 1 [0] rfl (zi_bk (L := [0]) (HX7.out.bel (by repeat (first | exact Bel.rf | with_reducible refine Bel.drwN ?_ _ | with_reducible refine Bel.drw ?_ | with_reducible refine Bel.al ?_ _))) 1 rfl) HI1.out (by have := HQ7.out.1.sz; simp; omega) ?_; intro v12 x12 h12 hg12 ha12; obtain ⟨A12, c12, hv12, _⟩ := own_any h12; subst hv12; have HQ12 : Hid (Wq g (w.heap.size + 1 + 1 + 1) w x12 (.slice A7 (i + 1) c7) (.slice A12 (i + 1) c12) (i + 1) (i + 1) (S ++ [s]) (B ++ [0]) ∧ Bk x12 w.heap.size 28 #[.int .i64 k, .int .i64 b, .int .i64 q, .int .i64 (m : Int), .int .i64 (n : Int), .slice A nc cc] ∧ Bk x12 (w.heap.size + 1) 32 #[.slice none 0 0, .slice none 0 0] ∧ Bk x12 (w.heap.size + 1 + 1) 32 #[u, v]) := ⟨((HQ7.out.1.up (by repeat (first | exact Bel.rf | with_reducible refine Bel.drwN ?_ _ | with_reducible refine Bel.drw ?_ | with_reducible refine Bel.al ?_ _))).sx.ax h12 hg12 ha12).sx, bk_grw (HQ7.out.2.1.bel (by repeat (first | exact Bel.rf | with_reducible refine Bel.drwN ?_ _ | with_reducible refine Bel.drw ?_ | with_reducible refine Bel.al ?_ _))) hg12 (fun e => by have := (HQ7.out.1.ov.lt _ e).1; omega), bk_grw (HQ7.out.2.2.1.bel (by repeat (first | exact Bel.rf | with_reducible refine Bel.drwN ?_ _ | with_reducible refine Bel.drw ?_ | with_reducible refine Bel.al ?_ _))) hg12 (fun e => by have := (HQ7.out.1.ov.lt _ e).1; omega), bk_grw (HQ7.out.2.2.2.bel (by repeat (first | exact Bel.rf | with_reducible refine Bel.drwN ?_ _ | with_reducible refine Bel.drw ?_ | with_reducible refine Bel.al ?_ _))) hg12 (fun e => by have := (HQ7.out.1.ov.lt _ e).1; omega)⟩; have y0 := HQ12.out.2.2.2.cell 0; have y1 := HQ12.out.2.2.2.cell 1; have z0 := HQ12.out.2.2.2.fr 0; have z1 := HQ12.out.2.2.2.fr 1; simp only [List.getElem?_toArray, List.getElem?_cons_zero, List.getElem?_cons_succ] at y0 y1; clear h12 hg12 ha12
                  try go_wp2_with fail
                  refine hK.out _ _ ?_ (fun hH5 => ?_)
                  · (try dsimp only); exact KS.out _ (HQ12.out.2.2.2.bel (by repeat (first | exact Bel.rf | with_reducible refine Bel.drwN ?_ _ | with_reducible refine Bel.drw ?_ | with_reducible refine Bel.al ?_ _)))
                  clear hK K hH4
                  try simp only [Act.put, setIfInBounds_toArray, set_cons_zero, set_cons_succ]
                  refine Rb.till_ready (rs := [14]) (by kernel_rfl) (by simp) ?_
                  refine Rb.AllT.past (o := ⟨none, .store 22 (.tmp 29) (.tmp 23), 0, "make.go:186", #[⟨13, .data⟩, ⟨7, .data⟩, ⟨12, .chain⟩, ⟨0, .phase⟩, ⟨1, .phase⟩, ⟨2, .phase⟩, ⟨3, .phase⟩, ⟨4, .phase⟩, ⟨5, .phase⟩, ⟨6, .phase⟩, ⟨7, .phase⟩, ⟨8, .phase⟩, ⟨9, .phase⟩, ⟨10, .textOnly Departure.lateStores⟩, ⟨11, .textOnly Departure.lateStores⟩, ⟨12, .textOnly Departure.lateStoresUnsure⟩], none⟩) rfl (by kernel_rfl) (fun K hK => ?_) (Rb.AllT.nil)
                  · go_simp
                    try go_wp2_with fail
                    refine hK.out _ _ trivial (fun hH6 => ?_)
                    clear hK K hH5
                    try simp only [Act.put, setIfInBounds_toArray, set_cons_zero, set_cons_succ]
                    refine Rb.till_free (i := 15) (oi := ⟨some 30, .fieldAddr 32 (.tmp 5) 1, 0, "make.go:186", #[⟨0, .phase⟩, ⟨1, .phase⟩, ⟨2, .phase⟩, ⟨3, .phase⟩, ⟨4, .phase⟩, ⟨5, .phase⟩, ⟨6, .phase⟩, ⟨7, .phase⟩, ⟨8, .phase⟩, ⟨9, .phase⟩, ⟨10, .phase⟩, ⟨11, .phase⟩, ⟨12, .phase⟩, ⟨13, .phase⟩, ⟨14, .phase⟩], none⟩) (v := ?_) rfl (by kernel_rfl) (by kernel_rfl) (by kernel_rfl) (fun _ _ _ h => h) (by decide) (Or.inl ⟨by kernel_rfl, ?_⟩) (fun h => absurd h (by decide)) ?_
                    rotate_left
                    · (intro w hSw; clear hSw; go_simp; try with_reducible rfl)
                    try simp only [Act.put, setIfInBounds_toArray, set_cons_zero, set_cons_succ]
                    refine Rb.till_ready (rs := [16]) (by kernel_rfl) (by simp) ?_
                    refine Rb.AllT.past (o := ⟨none, .store 22 (.tmp 30) (.tmp 28), 0, "make.go:186", #[⟨15, .data⟩, ⟨12, .data⟩, ⟨14, .chain⟩, ⟨0, .phase⟩, ⟨1, .phase⟩, ⟨2, .phase⟩, ⟨3, .phase⟩, ⟨4, .phase⟩, ⟨5, .phase⟩, ⟨6, .phase⟩, ⟨7, .phase⟩, ⟨8, .phase⟩, ⟨9, .phase⟩, ⟨10, .phase⟩, ⟨11, .phase⟩, ⟨12, .phase⟩, ⟨13, .phase⟩, ⟨14, .phase⟩], none⟩) rfl (by kernel_rfl) (fun K hK => ?_) (Rb.AllT.nil)
                    · go_simp
                      try go_wp2_with fail
                      refine hK.out _ _ trivial (fun hH7 => ?_)
                      clear hK K hH6
                      try simp only [Act.put, setIfInBounds_toArray, set_cons_zero, set_cons_succ]
                      refine Rb.till_done (by kernel_rfl) ?_ _
                      refine NoPanic.normal ?_
                      have HFF : Hid (Gd (i + 1) (S ++ [s]) (B ++ [0]) ∧ Wq g (w.heap.size + 1 + 1 + 1) w ((x12.setCell ⟨w.heap.size + 1 + 1, 0, none⟩ (.slice A7 (i + 1) c7)).setCell ⟨w.heap.size + 1 + 1, 1, none⟩ (.slice A12 (i + 1) c12)) (.slice A7 (i + 1) c7) (.slice A12 (i + 1) c12) (i + 1) (i + 1) (S ++ [s]) (B ++ [0]) ∧ Bk ((x12.setCell ⟨w.heap.size + 1 + 1, 0, none⟩ (.slice A7 (i + 1) c7)).setCell ⟨w.heap.size + 1 + 1, 1, none⟩ (.slice A12 (i + 1) c12)) w.heap.size 28 #[.int .i64 k, .int .i64 b, .int .i64 q, .int .i64 (m : Int), .int .i64 (n : Int), .slice A nc cc] ∧ Bk ((x12.setCell ⟨w.heap.size + 1 + 1, 0, none⟩ (.slice A7 (i + 1) c7)).setCell ⟨w.heap.size + 1 + 1, 1, none⟩ (.slice A12 (i + 1) c12)) (w.heap.size + 1) 32 #[.slice none 0 0, .slice none 0 0] ∧ Bk ((x12.setCell ⟨w.heap.size + 1 + 1, 0, none⟩ (.slice A7 (i + 1) c7)).setCell ⟨w.heap.size + 1 + 1, 1, none⟩ (.slice A12 (i + 1) c12)) (w.heap.size + 1 + 1) 32 #[.slice A7 (i + 1) c7, .slice A12 (i + 1) c12]) := ⟨gd_snoc HGD.out (by decide) (by decide) HS5.out.1 (show s < 2 ^ (0 : Int).toNat from HS5.out.2), (HQ12.out.1.st (by omega) (by omega) (by have := HGB.out; omega) _ _).st (by omega) (by omega) (by have := HGB.out; omega) _ _, (HQ12.out.2.1.far (by dsimp only; omega) _).far (by dsimp only; omega) _, (HQ12.out.2.2.1.far (by dsimp only; omega) _).far (by dsimp only; omega) _, (HQ12.out.2.2.2.st 0 _).st 1 _⟩
                      go_wp2_with fail
                      go_roundw
                      case rel => exact ⟨i + 1, _, _, _, _, _, rfl, by go_num, by omega, HFF.out.1, HFF.out.2.1, HFF.out.2.2.1, HFF.out.2.2.2.1, HFF.out.2.2.2.2⟩
                      case measure => simp [intOf]; omega
      · have wv1 : IntKind.i64.wrap 2 = 2 := by decide
        have wv2 : IntKind.i64.wrap (2 ^ 1) = 2 := by decide
        clear HY
        go_wp2_with fail
        refine wp_region_noPanic ?_
        refine Rb.wp_region_till (S := fun W => W.cell? (⟨w.heap.size + 1 + 1, 0, none⟩ : Addr) = some u ∧ W.cell? (⟨w.heap.size + 1 + 1, 1, none⟩ : Addr) = some v) 14 (by kernel_rfl) ?_ (fun hH0 => ?_)
        · (try dsimp only); exact KS.out _ (HQ6.out.2.2.2.bel (by repeat (first | exact Bel.rf | with_reducible refine Bel.drwN ?_ _ | with_reducible refine Bel.drw ?_ | with_reducible refine Bel.al ?_ _)))
        refine Rb.till_take (i := 0) (oi := ⟨some 16, .fieldAddr 32 (.tmp 5) 0, 0, "make.go:186", #[], none⟩) (v := ?_) rfl (by kernel_rfl) (by kernel_rfl) (by kernel_rfl) (fun _ _ _ h => h) (by decide) opW rfl (by kernel_rfl) (by kernel_rfl) (Or.inl ⟨by kernel_rfl, ?_⟩) (by assumption) ?_
        rotate_left
        · (intro w hSw; (try dsimp only at hSw); obtain ⟨d1, d2⟩ := hSw; go_simp; try with_reducible rfl)
        try simp only [Act.put, setIfInBounds_toArray, set_cons_zero, set_cons_succ]
        refine Rb.till_take (i := 1) (oi := ⟨some 17, .load 22 (.tmp 16), 22, "make.go:186", #[⟨0, .data⟩], none⟩) (v := ?_) rfl (by kernel_rfl) (by kernel_rfl) (by kernel_rfl) (fun _ _ _ h => h) (by decide) opW rfl (by kernel_rfl) (by kernel_rfl) (Or.inl ⟨by kernel_rfl, ?_⟩) (by assumption) ?_
        rotate_left
        · (intro w hSw; (try dsimp only at hSw); obtain ⟨d1, d2⟩ := hSw; go_simp; try with_reducible rfl)
        try simp only [Act.put, setIfInBounds_toArray, set_cons_zero, set_cons_succ]
        refine Rb.till_take (i := 2) (oi := ⟨some 18, .move (.tmp 0), 23, "make.go:186", #[], none⟩) (v := ?_) rfl (by kernel_rfl) (by kernel_rfl) (by kernel_rfl) (fun _ _ _ h => h) (by decide) opW rfl (by kernel_rfl) (by kernel_rfl) (Or.inl ⟨by kernel_rfl, ?_⟩) (by assumption) ?_
        rotate_left
        · (intro w hSw; (try dsimp only at hSw); obtain ⟨d1, d2⟩ := hSw; go_simp; try with_reducible rfl)
        try simp only [Act.put, setIfInBounds_toArray, set_cons_zero, set_cons_succ]
        refine Rb.till_take (i := 3) (oi := ⟨some 19, .move (.tmp 7), 3, "make.go:186", #[], none⟩) (v := ?_) rfl (by kernel_rfl) (by kernel_rfl) (by kernel_rfl) (fun _ _ _ h => h) (by decide) opW rfl (by kernel_rfl) (by kernel_rfl) (Or.inl ⟨by kernel_rfl, ?_⟩) (by assumption) ?_
        rotate_left
        · (intro w hSw; (try dsimp only at hSw); obtain ⟨d1, d2⟩ := hSw; go_simp; try with_reducible rfl)
        try simp only [Act.put, setIfInBounds_toArray, set_cons_zero, set_cons_succ]
        refine Rb.till_take (i := 4) (oi := ⟨some 20, .binOp BinOp.shl 3 (.const (.int IntKind.i64 1)) (.tmp 19) 3, 3, "make.go:186", #[⟨3, .data⟩], none⟩) (v := ?_) rfl (by kernel_rfl) (by kernel_rfl) (by kernel_rfl) (fun _ _ _ h => h) (by decide) opW rfl (by kernel_rfl) (by kernel_rfl) (Or.inl ⟨by kernel_rfl, ?_⟩) (by assumption) ?_
        rotate_left
        · (intro w hSw; (try dsimp only at hSw); obtain ⟨d1, d2⟩ := hSw; go_simp; try with_reducible rfl)
        try simp only [Act.put, setIfInBounds_toArray, set_cons_zero, set_cons_succ]
        refine Rb.till_take (i := 8) (oi := ⟨some 24, .fieldAddr 32 (.tmp 5) 1, 0, "make.go:186", #[], none⟩) (v := ?_) rfl (by kernel_rfl) (by kernel_rfl) (by kernel_rfl) (fun _ _ _ h => h) (by decide) opW rfl (by kernel_rfl) (by kernel_rfl) (Or.inl ⟨by kernel_rfl, ?_⟩) (by assumption) ?_
        rotate_left
        · (intro w hSw; (try dsimp only at hSw); obtain ⟨d1, d2⟩ := hSw; go_simp; try with_reducible rfl)
        try simp only [Act.put, setIfInBounds_toArray, set_cons_zero, set_cons_succ]
        refine Rb.till_take (i := 9) (oi := ⟨some 25, .load 22 (.tmp 24), 22, "make.go:186", #[⟨8, .data⟩], none⟩) (v := ?_) rfl (by kernel_rfl) (by kernel_rfl) (by kernel_rfl) (fun _ _ _ h => h) (by decide) opW rfl (by kernel_rfl) (by kernel_rfl) (Or.inl ⟨by kernel_rfl, ?_⟩) (by assumption) ?_
        rotate_left
        · (intro w hSw; (try dsimp only at hSw); obtain ⟨d1, d2⟩ := hSw; go_simp; try with_reducible rfl)
        try simp only [Act.put, setIfInBounds_toArray, set_cons_zero, set_cons_succ]
        refine Rb.till_free (i := 10) (oi := ⟨some 26, .move (.tmp 7), 3, "make.go:186", #[], none⟩) (v := ?_) rfl (by kernel_rfl) (by kernel_rfl) (by kernel_rfl) (fun _ _ _ h => h) (by decide) (Or.inl ⟨by kernel_rfl, ?_⟩) (fun _ => by assumption) ?_
        rotate_left
        · (intro w hSw; clear hSw; go_simp; try with_reducible rfl)
        try simp only [Act.put, setIfInBounds_toArray, set_cons_zero, set_cons_succ]
        refine Rb.till_ready (rs := [5, 11]) (by kernel_rfl) (by simp) ?_
        refine Rb.AllT.cons (o := ⟨some 21, .call { callee := Callee.value (.func 21), args := #[.tmp 18, .tmp 20], argTypes := #[23, 3] }, 3, "make.go:186", #[⟨2, .data⟩, ⟨4, .data⟩], none⟩) rfl (fun K hK => ?_) (Rb.AllT.cons (o := ⟨some 27, .buildSlice 22 1 #[(0, .tmp 26)], 22, "make.go:186", #[⟨10, .data⟩], none⟩) rfl (fun K hK => ?_) (Rb.AllT.nil))
        · go_simp
          go_at_call 21; (try simp only [wv1, wv2]); refine (n_any g 2 (by decide) (by decide) _ (HQ6.out.1.ok.bel (by repeat (first | exact Bel.rf | with_reducible refine Bel.drwN ?_ _ | with_reducible refine Bel.drw ?_ | with_reducible refine Bel.al ?_ _)))).mono ?_; rintro e x5 ⟨s, rfl, s0, s1, ho5, hc5⟩; have hcd : Ch g w6 x5 := (Ch.of_bel (by repeat (first | exact Bel.rf | with_reducible refine Bel.drwN ?_ _ | with_reducible refine Bel.drw ?_ | with_reducible refine Bel.al ?_ _))).tr hc5; have HQ5 : Hid (Wq g (w.heap.size + 1 + 1 + 1) w x5 u v i i S B ∧ Bk x5 w.heap.size 28 #[.int .i64 k, .int .i64 b, .int .i64 q, .int .i64 (m : Int), .int .i64 (n : Int), .slice A nc cc] ∧ Bk x5 (w.heap.size + 1) 32 #[.slice none 0 0, .slice none 0 0] ∧ Bk x5 (w.heap.size + 1 + 1) 32 #[u, v]) := ⟨HQ6.out.1.to ho5 hcd, hcd.bk HQ6.out.2.1 (by have := HGB.out; omega), hcd.bk HQ6.out.2.2.1 (by have := HGB.out; omega), hcd.bk HQ6.out.2.2.2 (by have := HGB.out; omega)⟩; have HS5 := Lib.hid (And.intro s0 s1); clear ho5 hc5 hcd s0 s1
          try go_wp2_with fail
          refine hK.out _ _ ?_ (fun hH1 => ?_)
          · (try dsimp only); exact KS.out _ (HQ5.out.2.2.2.bel (by repeat (first | exact Bel.rf | with_reducible refine Bel.drwN ?_ _ | with_reducible refine Bel.drw ?_ | with_reducible refine Bel.al ?_ _)))
          clear hK K hH0
          try simp only [Act.put, setIfInBounds_toArray, set_cons_zero, set_cons_succ]
          refine Rb.till_ready (rs := [6, 11]) (by kernel_rfl) (by simp) ?_
          refine Rb.AllT.cons (o := ⟨some 22, .buildSlice 22 1 #[(0, .tmp 21)], 22, "make.go:186", #[⟨5, .data⟩], none⟩) rfl (fun K hK => ?_) (Rb.AllT.cons (o := ⟨some 27, .buildSlice 22 1 #[(0, .tmp 26)], 22, "make.go:186", #[⟨10, .data⟩], none⟩) rfl (fun K hK => ?_) (Rb.AllT.nil))
          · go_simp
            try go_wp2_with fail
            refine hK.out _ _ ?_ (fun hH2 => ?_)
            · (try dsimp only); exact KS.out _ (HQ5.out.2.2.2.bel (by repeat (first | exact Bel.rf | with_reducible refine Bel.drwN ?_ _ | with_reducible refine Bel.drw ?_ | with_reducible refine Bel.al ?_ _)))
            clear hK K hH1
            try simp only [Act.put, setIfInBounds_toArray, set_cons_zero, set_cons_succ]
            refine Rb.till_ready (rs := [7, 11]) (by kernel_rfl) (by simp) ?_
            refine Rb.AllT.cons (o := ⟨some 23, .call { callee := Callee.builtin Builtin.append, args := #[.tmp 17, .tmp 22], argTypes := #[22, 22] }, 22, "make.go:186", #[⟨1, .data⟩, ⟨6, .data⟩, ⟨5, .chain⟩], none⟩) rfl (fun K hK => ?_) (Rb.AllT.cons (o := ⟨some 27, .buildSlice 22 1 #[(0, .tmp 26)], 22, "make.go:186", #[⟨10, .data⟩], none⟩) rfl (fun K hK => ?_) (Rb.AllT.nil))
            · refine step_app _ rfl (.tmp 17) (.tmp 22) rfl (w.heap.size + 1 + 1 + 1) u i S rfl (own_bel HQ5.out.1.ou (by repeat (first | exact Bel.rf | with_reducible refine Bel.drwN ?_ _ | with_reducible refine Bel.drw ?_ | with_reducible refine Bel.al ?_ _))) ⟨x5.heap.size, 0, none⟩ 1 1 [s] rfl (zi_bk (L := [s]) ((by repeat (first | (refine Bk.nq _ _ _ ?_; simp; done) | with_reducible refine Bk.drwN ?_ _ | with_reducible refine Bk.drw ?_ | with_reducible refine Bk.al ?_ _)) : Bk _ x5.heap.size 3 (zs [s]).toArray) 1 rfl) HI1.out (by have := HQ5.out.1.sz; simp; omega) ?_; intro v7 x7 h7 hg7 ha7; obtain ⟨A7, c7, hv7, _⟩ := own_any h7; subst hv7; have HQ7 : Hid (Wq g (w.heap.size + 1 + 1 + 1) w x7 (.slice A7 (i + 1) c7) v (i + 1) i (S ++ [s]) B ∧ Bk x7 w.heap.size 28 #[.int .i64 k, .int .i64 b, .int .i64 q, .int .i64 (m : Int), .int .i64 (n : Int), .slice A nc cc] ∧ Bk x7 (w.heap.size + 1) 32 #[.slice none 0 0, .slice none 0 0] ∧ Bk x7 (w.heap.size + 1 + 1) 32 #[u, v]) := ⟨(HQ5.out.1.up (by repeat (first | exact Bel.rf | with_reducible refine Bel.drwN ?_ _ | with_reducible refine Bel.drw ?_ | with_reducible refine Bel.al ?_ _))).ax h7 hg7 ha7, bk_grw (HQ5.out.2.1.bel (by repeat (first | exact Bel.rf | with_reducible refine Bel.drwN ?_ _ | with_reducible refine Bel.drw ?_ | with_reducible refine Bel.al ?_ _))) hg7 (fun e => by have := (HQ5.out.1.ou.lt _ e).1; omega), bk_grw (HQ5.out.2.2.1.bel (by repeat (first | exact Bel.rf | with_reducible refine Bel.drwN ?_ _ | with_reducible refine Bel.drw ?_ | with_reducible refine Bel.al ?_ _))) hg7 (fun e => by have := (HQ5.out.1.ou.lt _ e).1; omega), bk_grw (HQ5.out.2.2.2.bel (by repeat (first | exact Bel.rf | with_reducible refine Bel.drwN ?_ _ | with_reducible refine Bel.drw ?_ | with_reducible refine Bel.al ?_ _))) hg7 (fun e => by have := (HQ5.out.1.ou.lt _ e).1; omega)⟩; clear h7 hg7 ha7
              try go_wp2_with fail
              refine hK.out _ _ ?_ (fun hH3 => ?_)
              · (try dsimp only); exact KS.out _ (HQ7.out.2.2.2.bel (by repeat (first | exact Bel.rf | with_reducible refine Bel.drwN ?_ _ | with_reducible refine Bel.drw ?_ | with_reducible refine Bel.al ?_ _)))
              clear hK K hH2
              try simp only [Act.put, setIfInBounds_toArray, set_cons_zero, set_cons_succ]
              refine Rb.till_take (i := 13) (oi := ⟨some 29, .fieldAddr 32 (.tmp 5) 0, 0, "make.go:186", #[⟨0, .phase⟩, ⟨1, .phase⟩, ⟨2, .phase⟩, ⟨3, .phase⟩, ⟨4, .phase⟩, ⟨5, .phase⟩, ⟨6, .phase⟩, ⟨7, .phase⟩, ⟨8, .phase⟩, ⟨9, .phase⟩, ⟨10, .textOnly Departure.lateStores⟩, ⟨11, .textOnly Departure.lateStores⟩, ⟨12, .textOnly Departure.lateStoresUnsure⟩], none⟩) (v := ?_) rfl (by kernel_rfl) (by kernel_rfl) (by kernel_rfl) (fun _ _ _ h => h) (by decide) opW rfl (by kernel_rfl) (by kernel_rfl) (Or.inl ⟨by kernel_rfl, ?_⟩) (by assumption) ?_
              rotate_left
              · (intro w hSw; (try dsimp only at hSw); obtain ⟨d1, d2⟩ := hSw; go_simp; try with_reducible rfl)
              try simp only [Act.put, setIfInBounds_toArray, set_cons_zero, set_cons_succ]
              refine Rb.till_ready (rs := [11]) (by kernel_rfl) (by simp) ?_
              refine Rb.AllT.cons (o := ⟨some 27, .buildSlice 22 1 #[(0, .tmp 26)], 22, "make.go:186", #[⟨10, .data⟩], none⟩) rfl (fun K hK => ?_) (Rb.AllT.nil)
              · go_simp
                try go_wp2_with fail
                refine hK.out _ _ ?_ (fun hH4 => ?_)
                · (try dsimp only); exact KS.out _ (HQ7.out.2.2.2.bel (by repeat (first | exact Bel.rf | with_reducible refine Bel.drwN ?_ _ | with_reducible refine Bel.drw ?_ | with_reducible refine Bel.al ?_ _)))
                clear hK K hH3
                try simp only [Act.put, setIfInBounds_toArray, set_cons_zero, set_cons_succ]
                refine Rb.till_ready (rs := [12]) (by kernel_rfl) (by simp) ?_
                refine Rb.AllT.cons (o := ⟨some 28, .call { callee := Callee.builtin Builtin.append, args := #[.tmp 25, .tmp 27], argTypes := #[22, 22] }, 22, "make.go:186", #[⟨9, .data⟩, ⟨11, .data⟩, ⟨7, .chain⟩], none⟩) rfl (fun K hK => ?_) (Rb.AllT.nil)
                · refine step_app _ rfl (.tmp 25) (.tmp 27) rfl (w.heap.size + 1 + 1 + 1) v i B rfl (own_bel HQ7.out.1.ov (by repeat (first | exact Bel.rf | with_reducible refine Bel.drwN ?_ _ | with_reducible refine Bel.drw ?_ | with_reducible refine Bel.al ?_ _))) ⟨x7.heap.size, 0, none⟩ 1 1 [1] rfl (zi_bk (L := [1]) ((by repeat (first | (refine Bk.nq _ _ _ ?_; simp; done) | with_reducible refine Bk.drwN ?_ _ | with_reducible refine Bk.drw ?_ | with_reducible refine Bk.al ?_ _)) : Bk _ x7.heap.size 3 (zs [1]).toArray) 1 rfl) HI1.out (by have := HQ7.out.1.sz; simp; omega) ?_; intro v12 x12 h12 hg12 ha12; obtain ⟨A12, c12, hv12, _⟩ := own_any h12; subst hv12; have HQ12 : Hid (Wq g (w.heap.size + 1 + 1 + 1) w x12 (.slice A7 (i + 1) c7) (.slice A12 (i + 1) c12) (i + 1) (i + 1) (S ++ [s]) (B ++ [1]) ∧ Bk x12 w.heap.size 28 #[.int .i64 k, .int .i64 b, .int .i64 q, .int .i64 (m : Int), .int .i64 (n : Int), .slice A nc cc] ∧ Bk x12 (w.heap.size + 1) 32 #[.slice none 0 0, .slice none 0 0] ∧ Bk x12 (w.heap.size + 1 + 1) 32 #[u, v]) := ⟨((HQ7.out.1.up (by repeat (first | exact Bel.rf | with_reducible refine Bel.drwN ?_ _ | with_reducible refine Bel.drw ?_ | with_reducible refine Bel.al ?_ _))).sx.ax h12 hg12 ha12).sx, bk_grw (HQ7.out.2.1.bel (by repeat (first | exact Bel.rf | with_reducible refine Bel.drwN ?_ _ | with_reducible refine Bel.drw ?_ | with_reducible refine Bel.al ?_ _))) hg12 (fun e => by have := (HQ7.out.1.ov.lt _ e).1; omega), bk_grw (HQ7.out.2.2.1.bel (by repeat (first | exact Bel.rf | with_reducible refine Bel.drwN ?_ _ | with_reducible refine Bel.drw ?_ | with_reducible refine Bel.al ?_ _))) hg12 (fun e => by have := (HQ7.out.1.ov.lt _ e).1; omega), bk_grw (HQ7.out.2.2.2.bel (by repeat (first | exact Bel.rf | with_reducible refine Bel.drwN ?_ _ | with_reducible refine Bel.drw ?_ | with_reducible refine Bel.al ?_ _))) hg12 (fun e => by have := (HQ7.out.1.ov.lt _ e).1; omega)⟩; have y0 := HQ12.out.2.2.2.cell 0; have y1 := HQ12.out.2.2.2.cell 1; have z0 := HQ12.out.2.2.2.fr 0; have z1 := HQ12.out.2.2.2.fr 1; simp only [List.getElem?_toArray, List.getElem?_cons_zero, List.getElem?_cons_succ] at y0 y1; clear h12 hg12 ha12
                  try go_wp2_with fail
                  refine hK.out _ _ ?_ (fun hH5 => ?_)
                  · (try dsimp only); exact KS.out _ (HQ12.out.2.2.2.bel (by repeat (first | exact Bel.rf | with_reducible refine Bel.drwN ?_ _ | with_reducible refine Bel.drw ?_ | with_reducible refine Bel.al ?_ _)))
                  clear hK K hH4
                  try simp only [Act.put, setIfInBounds_toArray, set_cons_zero, set_cons_succ]
                  refine Rb.till_ready (rs := [14]) (by kernel_rfl) (by simp) ?_
                  refine Rb.AllT.past (o := ⟨none, .store 22 (.tmp 29) (.tmp 23), 0, "make.go:186", #[⟨13, .data⟩, ⟨7, .data⟩, ⟨12, .chain⟩, ⟨0, .phase⟩, ⟨1, .phase⟩, ⟨2, .phase⟩, ⟨3, .phase⟩, ⟨4, .phase⟩, ⟨5, .phase⟩, ⟨6, .phase⟩, ⟨7, .phase⟩, ⟨8, .phase⟩, ⟨9, .phase⟩, ⟨10, .textOnly Departure.lateStores⟩, ⟨11, .textOnly Departure.lateStores⟩, ⟨12, .textOnly Departure.lateStoresUnsure⟩], none⟩) rfl (by kernel_rfl) (fun K hK => ?_) (Rb.AllT.nil)
                  · go_simp
                    try go_wp2_with fail
                    refine hK.out _ _ trivial (fun hH6 => ?_)
                    clear hK K hH5
                    try simp only [Act.put, setIfInBounds_toArray, set_cons_zero, set_cons_succ]
                    refine Rb.till_free (i := 15) (oi := ⟨some 30, .fieldAddr 32 (.tmp 5) 1, 0, "make.go:186", #[⟨0, .phase⟩, ⟨1, .phase⟩, ⟨2, .phase⟩, ⟨3, .phase⟩, ⟨4, .phase⟩, ⟨5, .phase⟩, ⟨6, .phase⟩, ⟨7, .phase⟩, ⟨8, .phase⟩, ⟨9, .phase⟩, ⟨10, .phase⟩, ⟨11, .phase⟩, ⟨12, .phase⟩, ⟨13, .phase⟩, ⟨14, .phase⟩], none⟩) (v := ?_) rfl (by kernel_rfl) (by kernel_rfl) (by kernel_rfl) (fun _ _ _ h => h) (by decide) (Or.inl ⟨by kernel_rfl, ?_⟩) (fun h => absurd h (by decide)) ?_
                    rotate_left
                    · (intro w hSw; clear hSw; go_simp; try with_reducible rfl)
                    try simp only [Act.put, setIfInBounds_toArray, set_cons_zero, set_cons_succ]
                    refine Rb.till_ready (rs := [16]) (by kernel_rfl) (by simp) ?_
                    refine Rb.AllT.past (o := ⟨none, .store 22 (.tmp 30) (.tmp 28), 0, "make.go:186", #[⟨15, .data⟩, ⟨12, .data⟩, ⟨14, .chain⟩, ⟨0, .phase⟩, ⟨1, .phase⟩, ⟨2, .phase⟩, ⟨3, .phase⟩, ⟨4, .phase⟩, ⟨5, .phase⟩, ⟨6, .phase⟩, ⟨7, .phase⟩, ⟨8, .phase⟩, ⟨9, .phase⟩, ⟨10, .phase⟩, ⟨11, .phase⟩, ⟨12, .phase⟩, ⟨13, .phase⟩, ⟨14, .phase⟩], none⟩) rfl (by kernel_rfl) (fun K hK => ?_) (Rb.AllT.nil)
                    · go_simp
                      try go_wp2_with fail
                      refine hK.out _ _ trivial (fun hH7 => ?_)
                      clear hK K hH6
                      try simp only [Act.put, setIfInBounds_toArray, set_cons_zero, set_cons_succ]
                      refine Rb.till_done (by kernel_rfl) ?_ _
                      refine NoPanic.normal ?_
                      have HFF : Hid (Gd (i + 1) (S ++ [s]) (B ++ [1]) ∧ Wq g (w.heap.size + 1 + 1 + 1) w ((x12.setCell ⟨w.heap.size + 1 + 1, 0, none⟩ (.slice A7 (i + 1) c7)).setCell ⟨w.heap.size + 1 + 1, 1, none⟩ (.slice A12 (i + 1) c12)) (.slice A7 (i + 1) c7) (.slice A12 (i + 1) c12) (i + 1) (i + 1) (S ++ [s]) (B ++ [1]) ∧ Bk ((x12.setCell ⟨w.heap.size + 1 + 1, 0, none⟩ (.slice A7 (i + 1) c7)).setCell ⟨w.heap.size + 1 + 1, 1, none⟩ (.slice A12 (i + 1) c12)) w.heap.size 28 #[.int .i64 k, .int .i64 b, .int .i64 q, .int .i64 (m : Int), .int .i64 (n : Int), .slice A nc cc] ∧ Bk ((x12.setCell ⟨w.heap.size + 1 + 1, 0, none⟩ (.slice A7 (i + 1) c7)).setCell ⟨w.heap.size + 1 + 1, 1, none⟩ (.slice A12 (i + 1) c12)) (w.heap.size + 1) 32 #[.slice none 0 0, .slice none 0 0] ∧ Bk ((x12.setCell ⟨w.heap.size + 1 + 1, 0, none⟩ (.slice A7 (i + 1) c7)).setCell ⟨w.heap.size + 1 + 1, 1, none⟩ (.slice A12 (i + 1) c12)) (w.heap.size + 1 + 1) 32 #[.slice A7 (i + 1) c7, .slice A12 (i + 1) c12]) := ⟨gd_snoc HGD.out (by decide) (by decide) HS5.out.1 (show s < 2 ^ (1 : Int).toNat from HS5.out.2), (HQ12.out.1.st (by omega) (by omega) (by have := HGB.out; omega) _ _).st (by omega) (by omega) (by have := HGB.out; omega) _ _, (HQ12.out.2.1.far (by dsimp only; omega) _).far (by dsimp only; omega) _, (HQ12.out.2.2.1.far (by dsimp only; omega) _).far (by dsimp only; omega) _, (HQ12.out.2.2.2.st 0 _).st 1 _⟩
                      go_wp2_with fail
                      go_roundw
                      case rel => exact ⟨i + 1, _, _, _, _, _, rfl, by go_num, by omega, HFF.out.1, HFF.out.2.1, HFF.out.2.2.1, HFF.out.2.2.2.1, HFF.out.2.2.2.2⟩
                      case measure => simp [intOf]; omega
            · go_simp
              try go_wp2_with fail
              refine hK.out _ _ ?_ (fun hH3 => ?_)
              · (try dsimp only); exact KS.out _ (HQ5.out.2.2.2.bel (by repeat (first | exact Bel.rf | with_reducible refine Bel.drwN ?_ _ | with_reducible refine Bel.drw ?_ | with_reducible refine Bel.al ?_ _)))
              clear hK K hH2
              try simp only [Act.put, setIfInBounds_toArray, set_cons_zero, set_cons_succ]
              refine Rb.till_ready (rs := [7]) (by kernel_rfl) (by simp) ?_
              refine Rb.AllT.cons (o := ⟨some 23, .call { callee := Callee.builtin Builtin.append, args := #[.tmp 17, .tmp 22], argTypes := #[22, 22] }, 22, "make.go:186", #[⟨1, .data⟩, ⟨6, .data⟩, ⟨5, .chain⟩], none⟩) rfl (fun K hK => ?_) (Rb.AllT.nil)
              · refine step_app _ rfl (.tmp 17) (.tmp 22) rfl (w.heap.size + 1 + 1 + 1) u i S rfl (own_bel HQ5.out.1.ou (by repeat (first | exact Bel.rf | with_reducible refine Bel.drwN ?_ _ | with_reducible refine Bel.drw ?_ | with_reducible refine Bel.al ?_ _))) ⟨x5.heap.size, 0, none⟩ 1 1 [s] rfl (zi_bk (L := [s]) ((by repeat (first | (refine Bk.nq _ _ _ ?_; simp; done) | with_reducible refine Bk.drwN ?_ _ | with_reducible refine Bk.drw ?_ | with_reducible refine Bk.al ?_ _)) : Bk _ x5.heap.size 3 (zs [s]).toArray) 1 rfl) HI1.out (by have := HQ5.out.1.sz; simp; omega) ?_; intro v7 x7 h7 hg7 ha7; obtain ⟨A7, c7, hv7, _⟩ := own_any h7; subst hv7; have HQ7 : Hid (Wq g (w.heap.size + 1 + 1 + 1) w x7 (.slice A7 (i + 1) c7) v (i + 1) i (S ++ [s]) B ∧ Bk x7 w.heap.size 28 #[.int .i64 k, .int .i64 b, .int .i64 q, .int .i64 (m : Int), .int .i64 (n : Int), .slice A nc cc] ∧ Bk x7 (w.heap.size + 1) 32 #[.slice none 0 0, .slice none 0 0] ∧ Bk x7 (w.heap.size + 1 + 1) 32 #[u, v]) := ⟨(HQ5.out.1.up (by repeat (first | exact Bel.rf | with_reducible refine Bel.drwN ?_ _ | with_reducible refine Bel.drw ?_ | with_reducible refine Bel.al ?_ _))).ax h7 hg7 ha7, bk_grw (HQ5.out.2.1.bel (by repeat (first | exact Bel.rf | with_reducible refine Bel.drwN ?_ _ | with_reducible refine Bel.drw ?_ | with_reducible refine Bel.al ?_ _))) hg7 (fun e => by have := (HQ5.out.1.ou.lt _ e).1; omega), bk_grw (HQ5.out.2.2.1.bel (by repeat (first | exact Bel.rf | with_reducible refine Bel.drwN ?_ _ | with_reducible refine Bel.drw ?_ | with_reducible refine Bel.al ?_ _))) hg7 (fun e => by have := (HQ5.out.1.ou.lt _ e).1; omega), bk_grw (HQ5.out.2.2.2.bel (by repeat (first | exact Bel.rf | with_reducible refine Bel.drwN ?_ _ | with_reducible refine Bel.drw ?_ | with_reducible refine Bel.al ?_ _))) hg7 (fun e => by have := (HQ5.out.1.ou.lt _ e).1; omega)⟩; have HX7 : Hid (Bk x7 (x5.heap.size + 1) 3 #[.int .i64 1]) := bk_grw ((by repeat (first | (refine Bk.nq _ _ _ ?_; simp; done) | with_reducible refine Bk.drwN ?_ _ | with_reducible refine Bk.drw ?_ | with_reducible refine Bk.al ?_ _)) : Bk _ (x5.heap.size + 1) 3 #[.int .i64 1]) hg7 (fun e => by have := (HQ5.out.1.ou.lt _ e).2; omega); clear h7 hg7 ha7
                try go_wp2_with fail
                refine hK.out _ _ ?_ (fun hH4 => ?_)
                · (try dsimp only); exact KS.out _ (HQ7.out.2.2.2.bel (by repeat (first | exact Bel.rf | with_reducible refine Bel.drwN ?_ _ | with_reducible refine Bel.drw ?_ | with_reducible refine Bel.al ?_ _)))
                clear hK K hH3
                try simp only [Act.put, setIfInBounds_toArray, set_cons_zero, set_cons_succ]
                refine Rb.till_take (i := 13) (oi := ⟨some 29, .fieldAddr 32 (.tmp 5) 0, 0, "make.go:186", #[⟨0, .phase⟩, ⟨1, .phase⟩, ⟨2, .phase⟩, ⟨3, .phase⟩, ⟨4, .phase⟩, ⟨5, .phase⟩, ⟨6, .phase⟩, ⟨7, .phase⟩, ⟨8, .phase⟩, ⟨9, .phase⟩, ⟨10, .textOnly Departure.lateStores⟩, ⟨11, .textOnly Departure.lateStores⟩, ⟨12, .textOnly Departure.lateStoresUnsure⟩], none⟩) (v := ?_) rfl (by kernel_rfl) (by kernel_rfl) (by kernel_rfl) (fun _ _ _ h => h) (by decide) opW rfl (by kernel_rfl) (by kernel_rfl) (Or.inl ⟨by kernel_rfl, ?_⟩) (by assumption) ?_
                rotate_left
                · (intro w hSw; (try dsimp only at hSw); obtain ⟨d1, d2⟩ := hSw; go_simp; try with_reducible rfl)
                try simp only [Act.put, setIfInBounds_toArray, set_cons_zero, set_cons_succ]
                refine Rb.till_ready (rs := [12]) (by kernel_rfl) (by simp) ?_
                refine Rb.AllT.cons (o := ⟨some 28, .call { callee := Callee.builtin Builtin.append, args := #[.tmp 25, .tmp 27], argTypes := #[22, 22] }, 22, "make.go:186", #[⟨9, .data⟩, ⟨11, .data⟩, ⟨7, .chain⟩], none⟩) rfl (fun K hK => ?_) (Rb.AllT.nil)
                · refine step_app _ rfl (.tmp 25) (.tmp 27) rfl (w.heap.size + 1 + 1 + 1) v i B rfl (own_bel HQ7.out.1.ov (by repeat (first | exact Bel.rf | with_reducible refine Bel.drwN ?_ _ | with_reducible refine Bel.drw ?_ | with_reducible refine Bel.al ?_ _))) ⟨x5.heap.size + 1, 0, none⟩ 1 1 [1] rfl (zi_bk (L := [1]) (HX7.out.bel (by repeat (first | exact Bel.rf | with_reducible refine Bel.drwN ?_ _ | with_reducible refine Bel.drw ?_ | with_reducible refine Bel.al ?_ _))) 1 rfl) HI1.out (by have := HQ7.out.1.sz; simp; omega) ?_; intro v12 x12 h12 hg12 ha12; obtain ⟨A12, c12, hv12, _⟩ := own_any h12; subst hv12; have HQ12 : Hid (Wq g (w.heap.size + 1 + 1 + 1) w x12 (.slice A7 (i + 1) c7) (.slice A12 (i + 1) c12) (i + 1) (i + 1) (S ++ [s]) (B ++ [1]) ∧ Bk x12 w.heap.size 28 #[.int .i64 k, .int .i64 b, .int .i64 q, .int .i64 (m : Int), .int .i64 (n : Int), .slice A nc cc] ∧ Bk x12 (w.heap.size + 1) 32 #[.slice none 0 0, .slice none 0 0] ∧ Bk x12 (w.heap.size + 1 + 1) 32 #[u, v]) := ⟨((HQ7.out.1.up (by repeat (first | exact Bel.rf | with_reducible refine Bel.drwN ?_ _ | with_reducible refine Bel.drw ?_ | with_reducible refine Bel.al ?_ _))).sx.ax h12 hg12 ha12).sx, bk_grw (HQ7.out.2.1.bel (by repeat (first | exact Bel.rf | with_reducible refine Bel.drwN ?_ _ | with_reducible refine Bel.drw ?_ | with_reducible refine Bel.al ?_ _))) hg12 (fun e => by have := (HQ7.out.1.ov.lt _ e).1; omega), bk_grw (HQ7.out.2.2.1.bel (by repeat (first | exact Bel.rf | with_reducible refine Bel.drwN ?_ _ | with_reducible refine Bel.drw ?_ | with_reducible refine Bel.al ?_ _))) hg12 (fun e => by have := (HQ7.out.1.ov.lt _ e).1; omega), bk_grw (HQ7.out.2.2.2.bel (by repeat (first | exact Bel.rf | with_reducible refine Bel.drwN ?_ _ | with_reducible refine Bel.drw ?_ | with_reducible refine Bel.al ?_ _))) hg12 (fun e => by have := (HQ7.out.1.ov.lt _ e).1; omega)⟩; have y0 := HQ12.out.2.2.2.cell 0; have y1 := HQ12.out.2.2.2.cell 1; have z0 := HQ12.out.2.2.2.fr 0; have z1 := HQ12.out.2.2.2.fr 1; simp only [List.getElem?_toArray, List.getElem?_cons_zero, List.getElem?_cons_succ] at y0 y1; clear h12 hg12 ha12
                  try go_wp2_with fail
                  refine hK.out _ _ ?_ (fun hH5 => ?_)
                  · (try dsimp only); exact KS.out _ (HQ12.out.2.2.2.bel (by repeat (first | exact Bel.rf | with_reducible refine Bel.drwN ?_ _ | with_reducible refine Bel.drw ?_ | with_reducible refine Bel.al ?_ _)))
                  clear hK K hH4
                  try simp only [Act.put, setIfInBounds_toArray, set_cons_zero, set_cons_succ]
                  refine Rb.till_ready (rs := [14]) (by kernel_rfl) (by simp) ?_
                  refine Rb.AllT.past (o := ⟨none, .store 22 (.tmp 29) (.tmp 23), 0, "make.go:186", #[⟨13, .data⟩, ⟨7, .data⟩, ⟨12, .chain⟩, ⟨0, .phase⟩, ⟨1, .phase⟩, ⟨2, .phase⟩, ⟨3, .phase⟩, ⟨4, .phase⟩, ⟨5, .phase⟩, ⟨6, .phase⟩, ⟨7, .phase⟩, ⟨8, .phase⟩, ⟨9, .phase⟩, ⟨10, .textOnly Departure.lateStores⟩, ⟨11, .textOnly Departure.lateStores⟩, ⟨12, .textOnly Departure.lateStoresUnsure⟩], none⟩) rfl (by kernel_rfl) (fun K hK => ?_) (Rb.AllT.nil)
                  · go_simp
                    try go_wp2_with fail
                    refine hK.out _ _ trivial (fun hH6 => ?_)
                    clear hK K hH5
                    try simp only [Act.put, setIfInBounds_toArray, set_cons_zero, set_cons_succ]
                    refine Rb.till_free (i := 15) (oi := ⟨some 30, .fieldAddr 32 (.tmp 5) 1, 0, "make.go:186", #[⟨0, .phase⟩, ⟨1, .phase⟩, ⟨2, .phase⟩, ⟨3, .phase⟩, ⟨4, .phase⟩, ⟨5, .phase⟩, ⟨6, .phase⟩, ⟨7, .phase⟩, ⟨8, .phase⟩, ⟨9, .phase⟩, ⟨10, .phase⟩, ⟨11, .phase⟩, ⟨12, .phase⟩, ⟨13, .phase⟩, ⟨14, .phase⟩], none⟩) (v := ?_) rfl (by kernel_rfl) (by kernel_rfl) (by kernel_rfl) (fun _ _ _ h => h) (by decide) (Or.inl ⟨by kernel_rfl, ?_⟩) (fun h => absurd h (by decide)) ?_
                    rotate_left
                    · (intro w hSw; clear hSw; go_simp; try with_reducible rfl)
                    try simp only [Act.put, setIfInBounds_toArray, set_cons_zero, set_cons_succ]
                    refine Rb.till_ready (rs := [16]) (by kernel_rfl) (by simp) ?_
                    refine Rb.AllT.past (o := ⟨none, .store 22 (.tmp 30) (.tmp 28), 0, "make.go:186", #[⟨15, .data⟩, ⟨12, .data⟩, ⟨14, .chain⟩, ⟨0, .phase⟩, ⟨1, .phase⟩, ⟨2, .phase⟩, ⟨3, .phase⟩, ⟨4, .phase⟩, ⟨5, .phase⟩, ⟨6, .phase⟩, ⟨7, .phase⟩, ⟨8, .phase⟩, ⟨9, .phase⟩, ⟨10, .phase⟩, ⟨11, .phase⟩, ⟨12, .phase⟩, ⟨13, .phase⟩, ⟨14, .phase⟩], none⟩) rfl (by kernel_rfl) (fun K hK => ?_) (Rb.AllT.nil)
                    · go_simp
                      try go_wp2_with fail
                      refine hK.out _ _ trivial (fun hH7 => ?_)
                      clear hK K hH6
                      try simp only [Act.put, setIfInBounds_toArray, set_cons_zero, set_cons_succ]
                      refine Rb.till_done (by kernel_rfl) ?_ _
                      refine NoPanic.normal ?_
                      have HFF : Hid (Gd (i + 1) (S ++ [s]) (B ++ [1]) ∧ Wq g (w.heap.size + 1 + 1 + 1) w ((x12.setCell ⟨w.heap.size + 1 + 1, 0, none⟩ (.slice A7 (i + 1) c7)).setCell ⟨w.heap.size + 1 + 1, 1, none⟩ (.slice A12 (i + 1) c12)) (.slice A7 (i + 1) c7) (.slice A12 (i + 1) c12) (i + 1) (i + 1) (S ++ [s]) (B ++ [1]) ∧ Bk ((x12.setCell ⟨w.heap.size + 1 + 1, 0, none⟩ (.slice A7 (i + 1) c7)).setCell ⟨w.heap.size + 1 + 1, 1, none⟩ (.slice A12 (i + 1) c12)) w.heap.size 28 #[.int .i64 k, .int .i64 b, .int .i64 q, .int .i64 (m : Int), .int .i64 (n : Int), .slice A nc cc] ∧ Bk ((x12.setCell ⟨w.heap.size + 1 + 1, 0, none⟩ (.slice A7 (i + 1) c7)).setCell ⟨w.heap.size + 1 + 1, 1, none⟩ (.slice A12 (i + 1) c12)) (w.heap.size + 1) 32 #[.slice none 0 0, .slice none 0 0] ∧ Bk ((x12.setCell ⟨w.heap.size + 1 + 1, 0, none⟩ (.slice A7 (i + 1) c7)).setCell ⟨w.heap.size + 1 + 1, 1, none⟩ (.slice A12 (i + 1) c12)) (w.heap.size + 1 + 1) 32 #[.slice A7 (i + 1) c7, .slice A12 (i + 1) c12]) := ⟨gd_snoc HGD.out (by decide) (by decide) HS5.out.1 (show s < 2 ^ (1 : Int).toNat from HS5.out.2), (HQ12.out.1.st (by omega) (by omega) (by have := HGB.out; omega) _ _).st (by omega) (by omega) (by have := HGB.out; omega) _ _, (HQ12.out.2.1.far (by dsimp only; omega) _).far (by dsimp only; omega) _, (HQ12.out.2.2.1.far (by dsimp only; omega) _).far (by dsimp only; omega) _, (HQ12.out.2.2.2.st 0 _).st 1 _⟩
                      go_wp2_with fail
                      go_roundw
                      case rel => exact ⟨i + 1, _, _, _, _, _, rfl, by go_num, by omega, HFF.out.1, HFF.out.2.1, HFF.out.2.2.1, HFF.out.2.2.2.1, HFF.out.2.2.2.2⟩
                      case measure => simp [intOf]; omega
          · go_simp
            try go_wp2_with fail
            refine hK.out _ _ ?_ (fun hH2 => ?_)
            · (try dsimp only); exact KS.out _ (HQ5.out.2.2.2.bel (by repeat (first | exact Bel.rf | with_reducible refine Bel.drwN ?_ _ | with_reducible refine Bel.drw ?_ | with_reducible refine Bel.al ?_ _)))
            clear hK K hH1
            try simp only [Act.put, setIfInBounds_toArray, set_cons_zero, set_cons_succ]
            refine Rb.till_ready (rs := [6]) (by kernel_rfl) (by simp) ?_
            refine Rb.AllT.cons (o := ⟨some 22, .buildSlice 22 1 #[(0, .tmp 21)], 22, "make.go:186", #[⟨5, .data⟩], none⟩) rfl (fun K hK => ?_) (Rb.AllT.nil)
            · go_simp
              try go_wp2_with fail
              refine hK.out _ _ ?_ (fun hH3 => ?_)
              · (try dsimp only); exact KS.out _ (HQ5.out.2.2.2.bel (by repeat (first | exact Bel.rf | with_reducible refine Bel.drwN ?_ _ | with_reducible refine Bel.drw ?_ | with_reducible refine Bel.al ?_ _)))
              clear hK K hH2
              try simp only [Act.put, setIfInBounds_toArray, set_cons_zero, set_cons_succ]
              refine Rb.till_ready (rs := [7]) (by kernel_rfl) (by simp) ?_
              refine Rb.AllT.cons (o := ⟨some 23, .call { callee := Callee.builtin Builtin.append, args := #[.tmp 17, .tmp 22], argTypes := #[22, 22] }, 22, "make.go:186", #[⟨1, .data⟩, ⟨6, .data⟩, ⟨5, .chain⟩], none⟩) rfl (fun K hK => ?_) (Rb.AllT.nil)
              · refine step_app _ rfl (.tmp 17) (.tmp 22) rfl (w.heap.size + 1 + 1 + 1) u i S rfl (own_bel HQ5.out.1.ou (by repeat (first | exact Bel.rf | with_reducible refine Bel.drwN ?_ _ | with_reducible refine Bel.drw ?_ | with_reducible refine Bel.al ?_ _))) ⟨x5.heap.size + 1, 0, none⟩ 1 1 [s] rfl (zi_bk (L := [s]) ((by repeat (first | (refine Bk.nq _ _ _ ?_; simp; done) | with_reducible refine Bk.drwN ?_ _ | with_reducible refine Bk.drw ?_ | with_reducible refine Bk.al ?_ _)) : Bk _ (x5.heap.size + 1) 3 (zs [s]).toArray) 1 rfl) HI1.out (by have := HQ5.out.1.sz; simp; omega) ?_; intro v7 x7 h7 hg7 ha7; obtain ⟨A7, c7, hv7, _⟩ := own_any h7; subst hv7; have HQ7 : Hid (Wq g (w.heap.size + 1 + 1 + 1) w x7 (.slice A7 (i + 1) c7) v (i + 1) i (S ++ [s]) B ∧ Bk x7 w.heap.size 28 #[.int .i64 k, .int .i64 b, .int .i64 q, .int .i64 (m : Int), .int .i64 (n : Int), .slice A nc cc] ∧ Bk x7 (w.heap.size + 1) 32 #[.slice none 0 0, .slice none 0 0] ∧ Bk x7 (w.heap.size + 1 + 1) 32 #[u, v]) := ⟨(HQ5.out.1.up (by repeat (first | exact Bel.rf | with_reducible refine Bel.drwN ?_ _ | with_reducible refine Bel.drw ?_ | with_reducible refine Bel.al ?_ _))).ax h7 hg7 ha7, bk_grw (HQ5.out.2.1.bel (by repeat (first | exact Bel.rf | with_reducible refine Bel.drwN ?_ _ | with_reducible refine Bel.drw ?_ | with_reducible refine Bel.al ?_ _))) hg7 (fun e => by have := (HQ5.out.1.ou.lt _ e).1; omega), bk_grw (HQ5.out.2.2.1.bel (by repeat (first | exact Bel.rf | with_reducible refine Bel.drwN ?_ _ | with_reducible refine Bel.drw ?_ | with_reducible refine Bel.al ?_ _))) hg7 (fun e => by have := (HQ5.out.1.ou.lt _ e).1; omega), bk_grw (HQ5.out.2.2.2.bel (by repeat (first | exact Bel.rf | with_reducible refine Bel.drwN ?_ _ | with_reducible refine Bel.drw ?_ | with_reducible refine Bel.al ?_ _))) hg7 (fun e => by have := (HQ5.out.1.ou.lt _ e).1; omega)⟩; have HX7 : Hid (Bk x7 x5.heap.size 3 #[.int .i64 1]) := bk_grw ((by repeat (first | (refine Bk.nq _ _ _ ?_; simp; done) | with_reducible refine Bk.drwN ?_ _ | with_reducible refine Bk.drw ?_ | with_reducible refine Bk.al ?_ _)) : Bk _ x5.heap.size 3 #[.int .i64 1]) hg7 (fun e => by have := (HQ5.out.1.ou.lt _ e).2; omega); clear h7 hg7 ha7
                try go_wp2_with fail
                refine hK.out _ _ ?_ (fun hH4 => ?_)
                · (try dsimp only); exact KS.out _ (HQ7.out.2.2.2.bel (by repeat (first | exact Bel.rf | with_reducible refine Bel.drwN ?_ _ | with_reducible refine Bel.drw ?_ | with_reducible refine Bel.al ?_ _)))
                clear hK K hH3
                try simp only [Act.put, setIfInBounds_toArray, set_cons_zero, set_cons_succ]
                refine Rb.till_take (i := 13) (oi := ⟨some 29, .fieldAddr 32 (.tmp 5) 0, 0, "make.go:186", #[⟨0, .phase⟩, ⟨1, .phase⟩, ⟨2, .phase⟩, ⟨3, .phase⟩, ⟨4, .phase⟩, ⟨5, .phase⟩, ⟨6, .phase⟩, ⟨7, .phase⟩, ⟨8, .phase⟩, ⟨9, .phase⟩, ⟨10, .textOnly Departure.lateStores⟩, ⟨11, .textOnly Departure.lateStores⟩, ⟨12, .textOnly Departure.lateStoresUnsure⟩], none⟩) (v := ?_) rfl (by kernel_rfl) (by kernel_rfl) (by kernel_rfl) (fun _ _ _ h => h) (by decide) opW rfl (by kernel_rfl) (by kernel_rfl) (Or.inl ⟨by kernel_rfl, ?_⟩) (by assumption) ?_
                rotate_left
                · (intro w hSw; (try dsimp only at hSw); obtain ⟨d1, d2⟩ := hSw; go_simp; try with_reducible rfl)
                try simp only [Act.put, setIfInBounds_toArray, set_cons_zero, set_cons_succ]
                refine Rb.till_ready (rs := [12]) (by kernel_rfl) (by simp) ?_
                refine Rb.AllT.cons (o := ⟨some 28, .call { callee := Callee.builtin Builtin.append, args := #[.tmp 25, .tmp 27], argTypes := #[22, 22] }, 22, "make.go:186", #[⟨9, .data⟩, ⟨11, .data⟩, ⟨7, .chain⟩], none⟩) rfl (fun K hK => ?_) (Rb.AllT.nil)
                · refine step_app _ rfl (.tmp 25) (.tmp 27) rfl (w.heap.size + 1 + 1 + 1) v i B rfl (own_bel HQ7.out.1.ov (by repeat (first | exact Bel.rf | with_reducible refine Bel.drwN ?_ _ | with_reducible refine Bel.drw ?_ | with_reducible refine Bel.al ?_ _))) ⟨x5.heap.size, 0, none⟩ 1 1 [1] rfl (zi_bk (L := [1]) (HX7.out.bel (by repeat (first | exact Bel.rf | with_reducible refine Bel.drwN ?_ _ | with_reducible refine Bel.drw ?_ | with_reducible refine Bel.al ?_ _))) 1 rfl) HI1.out (by have := HQ7.out.1.sz; simp; omega) ?_; intro v12 x12 h12 hg12 ha12; obtain ⟨A12, c12, hv12, _⟩ := own_any h12; subst hv12; have HQ12 : Hid (Wq g (w.heap.size + 1 + 1 + 1) w x12 (.slice A7 (i + 1) c7) (.slice A12 (i + 1) c12) (i + 1) (i + 1) (S ++ [s]) (B ++ [1]) ∧ Bk x12 w.heap.size 28 #[.int .i64 k, .int .i64 b, .int .i64 q, .int .i64 (m : Int), .int .i64 (n : Int), .slice A nc cc] ∧ Bk x12 (w.heap.size + 1) 32 #[.slice none 0 0, .slice none 0 0] ∧ Bk x12 (w.heap.size + 1 + 1) 32 #[u, v]) := ⟨((HQ7.out.1.up (by repeat (first | exact Bel.rf | with_reducible refine Bel.drwN ?_ _ | with_reducible refine Bel.drw ?_ | with_reducible refine Bel.al ?_ _))).sx.ax h12 hg12 ha12).sx, bk_grw (HQ7.out.2.1.bel (by repeat (first | exact Bel.rf | with_reducible refine Bel.drwN ?_ _ | with_reducible refine Bel.drw ?_ | with_reducible refine Bel.al ?_ _))) hg12 (fun e => by have := (HQ7.out.1.ov.lt _ e).1; omega), bk_grw (HQ7.out.2.2.1.bel (by repeat (first | exact Bel.rf | with_reducible refine Bel.drwN ?_ _ | with_reducible refine Bel.drw ?_ | with_reducible refine Bel.al ?_ _))) hg12 (fun e => by have := (HQ7.out.1.ov.lt _ e).1; omega), bk_grw (HQ7.out.2.2.2.bel (by repeat (first | exact Bel.rf | with_reducible refine Bel.drwN ?_ _ | with_reducible refine Bel.drw ?_ | with_reducible refine Bel.al ?_ _))) hg12 (fun e => by have := (HQ7.out.1.ov.lt _ e).1; omega)⟩; have y0 := HQ12.out.2.2.2.cell 0; have y1 := HQ12.out.2.2.2.cell 1; have z0 := HQ12.out.2.2.2.fr 0; have z1 := HQ12.out.2.2.2.fr 1; simp only [List.getElem?_toArray, List.getElem?_cons_zero, List.getElem?_cons_succ] at y0 y1; clear h12 hg12 ha12
                  try go_wp2_with fail
                  refine hK.out _ _ ?_ (fun hH5 => ?_)
                  · (try dsimp only); exact KS.out _ (HQ12.out.2.2.2.bel (by repeat (first | exact Bel.rf | with_reducible refine Bel.drwN ?_ _ | with_reducible refine Bel.drw ?_ | with_reducible refine Bel.al ?_ _)))
                  clear hK K hH4
                  try simp only [Act.put, setIfInBounds_toArray, set_cons_zero, set_cons_succ]
                  refine Rb.till_ready (rs := [14]) (by kernel_rfl) (by simp) ?_
                  refine Rb.AllT.past (o := ⟨none, .store 22 (.tmp 29) (.tmp 23), 0, "make.go:186", #[⟨13, .data⟩, ⟨7, .data⟩, ⟨12, .chain⟩, ⟨0, .phase⟩, ⟨1, .phase⟩, ⟨2, .phase⟩, ⟨3, .phase⟩, ⟨4, .phase⟩, ⟨5, .phase⟩, ⟨6, .phase⟩, ⟨7, .phase⟩, ⟨8, .phase⟩, ⟨9, .phase⟩, ⟨10, .textOnly Departure.lateStores⟩, ⟨11, .textOnly Departure.lateStores⟩, ⟨12, .textOnly Departure.lateStoresUnsure⟩], none⟩) rfl (by kernel_rfl) (fun K hK => ?_) (Rb.AllT.nil)
                  · go_simp
                    try go_wp2_with fail
                    refine hK.out _ _ trivial (fun hH6 => ?_)
                    clear hK K hH5
                    try simp only [Act.put, setIfInBounds_toArray, set_cons_zero, set_cons_succ]
                    refine Rb.till_free (i := 15) (oi := ⟨some 30, .fieldAddr 32 (.tmp 5) 1, 0, "make.go:186", #[⟨0, .phase⟩, ⟨1, .phase⟩, ⟨2, .phase⟩, ⟨3, .phase⟩, ⟨4, .phase⟩, ⟨5, .phase⟩, ⟨6, .phase⟩, ⟨7, .phase⟩, ⟨8, .phase⟩, ⟨9, .phase⟩, ⟨10, .phase⟩, ⟨11, .phase⟩, ⟨12, .phase⟩, ⟨13, .phase⟩, ⟨14, .phase⟩], none⟩) (v := ?_) rfl (by kernel_rfl) (by kernel_rfl) (by kernel_rfl) (fun _ _ _ h => h) (by decide) (Or.inl ⟨by kernel_rfl, ?_⟩) (fun h => absurd h (by decide)) ?_
                    rotate_left
                    · (intro w hSw; clear hSw; go_simp; try with_reducible rfl)
                    try simp only [Act.put, setIfInBounds_toArray, set_cons_zero, set_cons_succ]
                    refine Rb.till_ready (rs := [16]) (by kernel_rfl) (by simp) ?_
                    refine Rb.AllT.past (o := ⟨none, .store 22 (.tmp 30) (.tmp 28), 0, "make.go:186", #[⟨15, .data⟩, ⟨12, .data⟩, ⟨14, .chain⟩, ⟨0, .phase⟩, ⟨1, .phase⟩, ⟨2, .phase⟩, ⟨3, .phase⟩, ⟨4, .phase⟩, ⟨5, .phase⟩, ⟨6, .phase⟩, ⟨7, .phase⟩, ⟨8, .phase⟩, ⟨9, .phase⟩, ⟨10, .phase⟩, ⟨11, .phase⟩, ⟨12, .phase⟩, ⟨13, .phase⟩, ⟨14, .phase⟩], none⟩) rfl (by kernel_rfl) (fun K hK => ?_) (Rb.AllT.nil)
                    · go_simp
                      try go_wp2_with fail
                      refine hK.out _ _ trivial (fun hH7 => ?_)
                      clear hK K hH6
                      try simp only [Act.put, setIfInBounds_toArray, set_cons_zero, set_cons_succ]
                      refine Rb.till_done (by kernel_rfl) ?_ _
                      refine NoPanic.normal ?_
                      have HFF : Hid (Gd (i + 1) (S ++ [s]) (B ++ [1]) ∧ Wq g (w.heap.size + 1 + 1 + 1) w ((x12.setCell ⟨w.heap.size + 1 + 1, 0, none⟩ (.slice A7 (i + 1) c7)).setCell ⟨w.heap.size + 1 + 1, 1, none⟩ (.slice A12 (i + 1) c12)) (.slice A7 (i + 1) c7) (.slice A12 (i + 1) c12) (i + 1) (i + 1) (S ++ [s]) (B ++ [1]) ∧ Bk ((x12.setCell ⟨w.heap.size + 1 + 1, 0, none⟩ (.slice A7 (i + 1) c7)).setCell ⟨w.heap.size + 1 + 1, 1, none⟩ (.slice A12 (i + 1) c12)) w.heap.size 28 #[.int .i64 k, .int .i64 b, .int .i64 q, .int .i64 (m : Int), .int .i64 (n : Int), .slice A nc cc] ∧ Bk ((x12.setCell ⟨w.heap.size + 1 + 1, 0, none⟩ (.slice A7 (i + 1) c7)).setCell ⟨w.heap.size + 1 + 1, 1, none⟩ (.slice A12 (i + 1) c12)) (w.heap.size + 1) 32 #[.slice none 0 0, .slice none 0 0] ∧ Bk ((x12.setCell ⟨w.heap.size + 1 + 1, 0, none⟩ (.slice A7 (i + 1) c7)).setCell ⟨w.heap.size + 1 + 1, 1, none⟩ (.slice A12 (i + 1) c12)) (w.heap.size + 1 + 1) 32 #[.slice A7 (i + 1) c7, .slice A12 (i + 1) c12]) := ⟨gd_snoc HGD.out (by decide) (by decide) HS5.out.1 (show s < 2 ^ (1 : Int).toNat from HS5.out.2), (HQ12.out.1.st (by omega) (by omega) (by have := HGB.out; omega) _ _).st (by omega) (by omega) (by have := HGB.out; omega) _ _, (HQ12.out.2.1.far (by dsimp only; omega) _).far (by dsimp only; omega) _, (HQ12.out.2.2.1.far (by dsimp only; omega) _).far (by dsimp only; omega) _, (HQ12.out.2.2.2.st 0 _).st 1 _⟩
                      go_wp2_with fail
                      go_roundw
                      case rel => exact ⟨i + 1, _, _, _, _, _, rfl, by go_num, by omega, HFF.out.1, HFF.out.2.1, HFF.out.2.2.1, HFF.out.2.2.2.1, HFF.out.2.2.2.2⟩
                      case measure => simp [intOf]; omega
        · go_simp
          try go_wp2_with fail
          refine hK.out _ _ ?_ (fun hH1 => ?_)
          · (try dsimp only); exact KS.out _ (HQ6.out.2.2.2.bel (by repeat (first | exact Bel.rf | with_reducible refine Bel.drwN ?_ _ | with_reducible refine Bel.drw ?_ | with_reducible refine Bel.al ?_ _)))
          clear hK K hH0
          try simp only [Act.put, setIfInBounds_toArray, set_cons_zero, set_cons_succ]
          refine Rb.till_ready (rs := [5]) (by kernel_rfl) (by simp) ?_
          refine Rb.AllT.cons (o := ⟨some 21, .call { callee := Callee.value (.func 21), args := #[.tmp 18, .tmp 20], argTypes := #[23, 3] }, 3, "make.go:186", #[⟨2, .data⟩, ⟨4, .data⟩], none⟩) rfl (fun K hK => ?_) (Rb.AllT.nil)
          · go_simp
            go_at_call 21; (try simp only [wv1, wv2]); refine (n_any g 2 (by decide) (by decide) _ (HQ6.out.1.ok.bel (by repeat (first | exact Bel.rf | with_reducible refine Bel.drwN ?_ _ | with_reducible refine Bel.drw ?_ | with_reducible refine Bel.al ?_ _)))).mono ?_; rintro e x5 ⟨s, rfl, s0, s1, ho5, hc5⟩; have hcd : Ch g w6 x5 := (Ch.of_bel (by repeat (first | exact Bel.rf | with_reducible refine Bel.drwN ?_ _ | with_reducible refine Bel.drw ?_ | with_reducible refine Bel.al ?_ _))).tr hc5; have HQ5 : Hid (Wq g (w.heap.size + 1 + 1 + 1) w x5 u v i i S B ∧ Bk x5 w.heap.size 28 #[.int .i64 k, .int .i64 b, .int .i64 q, .int .i64 (m : Int), .int .i64 (n : Int), .slice A nc cc] ∧ Bk x5 (w.heap.size + 1) 32 #[.slice none 0 0, .slice none 0 0] ∧ Bk x5 (w.heap.size + 1 + 1) 32 #[u, v]) := ⟨HQ6.out.1.to ho5 hcd, hcd.bk HQ6.out.2.1 (by have := HGB.out; omega), hcd.bk HQ6.out.2.2.1 (by have := HGB.out; omega), hcd.bk HQ6.out.2.2.2 (by have := HGB.out; omega)⟩; have HS5 := Lib.hid (And.intro s0 s1); have HX5 : Hid (Bk x5 w6.heap.size 3 #[.int .i64 1]) := hc5.bk ((by repeat (first | (refine Bk.nq _ _ _ ?_; simp; done) | with_reducible refine Bk.drwN ?_ _ | with_reducible refine Bk.drw ?_ | with_reducible refine Bk.al ?_ _)) : Bk _ w6.heap.size 3 #[.int .i64 1]) (by have := HQ6.out.1.gb; have := HQ6.out.1.sz; omega); clear ho5 hc5 hcd s0 s1
            try go_wp2_with fail
            refine hK.out _ _ ?_ (fun hH2 => ?_)
            · (try dsimp only); exact KS.out _ (HQ5.out.2.2.2.bel (by repeat (first | exact Bel.rf | with_reducible refine Bel.drwN ?_ _ | with_reducible refine Bel.drw ?_ | with_reducible refine Bel.al ?_ _)))
            clear hK K hH1
            try simp only [Act.put, setIfInBounds_toArray, set_cons_zero, set_cons_succ]
            refine Rb.till_ready (rs := [6]) (by kernel_rfl) (by simp) ?_
            refine Rb.AllT.cons (o := ⟨some 22, .buildSlice 22 1 #[(0, .tmp 21)], 22, "make.go:186", #[⟨5, .data⟩], none⟩) rfl (fun K hK => ?_) (Rb.AllT.nil)
            · go_simp
              try go_wp2_with fail
              refine hK.out _ _ ?_ (fun hH3 => ?_)
              · (try dsimp only); exact KS.out _ (HQ5.out.2.2.2.bel (by repeat (first | exact Bel.rf | with_reducible refine Bel.drwN ?_ _ | with_reducible refine Bel.drw ?_ | with_reducible refine Bel.al ?_ _)))
              clear hK K hH2
              try simp only [Act.put, setIfInBounds_toArray, set_cons_zero, set_cons_succ]
              refine Rb.till_ready (rs := [7]) (by kernel_rfl) (by simp) ?_
              refine Rb.AllT.cons (o := ⟨some 23, .call { callee := Callee.builtin Builtin.append, args := #[.tmp 17, .tmp 22], argTypes := #[22, 22] }, 22, "make.go:186", #[⟨1, .data⟩, ⟨6, .data⟩, ⟨5, .chain⟩], none⟩) rfl (fun K hK => ?_) (Rb.AllT.nil)
              · refine step_app _ rfl (.tmp 17) (.tmp 22) rfl (w.heap.size + 1 + 1 + 1) u i S rfl (own_bel HQ5.out.1.ou (by repeat (first | exact Bel.rf | with_reducible refine Bel.drwN ?_ _ | with_reducible refine Bel.drw ?_ | with_reducible refine Bel.al ?_ _))) ⟨x5.heap.size, 0, none⟩ 1 1 [s] rfl (zi_bk (L := [s]) ((by repeat (first | (refine Bk.nq _ _ _ ?_; simp; done) | with_reducible refine Bk.drwN ?_ _ | with_reducible refine Bk.drw ?_ | with_reducible refine Bk.al ?_ _)) : Bk _ x5.heap.size 3 (zs [s]).toArray) 1 rfl) HI1.out (by have := HQ5.out.1.sz; simp; omega) ?_; intro v7 x7 h7 hg7 ha7; obtain ⟨A7, c7, hv7, _⟩ := own_any h7; subst hv7; have HQ7 : Hid (Wq g (w.heap.size + 1 + 1 + 1) w x7 (.slice A7 (i + 1) c7) v (i + 1) i (S ++ [s]) B ∧ Bk x7 w.heap.size 28 #[.int .i64 k, .int .i64 b, .int .i64 q, .int .i64 (m : Int), .int .i64 (n : Int), .slice A nc cc] ∧ Bk x7 (w.heap.size + 1) 32 #[.slice none 0 0, .slice none 0 0] ∧ Bk x7 (w.heap.size + 1 + 1) 32 #[u, v]) := ⟨(HQ5.out.1.up (by repeat (first | exact Bel.rf | with_reducible refine Bel.drwN ?_ _ | with_reducible refine Bel.drw ?_ | with_reducible refine Bel.al ?_ _))).ax h7 hg7 ha7, bk_grw (HQ5.out.2.1.bel (by repeat (first | exact Bel.rf | with_reducible refine Bel.drwN ?_ _ | with_reducible refine Bel.drw ?_ | with_reducible refine Bel.al ?_ _))) hg7 (fun e => by have := (HQ5.out.1.ou.lt _ e).1; omega), bk_grw (HQ5.out.2.2.1.bel (by repeat (first | exact Bel.rf | with_reducible refine Bel.drwN ?_ _ | with_reducible refine Bel.drw ?_ | with_reducible refine Bel.al ?_ _))) hg7 (fun e => by have := (HQ5.out.1.ou.lt _ e).1; omega), bk_grw (HQ5.out.2.2.2.bel (by repeat (first | exact Bel.rf | with_reducible refine Bel.drwN ?_ _ | with_reducible refine Bel.drw ?_ | with_reducible refine Bel.al ?_ _))) hg7 (fun e => by have := (HQ5.out.1.ou.lt _ e).1; omega)⟩; have HX7 : Hid (Bk x7 w6.heap.size 3 #[.int .i64 1]) := bk_grw (HX5.out.bel (by repeat (first | exact Bel.rf | with_reducible refine Bel.drwN ?_ _ | with_reducible refine Bel.drw ?_ | with_reducible refine Bel.al ?_ _))) hg7 (fun e => by have := HB6.out _ e; omega); clear h7 hg7 ha7
                try go_wp2_with fail
                refine hK.out _ _ ?_ (fun hH4 => ?_)
                · (try dsimp only); exact KS.out _ (HQ7.out.2.2.2.bel (by repeat (first | exact Bel.rf | with_reducible refine Bel.drwN ?_ _ | with_reducible refine Bel.drw ?_ | with_reducible refine Bel.al ?_ _)))
                clear hK K hH3
                try simp only [Act.put, setIfInBounds_toArray, set_cons_zero, set_cons_succ]
                refine Rb.till_take (i := 13) (oi := ⟨some 29, .fieldAddr 32 (.tmp 5) 0, 0, "make.go:186", #[⟨0, .phase⟩, ⟨1, .phase⟩, ⟨2, .phase⟩, ⟨3, .phase⟩, ⟨4, .phase⟩, ⟨5, .phase⟩, ⟨6, .phase⟩, ⟨7, .phase⟩, ⟨8, .phase⟩, ⟨9, .phase⟩, ⟨10, .textOnly Departure.lateStores⟩, ⟨11, .textOnly Departure.lateStores⟩, ⟨12, .textOnly Departure.lateStoresUnsure⟩], none⟩) (v := ?_) rfl (by kernel_rfl) (by kernel_rfl) (by kernel_rfl) (fun _ _ _ h => h) (by decide) opW rfl (by kernel_rfl) (by kernel_rfl) (Or.inl ⟨by kernel_rfl, ?_⟩) (by assumption) ?_
                rotate_left
                · (intro w hSw; (try dsimp only at hSw); obtain ⟨d1, d2⟩ := hSw; go_simp; try with_reducible rfl)
                try simp only [Act.put, setIfInBounds_toArray, set_cons_zero, set_cons_succ]
                refine Rb.till_ready (rs := [12]) (by kernel_rfl) (by simp) ?_
                refine Rb.AllT.cons (o := ⟨some 28, .call { callee := Callee.builtin Builtin.append, args := #[.tmp 25, .tmp 27], argTypes := #[22, 22] }, 22, "make.go:186", #[⟨9, .data⟩, ⟨11, .data⟩, ⟨7, .chain⟩], none⟩) rfl (fun K hK => ?_) (Rb.AllT.nil)
                · refine step_app _ rfl (.tmp 25) (.tmp 27) rfl (w.heap.size + 1 + 1 + 1) v i B rfl (own_bel HQ7.out.1.ov (by repeat (first | exact Bel.rf | with_reducible refine Bel.drwN ?_ _ | with_reducible refine Bel.drw ?_ | with_reducible refine Bel.al ?_ _))) ⟨w6.heap.size, 0, none⟩ 1 1 [1] rfl (zi_bk (L := [1]) (HX7.out.bel (by repeat (first | exact Bel.rf | with_reducible refine Bel.drwN ?_ _ | with_reducible refine Bel.drw ?_ | with_reducible refine Bel.al ?_ _))) 1 rfl) HI1.out (by have := HQ7.out.1.sz; simp; omega) ?_; intro v12 x12 h12 hg12 ha12; obtain ⟨A12, c12, hv12, _⟩ := own_any h12; subst hv12; have HQ12 : Hid (Wq g (w.heap.size + 1 + 1 + 1) w x12 (.slice A7 (i + 1) c7) (.slice A12 (i + 1) c12) (i + 1) (i + 1) (S ++ [s]) (B ++ [1]) ∧ Bk x12 w.heap.size 28 #[.int .i64 k, .int .i64 b, .int .i64 q, .int .i64 (m : Int), .int .i64 (n : Int), .slice A nc cc] ∧ Bk x12 (w.heap.size + 1) 32 #[.slice none 0 0, .slice none 0 0] ∧ Bk x12 (w.heap.size + 1 + 1) 32 #[u, v]) := ⟨((HQ7.out.1.up (by repeat (first | exact Bel.rf | with_reducible refine Bel.drwN ?_ _ | with_reducible refine Bel.drw ?_ | with_reducible refine Bel.al ?_ _))).sx.ax h12 hg12 ha12).sx, bk_grw (HQ7.out.2.1.bel (by repeat (first | exact Bel.rf | with_reducible refine Bel.drwN ?_ _ | with_reducible refine Bel.drw ?_ | with_reducible refine Bel.al ?_ _))) hg12 (fun e => by have := (HQ7.out.1.ov.lt _ e).1; omega), bk_grw (HQ7.out.2.2.1.bel (by repeat (first | exact Bel.rf | with_reducible refine Bel.drwN ?_ _ | with_reducible refine Bel.drw ?_ | with_reducible refine Bel.al ?_ _))) hg12 (fun e => by have := (HQ7.out.1.ov.lt _ e).1; omega), bk_grw (HQ7.out.2.2.2.bel (by repeat (first | exact Bel.rf | with_reducible refine Bel.drwN ?_ _ | with_reducible refine Bel.drw ?_ | with_reducible refine Bel.al ?_ _))) hg12 (fun e => by have := (HQ7.out.1.ov.lt _ e).1; omega)⟩; have y0 := HQ12.out.2.2.2.cell 0; have y1 := HQ12.out.2.2.2.cell 1; have z0 := HQ12.out.2.2.2.fr 0; have z1 := HQ12.out.2.2.2.fr 1; simp only [List.getElem?_toArray, List.getElem?_cons_zero, List.getElem?_cons_succ] at y0 y1; clear h12 hg12 ha12
                  try go_wp2_with fail
                  refine hK.out _ _ ?_ (fun hH5 => ?_)
                  · (try dsimp only); exact KS.out _ (HQ12.out.2.2.2.bel (by repeat (first | exact Bel.rf | with_reducible refine Bel.drwN ?_ _ | with_reducible refine Bel.drw ?_ | with_reducible refine Bel.al ?_ _)))
                  clear hK K hH4
                  try simp only [Act.put, setIfInBounds_toArray, set_cons_zero, set_cons_succ]
                  refine Rb.till_ready (rs := [14]) (by kernel_rfl) (by simp) ?_
                  refine Rb.AllT.past (o := ⟨none, .store 22 (.tmp 29) (.tmp 23), 0, "make.go:186", #[⟨13, .data⟩, ⟨7, .data⟩, ⟨12, .chain⟩, ⟨0, .phase⟩, ⟨1, .phase⟩, ⟨2, .phase⟩, ⟨3, .phase⟩, ⟨4, .phase⟩, ⟨5, .phase⟩, ⟨6, .phase⟩, ⟨7, .phase⟩, ⟨8, .phase⟩, ⟨9, .phase⟩, ⟨10, .textOnly Departure.lateStores⟩, ⟨11, .textOnly Departure.lateStores⟩, ⟨12, .textOnly Departure.lateStoresUnsure⟩], none⟩) rfl (by kernel_rfl) (fun K hK => ?_) (Rb.AllT.nil)
                  · go_simp
                    try go_wp2_with fail
                    refine hK.out _ _ trivial (fun hH6 => ?_)
                    clear hK K hH5
                    try simp only [Act.put, setIfInBounds_toArray, set_cons_zero, set_cons_succ]
                    refine Rb.till_free (i := 15) (oi := ⟨some 30, .fieldAddr 32 (.tmp 5) 1, 0, "make.go:186", #[⟨0, .phase⟩, ⟨1, .phase⟩, ⟨2, .phase⟩, ⟨3, .phase⟩, ⟨4, .phase⟩, ⟨5, .phase⟩, ⟨6, .phase⟩, ⟨7, .phase⟩, ⟨8, .phase⟩, ⟨9, .phase⟩, ⟨10, .phase⟩, ⟨11, .phase⟩, ⟨12, .phase⟩, ⟨13, .phase⟩, ⟨14, .phase⟩], none⟩) (v := ?_) rfl (by kernel_rfl) (by kernel_rfl) (by kernel_rfl) (fun _ _ _ h => h) (by decide) (Or.inl ⟨by kernel_rfl, ?_⟩) (fun h => absurd h (by decide)) ?_
                    rotate_left
                    · (intro w hSw; clear hSw; go_simp; try with_reducible rfl)
                    try simp only [Act.put, setIfInBounds_toArray, set_cons_zero, set_cons_succ]
                    refine Rb.till_ready (rs := [16]) (by kernel_rfl) (by simp) ?_
                    refine Rb.AllT.past (o := ⟨none, .store 22 (.tmp 30) (.tmp 28), 0, "make.go:186", #[⟨15, .data⟩, ⟨12, .data⟩, ⟨14, .chain⟩, ⟨0, .phase⟩, ⟨1, .phase⟩, ⟨2, .phase⟩, ⟨3, .phase⟩, ⟨4, .phase⟩, ⟨5, .phase⟩, ⟨6, .phase⟩, ⟨7, .phase⟩, ⟨8, .phase⟩, ⟨9, .phase⟩, ⟨10, .phase⟩, ⟨11, .phase⟩, ⟨12, .phase⟩, ⟨13, .phase⟩, ⟨14, .phase⟩], none⟩) rfl (by kernel_rfl) (fun K hK => ?_) (Rb.AllT.nil)
                    · go_simp
                      try go_wp2_with fail
                      refine hK.out _ _ trivial (fun hH7 => ?_)
                      clear hK K hH6
                      try simp only [Act.put, setIfInBounds_toArray, set_cons_zero, set_cons_succ]
                      refine Rb.till_done (by kernel_rfl) ?_ _
                      refine NoPanic.normal ?_
                      have HFF : Hid (Gd (i + 1) (S ++ [s]) (B ++ [1]) ∧ Wq g (w.heap.size + 1 + 1 + 1) w ((x12.setCell ⟨w.heap.size + 1 + 1, 0, none⟩ (.slice A7 (i + 1) c7)).setCell ⟨w.heap.size + 1 + 1, 1, none⟩ (.slice A12 (i + 1) c12)) (.slice A7 (i + 1) c7) (.slice A12 (i + 1) c12) (i + 1) (i + 1) (S ++ [s]) (B ++ [1]) ∧ Bk ((x12.setCell ⟨w.heap.size + 1 + 1, 0, none⟩ (.slice A7 (i + 1) c7)).setCell ⟨w.heap.size + 1 + 1, 1, none⟩ (.slice A12 (i + 1) c12)) w.heap.size 28 #[.int .i64 k, .int .i64 b, .int .i64 q, .int .i64 (m : Int), .int .i64 (n : Int), .slice A nc cc] ∧ Bk ((x12.setCell ⟨w.heap.size + 1 + 1, 0, none⟩ (.slice A7 (i + 1) c7)).setCell ⟨w.heap.size + 1 + 1, 1, none⟩ (.slice A12 (i + 1) c12)) (w.heap.size + 1) 32 #[.slice none 0 0, .slice none 0 0] ∧ Bk ((x12.setCell ⟨w.heap.size + 1 + 1, 0, none⟩ (.slice A7 (i + 1) c7)).setCell ⟨w.heap.size + 1 + 1, 1, none⟩ (.slice A12 (i + 1) c12)) (w.heap.size + 1 + 1) 32 #[.slice A7 (i + 1) c7, .slice A12 (i + 1) c12]) := ⟨gd_snoc HGD.out (by decide) (by decide) HS5.out.1 (show s < 2 ^ (1 : Int).toNat from HS5.out.2), (HQ12.out.1.st (by omega) (by omega) (by have := HGB.out; omega) _ _).st (by omega) (by omega) (by have := HGB.out; omega) _ _, (HQ12.out.2.1.far (by dsimp only; omega) _).far (by dsimp only; omega) _, (HQ12.out.2.2.1.far (by dsimp only; omega) _).far (by dsimp only; omega) _, (HQ12.out.2.2.2.st 0 _).st 1 _⟩
                      go_wp2_with fail
                      go_roundw
                      case rel => exact ⟨i + 1, _, _, _, _, _, rfl, by go_num, by omega, HFF.out.1, HFF.out.2.1, HFF.out.2.2.1, HFF.out.2.2.2.1, HFF.out.2.2.2.2⟩
                      case measure => simp [intOf]; omega
      · have wv1 : IntKind.i64.wrap 4 = 4 := by decide
        have wv2 : IntKind.i64.wrap (2 ^ 2) = 4 := by decide
        clear HY
        go_wp2_with fail
        refine wp_region_noPanic ?_
        refine Rb.wp_region_till (S := fun W => W.cell? (⟨w.heap.size + 1 + 1, 0, none⟩ : Addr) = some u ∧ W.cell? (⟨w.heap.size + 1 + 1, 1, none⟩ : Addr) = some v) 14 (by kernel_rfl) ?_ (fun hH0 => ?_)
        · (try dsimp only); exact KS.out _ (HQ6.out.2.2.2.bel (by repeat (first | exact Bel.rf | with_reducible refine Bel.drwN ?_ _ | with_reducible refine Bel.drw ?_ | with_reducible refine Bel.al ?_ _)))
        refine Rb.till_take (i := 0) (oi := ⟨some 16, .fieldAddr 32 (.tmp 5) 0, 0, "make.go:186", #[], none⟩) (v := ?_) rfl (by kernel_rfl) (by kernel_rfl) (by kernel_rfl) (fun _ _ _ h => h) (by decide) opW rfl (by kernel_rfl) (by kernel_rfl) (Or.inl ⟨by kernel_rfl, ?_⟩) (by assumption) ?_
        rotate_left
        · (intro w hSw; (try dsimp only at hSw); obtain ⟨d1, d2⟩ := hSw; go_simp; try with_reducible rfl)
        try simp only [Act.put, setIfInBounds_toArray, set_cons_zero, set_cons_succ]
        refine Rb.till_take (i := 1) (oi := ⟨some 17, .load 22 (.tmp 16), 22, "make.go:186", #[⟨0, .data⟩], none⟩) (v := ?_) rfl (by kernel_rfl) (by kernel_rfl) (by kernel_rfl) (fun _ _ _ h => h) (by decide) opW rfl (by kernel_rfl) (by kernel_rfl) (Or.inl ⟨by kernel_rfl, ?_⟩) (by assumption) ?_
        rotate_left
        · (intro w hSw; (try dsimp only at hSw); obtain ⟨d1, d2⟩ := hSw; go_simp; try with_reducible rfl)
        try simp only [Act.put, setIfInBounds_toArray, set_cons_zero, set_cons_succ]
        refine Rb.till_take (i := 2) (oi := ⟨some 18, .move (.tmp 0), 23, "make.go:186", #[], none⟩) (v := ?_) rfl (by kernel_rfl) (by kernel_rfl) (by kernel_rfl) (fun _ _ _ h => h) (by decide) opW rfl (by kernel_rfl) (by kernel_rfl) (Or.inl ⟨by kernel_rfl, ?_⟩) (by assumption) ?_
        rotate_left
        · (intro w hSw; (try dsimp only at hSw); obtain ⟨d1, d2⟩ := hSw; go_simp; try with_reducible rfl)
        try simp only [Act.put, setIfInBounds_toArray, set_cons_zero, set_cons_succ]
        refine Rb.till_take (i := 3) (oi := ⟨some 19, .move (.tmp 7), 3, "make.go:186", #[], none⟩) (v := ?_) rfl (by kernel_rfl) (by kernel_rfl) (by kernel_rfl) (fun _ _ _ h => h) (by decide) opW rfl (by kernel_rfl) (by kernel_rfl) (Or.inl ⟨by kernel_rfl, ?_⟩) (by assumption) ?_
        rotate_left
        · (intro w hSw; (try dsimp only at hSw); obtain ⟨d1, d2⟩ := hSw; go_simp; try with_reducible rfl)
        try simp only [Act.put, setIfInBounds_toArray, set_cons_zero, set_cons_succ]
        refine Rb.till_take (i := 4) (oi := ⟨some 20, .binOp BinOp.shl 3 (.const (.int IntKind.i64 1)) (.tmp 19) 3, 3, "make.go:186", #[⟨3, .data⟩], none⟩) (v := ?_) rfl (by kernel_rfl) (by kernel_rfl) (by kernel_rfl) (fun _ _ _ h => h) (by decide) opW rfl (by kernel_rfl) (by kernel_rfl) (Or.inl ⟨by kernel_rfl, ?_⟩) (by assumption) ?_
        rotate_left
        · (intro w hSw; (try dsimp only at hSw); obtain ⟨d1, d2⟩ := hSw; go_simp; try with_reducible rfl)
        try simp only [Act.put, setIfInBounds_toArray, set_cons_zero, set_cons_succ]
        refine Rb.till_take (i := 8) (oi := ⟨some 24, .fieldAddr 32 (.tmp 5) 1, 0, "make.go:186", #[], none⟩) (v := ?_) rfl (by kernel_rfl) (by kernel_rfl) (by kernel_rfl) (fun _ _ _ h => h) (by decide) opW rfl (by kernel_rfl) (by kernel_rfl) (Or.inl ⟨by kernel_rfl, ?_⟩) (by assumption) ?_
        rotate_left
        · (intro w hSw; (try dsimp only at hSw); obtain ⟨d1, d2⟩ := hSw; go_simp; try with_reducible rfl)
        try simp only [Act.put, setIfInBounds_toArray, set_cons_zero, set_cons_succ]
        refine Rb.till_take (i := 9) (oi := ⟨some 25, .load 22 (.tmp 24), 22, "make.go:186", #[⟨8, .data⟩], none⟩) (v := ?_) rfl (by kernel_rfl) (by kernel_rfl) (by kernel_rfl) (fun _ _ _ h => h) (by decide) opW rfl (by kernel_rfl) (by kernel_rfl) (Or.inl ⟨by kernel_rfl, ?_⟩) (by assumption) ?_
        rotate_left
        · (intro w hSw; (try dsimp only at hSw); obtain ⟨d1, d2⟩ := hSw; go_simp; try with_reducible rfl)
        try simp only [Act.put, setIfInBounds_toArray, set_cons_zero, set_cons_succ]
        refine Rb.till_free (i := 10) (oi := ⟨some 26, .move (.tmp 7), 3, "make.go:186", #[], none⟩) (v := ?_) rfl (by kernel_rfl) (by kernel_rfl) (by kernel_rfl) (fun _ _ _ h => h) (by decide) (Or.inl ⟨by kernel_rfl, ?_⟩) (fun _ => by assumption) ?_
        rotate_left
        · (intro w hSw; clear hSw; go_simp; try with_reducible rfl)
        try simp only [Act.put, setIfInBounds_toArray, set_cons_zero, set_cons_succ]
        refine Rb.till_ready (rs := [5, 11]) (by kernel_rfl) (by simp) ?_
        refine Rb.AllT.cons (o := ⟨some 21, .call { callee := Callee.value (.func 21), args := #[.tmp 18, .tmp 20], argTypes := #[23, 3] }, 3, "make.go:186", #[⟨2, .data⟩, ⟨4, .data⟩], none⟩) rfl (fun K hK => ?_) (Rb.AllT.cons (o := ⟨some 27, .buildSlice 22 1 #[(0, .tmp 26)], 22, "make.go:186", #[⟨10, .data⟩], none⟩) rfl (fun K hK => ?_) (Rb.AllT.nil))
        · go_simp
          go_at_call 21; (try simp only [wv1, wv2]); refine (n_any g 4 (by decide) (by decide) _ (HQ6.out.1.ok.bel (by repeat (first | exact Bel.rf | with_reducible refine Bel.drwN ?_ _ | with_reducible refine Bel.drw ?_ | with_reducible refine Bel.al ?_ _)))).mono ?_; rintro e x5 ⟨s, rfl, s0, s1, ho5, hc5⟩; have hcd : Ch g w6 x5 := (Ch.of_bel (by repeat (first | exact Bel.rf | with_reducible refine Bel.drwN ?_ _ | with_reducible refine Bel.drw ?_ | with_reducible refine Bel.al ?_ _))).tr hc5; have HQ5 : Hid (Wq g (w.heap.size + 1 + 1 + 1) w x5 u v i i S B ∧ Bk x5 w.heap.size 28 #[.int .i64 k, .int .i64 b, .int .i64 q, .int .i64 (m : Int), .int .i64 (n : Int), .slice A nc cc] ∧ Bk x5 (w.heap.size + 1) 32 #[.slice none 0 0, .slice none 0 0] ∧ Bk x5 (w.heap.size + 1 + 1) 32 #[u, v]) := ⟨HQ6.out.1.to ho5 hcd, hcd.bk HQ6.out.2.1 (by have := HGB.out; omega), hcd.bk HQ6.out.2.2.1 (by have := HGB.out; omega), hcd.bk HQ6.out.2.2.2 (by have := HGB.out; omega)⟩; have HS5 := Lib.hid (And.intro s0 s1); clear ho5 hc5 hcd s0 s1
          try go_wp2_with fail
          refine hK.out _ _ ?_ (fun hH1 => ?_)
          · (try dsimp only); exact KS.out _ (HQ5.out.2.2.2.bel (by repeat (first | exact Bel.rf | with_reducible refine Bel.drwN ?_ _ | with_reducible refine Bel.drw ?_ | with_reducible refine Bel.al ?_ _)))
          clear hK K hH0
          try simp only [Act.put, setIfInBounds_toArray, set_cons_zero, set_cons_succ]
          refine Rb.till_ready (rs := [6, 11]) (by kernel_rfl) (by simp) ?_
          refine Rb.AllT.cons (o := ⟨some 22, .buildSlice 22 1 #[(0, .tmp 21)], 22, "make.go:186", #[⟨5, .data⟩], none⟩) rfl (fun K hK => ?_) (Rb.AllT.cons (o := ⟨some 27, .buildSlice 22 1 #[(0, .tmp 26)], 22, "make.go:186", #[⟨10, .data⟩], none⟩) rfl (fun K hK => ?_) (Rb.AllT.nil))
          · go_simp
            try go_wp2_with fail
            refine hK.out _ _ ?_ (fun hH2 => ?_)
            · (try dsimp only); exact KS.out _ (HQ5.out.2.2.2.bel (by repeat (first | exact Bel.rf | with_reducible refine Bel.drwN ?_ _ | with_reducible refine Bel.drw ?_ | with_reducible refine Bel.al ?_ _)))
            clear hK K hH1
            try simp only [Act.put, setIfInBounds_toArray, set_cons_zero, set_cons_succ]
            refine Rb.till_ready (rs := [7, 11]) (by kernel_rfl) (by simp) ?_
            refine Rb.AllT.cons (o := ⟨some 23, .call { callee := Callee.builtin Builtin.append, args := #[.tmp 17, .tmp 22], argTypes := #[22, 22] }, 22, "make.go:186", #[⟨1, .data⟩, ⟨6, .data⟩, ⟨5, .chain⟩], none⟩) rfl (fun K hK => ?_) (Rb.AllT.cons (o := ⟨some 27, .buildSlice 22 1 #[(0, .tmp 26)], 22, "make.go:186", #[⟨10, .data⟩], none⟩) rfl (fun K hK => ?_) (Rb.AllT.nil))
            · refine step_app _ rfl (.tmp 17) (.tmp 22) rfl (w.heap.size + 1 + 1 + 1) u i S rfl (own_bel HQ5.out.1.ou (by repeat (first | exact Bel.rf | with_reducible refine Bel.drwN ?_ _ | with_reducible refine Bel.drw ?_ | with_reducible refine Bel.al ?_ _))) ⟨x5.heap.size, 0, none⟩ 1 1 [s] rfl (zi_bk (L := [s]) ((by repeat (first | (refine Bk.nq _ _ _ ?_; simp; done) | with_reducible refine Bk.drwN ?_ _ | with_reducible refine Bk.drw ?_ | with_reducible refine Bk.al ?_ _)) : Bk _ x5.heap.size 3 (zs [s]).toArray) 1 rfl) HI1.out (by have := HQ5.out.1.sz; simp; omega) ?_; intro v7 x7 h7 hg7 ha7; obtain ⟨A7, c7, hv7, _⟩ := own_any h7; subst hv7; have HQ7 : Hid (Wq g (w.heap.size + 1 + 1 + 1) w x7 (.slice A7 (i + 1) c7) v (i + 1) i (S ++ [s]) B ∧ Bk x7 w.heap.size 28 #[.int .i64 k, .int .i64 b, .int .i64 q, .int .i64 (m : Int), .int .i64 (n : Int), .slice A nc cc] ∧ Bk x7 (w.heap.size + 1) 32 #[.slice none 0 0, .slice none 0 0] ∧ Bk x7 (w.heap.size + 1 + 1) 32 #[u, v]) := ⟨(HQ5.out.1.up (by repeat (first | exact Bel.rf | with_reducible refine Bel.drwN ?_ _ | with_reducible refine Bel.drw ?_ | with_reducible refine Bel.al ?_ _))).ax h7 hg7 ha7, bk_grw (HQ5.out.2.1.bel (by repeat (first | exact Bel.rf | with_reducible refine Bel.drwN ?_ _ | with_reducible refine Bel.drw ?_ | with_reducible refine Bel.al ?_ _))) hg7 (fun e => by have := (HQ5.out.1.ou.lt _ e).1; omega), bk_grw (HQ5.out.2.2.1.bel (by repeat (first | exact Bel.rf | with_reducible refine Bel.drwN ?_ _ | with_reducible refine Bel.drw ?_ | with_reducible refine Bel.al ?_ _))) hg7 (fun e => by have := (HQ5.out.1.ou.lt _ e).1; omega), bk_grw (HQ5.out.2.2.2.bel (by repeat (first | exact Bel.rf | with_reducible refine Bel.drwN ?_ _ | with_reducible refine Bel.drw ?_ | with_reducible refine Bel.al ?_ _))) hg7 (fun e => by have := (HQ5.out.1.ou.lt _ e).1; omega)⟩; clear h7 hg7 ha7
              try go_wp2_with fail
              refine hK.out _ _ ?_ (fun hH3 => ?_)
              · (try dsimp only); exact KS.out _ (HQ7.out.2.2.2.bel (by repeat (first | exact Bel.rf | with_reducible refine Bel.drwN ?_ _ | with_reducible refine Bel.drw ?_ | with_reducible refine Bel.al ?_ _)))
              clear hK K hH2
              try simp only [Act.put, setIfInBounds_toArray, set_cons_zero, set_cons_succ]
              refine Rb.till_take (i := 13) (oi := ⟨some 29, .fieldAddr 32 (.tmp 5) 0, 0, "make.go:186", #[⟨0, .phase⟩, ⟨1, .phase⟩, ⟨2, .phase⟩, ⟨3, .phase⟩, ⟨4, .phase⟩, ⟨5, .phase⟩, ⟨6, .phase⟩, ⟨7, .phase⟩, ⟨8, .phase⟩, ⟨9, .phase⟩, ⟨10, .textOnly Departure.lateStores⟩, ⟨11, .textOnly Departure.lateStores⟩, ⟨12, .textOnly Departure.lateStoresUnsure⟩], none⟩) (v := ?_) rfl (by kernel_rfl) (by kernel_rfl) (by kernel_rfl) (fun _ _ _ h => h) (by decide) opW rfl (by kernel_rfl) (by kernel_rfl) (Or.inl ⟨by kernel_rfl, ?_⟩) (by assumption) ?_
              rotate_left
              · (intro w hSw; (try dsimp only at hSw); obtain ⟨d1, d2⟩ := hSw; go_simp; try with_reducible rfl)
              try simp only [Act.put, setIfInBounds_toArray, set_cons_zero, set_cons_succ]
              refine Rb.till_ready (rs := [11]) (by kernel_rfl) (by simp) ?_
              refine Rb.AllT.cons (o := ⟨some 27, .buildSlice 22 1 #[(0, .tmp 26)], 22, "make.go:186", #[⟨10, .data⟩], none⟩) rfl (fun K hK => ?_) (Rb.AllT.nil)
              · go_simp
                try go_wp2_with fail
                refine hK.out _ _ ?_ (fun hH4 => ?_)
                · (try dsimp only); exact KS.out _ (HQ7.out.2.2.2.bel (by repeat (first | exact Bel.rf | with_reducible refine Bel.drwN ?_ _ | with_reducible refine Bel.drw ?_ | with_reducible refine Bel.al ?_ _)))
                clear hK K hH3
                try simp only [Act.put, setIfInBounds_toArray, set_cons_zero, set_cons_succ]
                refine Rb.till_ready (rs := [12]) (by kernel_rfl) (by simp) ?_
                refine Rb.AllT.cons (o := ⟨some 28, .call { callee := Callee.builtin Builtin.append, args := #[.tmp 25, .tmp 27], argTypes := #[22, 22] }, 22, "make.go:186", #[⟨9, .data⟩, ⟨11, .data⟩, ⟨7, .chain⟩], none⟩) rfl (fun K hK => ?_) (Rb.AllT.nil)
                · refine step_app _ rfl (.tmp 25) (.tmp 27) rfl (w.heap.size + 1 + 1 + 1) v i B rfl (own_bel HQ7.out.1.ov (by repeat (first | exact Bel.rf | with_reducible refine Bel.drwN ?_ _ | with_reducible refine Bel.drw ?_ | with_reducible refine Bel.al ?_ _))) ⟨x7.heap.size, 0, none⟩ 1 1 [2] rfl (zi_bk (L := [2]) ((by repeat (first | (refine Bk.nq _ _ _ ?_; simp; done) | with_reducible refine Bk.drwN ?_ _ | with_reducible refine Bk.drw ?_ | with_reducible refine Bk.al ?_ _)) : Bk _ x7.heap.size 3 (zs [2]).toArray) 1 rfl) HI1.out (by have := HQ7.out.1.sz; simp; omega) ?_; intro v12 x12 h12 hg12 ha12; obtain ⟨A12, c12, hv12, _⟩ := own_any h12; subst hv12; have HQ12 : Hid (Wq g (w.heap.size + 1 + 1 + 1) w x12 (.slice A7 (i + 1) c7) (.slice A12 (i + 1) c12) (i + 1) (i + 1) (S ++ [s]) (B ++ [2]) ∧ Bk x12 w.heap.size 28 #[.int .i64 k, .int .i64 b, .int .i64 q, .int .i64 (m : Int), .int .i64 (n : Int), .slice A nc cc] ∧ Bk x12 (w.heap.size + 1) 32 #[.slice none 0 0, .slice none 0 0] ∧ Bk x12 (w.heap.size + 1 + 1) 32 #[u, v]) := ⟨((HQ7.out.1.up (by repeat (first | exact Bel.rf | with_reducible refine Bel.drwN ?_ _ | with_reducible refine Bel.drw ?_ | with_reducible refine Bel.al ?_ _))).sx.ax h12 hg12 ha12).sx, bk_grw (HQ7.out.2.1.bel (by repeat (first | exact Bel.rf | with_reducible refine Bel.drwN ?_ _ | with_reducible refine Bel.drw ?_ | with_reducible refine Bel.al ?_ _))) hg12 (fun e => by have := (HQ7.out.1.ov.lt _ e).1; omega), bk_grw (HQ7.out.2.2.1.bel (by repeat (first | exact Bel.rf | with_reducible refine Bel.drwN ?_ _ | with_reducible refine Bel.drw ?_ | with_reducible refine Bel.al ?_ _))) hg12 (fun e => by have := (HQ7.out.1.ov.lt _ e).1; omega), bk_grw (HQ7.out.2.2.2.bel (by repeat (first | exact Bel.rf | with_reducible refine Bel.drwN ?_ _ | with_reducible refine Bel.drw ?_ | with_reducible refine Bel.al ?_ _))) hg12 (fun e => by have := (HQ7.out.1.ov.lt _ e).1; omega)⟩; have y0 := HQ12.out.2.2.2.cell 0; have y1 := HQ12.out.2.2.2.cell 1; have z0 := HQ12.out.2.2.2.fr 0; have z1 := HQ12.out.2.2.2.fr 1; simp only [List.getElem?_toArray, List.getElem?_cons_zero, List.getElem?_cons_succ] at y0 y1; clear h12 hg12 ha12
                  try go_wp2_with fail
                  refine hK.out _ _ ?_ (fun hH5 => ?_)
                  · (try dsimp only); exact KS.out _ (HQ12.out.2.2.2.bel (by repeat (first | exact Bel.rf | with_reducible refine Bel.drwN ?_ _ | with_reducible refine Bel.drw ?_ | with_reducible refine Bel.al ?_ _)))
                  clear hK K hH4
                  try simp only [Act.put, setIfInBounds_toArray, set_cons_zero, set_cons_succ]
                  refine Rb.till_ready (rs := [14]) (by kernel_rfl) (by simp) ?_
                  refine Rb.AllT.past (o := ⟨none, .store 22 (.tmp 29) (.tmp 23), 0, "make.go:186", #[⟨13, .data⟩, ⟨7, .data⟩, ⟨12, .chain⟩, ⟨0, .phase⟩, ⟨1, .phase⟩, ⟨2, .phase⟩, ⟨3, .phase⟩, ⟨4, .phase⟩, ⟨5, .phase⟩, ⟨6, .phase⟩, ⟨7, .phase⟩, ⟨8, .phase⟩, ⟨9, .phase⟩, ⟨10, .textOnly Departure.lateStores⟩, ⟨11, .textOnly Departure.lateStores⟩, ⟨12, .textOnly Departure.lateStoresUnsure⟩], none⟩) rfl (by kernel_rfl) (fun K hK => ?_) (Rb.AllT.nil)
                  · go_simp
                    try go_wp2_with fail
                    refine hK.out _ _ trivial (fun hH6 => ?_)
                    clear hK K hH5
                    try simp only [Act.put, setIfInBounds_toArray, set_cons_zero, set_cons_succ]
                    refine Rb.till_free (i := 15) (oi := ⟨some 30, .fieldAddr 32 (.tmp 5) 1, 0, "make.go:186", #[⟨0, .phase⟩, ⟨1, .phase⟩, ⟨2, .phase⟩, ⟨3, .phase⟩, ⟨4, .phase⟩, ⟨5, .phase⟩, ⟨6, .phase⟩, ⟨7, .phase⟩, ⟨8, .phase⟩, ⟨9, .phase⟩, ⟨10, .phase⟩, ⟨11, .phase⟩, ⟨12, .phase⟩, ⟨13, .phase⟩, ⟨14, .phase⟩], none⟩) (v := ?_) rfl (by kernel_rfl) (by kernel_rfl) (by kernel_rfl) (fun _ _ _ h => h) (by decide) (Or.inl ⟨by kernel_rfl, ?_⟩) (fun h => absurd h (by decide)) ?_
                    rotate_left
                    · (intro w hSw; clear hSw; go_simp; try with_reducible rfl)
                    try simp only [Act.put, setIfInBounds_toArray, set_cons_zero, set_cons_succ]
                    refine Rb.till_ready (rs := [16]) (by kernel_rfl) (by simp) ?_
                    refine Rb.AllT.past (o := ⟨none, .store 22 (.tmp 30) (.tmp 28), 0, "make.go:186", #[⟨15, .data⟩, ⟨12, .data⟩, ⟨14, .chain⟩, ⟨0, .phase⟩, ⟨1, .phase⟩, ⟨2, .phase⟩, ⟨3, .phase⟩, ⟨4, .phase⟩, ⟨5, .phase⟩, ⟨6, .phase⟩, ⟨7, .phase⟩, ⟨8, .phase⟩, ⟨9, .phase⟩, ⟨10, .phase⟩, ⟨11, .phase⟩, ⟨12, .phase⟩, ⟨13, .phase⟩, ⟨14, .phase⟩], none⟩) rfl (by kernel_rfl) (fun K hK => ?_) (Rb.AllT.nil)
                    · go_simp
                      try go_wp2_with fail
                      refine hK.out _ _ trivial (fun hH7 => ?_)
                      clear hK K hH6
                      try simp only [Act.put, setIfInBounds_toArray, set_cons_zero, set_cons_succ]
                      refine Rb.till_done (by kernel_rfl) ?_ _
                      refine NoPanic.normal ?_
                      have HFF : Hid (Gd (i + 1) (S ++ [s]) (B ++ [2]) ∧ Wq g (w.heap.size + 1 + 1 + 1) w ((x12.setCell ⟨w.heap.size + 1 + 1, 0, none⟩ (.slice A7 (i + 1) c7)).setCell ⟨w.heap.size + 1 + 1, 1, none⟩ (.slice A12 (i + 1) c12)) (.slice A7 (i + 1) c7) (.slice A12 (i + 1) c12) (i + 1) (i + 1) (S ++ [s]) (B ++ [2]) ∧ Bk ((x12.setCell ⟨w.heap.size + 1 + 1, 0, none⟩ (.slice A7 (i + 1) c7)).setCell ⟨w.heap.size + 1 + 1, 1, none⟩ (.slice A12 (i + 1) c12)) w.heap.size 28 #[.int .i64 k, .int .i64 b, .int .i64 q, .int .i64 (m : Int), .int .i64 (n : Int), .slice A nc cc] ∧ Bk ((x12.setCell ⟨w.heap.size + 1 + 1, 0, none⟩ (.slice A7 (i + 1) c7)).setCell ⟨w.heap.size + 1 + 1, 1, none⟩ (.slice A12 (i + 1) c12)) (w.heap.size + 1) 32 #[.slice none 0 0, .slice none 0 0] ∧ Bk ((x12.setCell ⟨w.heap.size + 1 + 1, 0, none⟩ (.slice A7 (i + 1) c7)).setCell ⟨w.heap.size + 1 + 1, 1, none⟩ (.slice A12 (i + 1) c12)) (w.heap.size + 1 + 1) 32 #[.slice A7 (i + 1) c7, .slice A12 (i + 1) c12]) := ⟨gd_snoc HGD.out (by decide) (by decide) HS5.out.1 (show s < 2 ^ (2 : Int).toNat from HS5.out.2), (HQ12.out.1.st (by omega) (by omega) (by have := HGB.out; omega) _ _).st (by omega) (by omega) (by have := HGB.out; omega) _ _, (HQ12.out.2.1.far (by dsimp only; omega) _).far (by dsimp only; omega) _, (HQ12.out.2.2.1.far (by dsimp only; omega) _).far (by dsimp only; omega) _, (HQ12.out.2.2.2.st 0 _).st 1 _⟩
                      go_wp2_with fail
                      go_roundw
                      case rel => exact ⟨i + 1, _, _, _, _, _, rfl, by go_num, by omega, HFF.out.1, HFF.out.2.1, HFF.out.2.2.1, HFF.out.2.2.2.1, HFF.out.2.2.2.2⟩
                      case measure => simp [intOf]; omega
            · go_simp
              try go_wp2_with fail
              refine hK.out _ _ ?_ (fun hH3 => ?_)
              · (try dsimp only); exact KS.out _ (HQ5.out.2.2.2.bel (by repeat (first | exact Bel.rf | with_reducible refine Bel.drwN ?_ _ | with_reducible refine Bel.drw ?_ | with_reducible refine Bel.al ?_ _)))
              clear hK K hH2
              try simp only [Act.put, setIfInBounds_toArray, set_cons_zero, set_cons_succ]
              refine Rb.till_ready (rs := [7]) (by kernel_rfl) (by simp) ?_
              refine Rb.AllT.cons (o := ⟨some 23, .call { callee := Callee.builtin Builtin.append, args := #[.tmp 17, .tmp 22], argTypes := #[22, 22] }, 22, "make.go:186", #[⟨1, .data⟩, ⟨6, .data⟩, ⟨5, .chain⟩], none⟩) rfl (fun K hK => ?_) (Rb.AllT.nil)
              · refine step_app _ rfl (.tmp 17) (.tmp 22) rfl (w.heap.size + 1 + 1 + 1) u i S rfl (own_bel HQ5.out.1.ou (by repeat (first | exact Bel.rf | with_reducible refine Bel.drwN ?_ _ | with_reducible refine Bel.drw ?_ | with_reducible refine Bel.al ?_ _))) ⟨x5.heap.size, 0, none⟩ 1 1 [s] rfl (zi_bk (L := [s]) ((by repeat (first | (refine Bk.nq _ _ _ ?_; simp; done) | with_reducible refine Bk.drwN ?_ _ | with_reducible refine Bk.drw ?_ | with_reducible refine Bk.al ?_ _)) : Bk _ x5.heap.size 3 (zs [s]).toArray) 1 rfl) HI1.out (by have := HQ5.out.1.sz; simp; omega) ?_; intro v7 x7 h7 hg7 ha7; obtain ⟨A7, c7, hv7, _⟩ := own_any h7; subst hv7; have HQ7 : Hid (Wq g (w.heap.size + 1 + 1 + 1) w x7 (.slice A7 (i + 1) c7) v (i + 1) i (S ++ [s]) B ∧ Bk x7 w.heap.size 28 #[.int .i64 k, .int .i64 b, .int .i64 q, .int .i64 (m : Int), .int .i64 (n : Int), .slice A nc cc] ∧ Bk x7 (w.heap.size + 1) 32 #[.slice none 0 0, .slice none 0 0] ∧ Bk x7 (w.heap.size + 1 + 1) 32 #[u, v]) := ⟨(HQ5.out.1.up (by repeat (first | exact Bel.rf | with_reducible refine Bel.drwN ?_ _ | with_reducible refine Bel.drw ?_ | with_reducible refine Bel.al ?_ _))).ax h7 hg7 ha7, bk_grw (HQ5.out.2.1.bel (by repeat (first | exact Bel.rf | with_reducible refine Bel.drwN ?_ _ | with_reducible refine Bel.drw ?_ | with_reducible refine Bel.al ?_ _))) hg7 (fun e => by have := (HQ5.out.1.ou.lt _ e).1; omega), bk_grw (HQ5.out.2.2.1.bel (by repeat (first | exact Bel.rf | with_reducible refine Bel.drwN ?_ _ | with_reducible refine Bel.drw ?_ | with_reducible refine Bel.al ?_ _))) hg7 (fun e => by have := (HQ5.out.1.ou.lt _ e).1; omega), bk_grw (HQ5.out.2.2.2.bel (by repeat (first | exact Bel.rf | with_reducible refine Bel.drwN ?_ _ | with_reducible refine Bel.drw ?_ | with_reducible refine Bel.al ?_ _))) hg7 (fun e => by have := (HQ5.out.1.ou.lt _ e).1; omega)⟩; have HX7 : Hid (Bk x7 (x5.heap.size + 1) 3 #[.int .i64 2]) := bk_grw ((by repeat (first | (refine Bk.nq _ _ _ ?_; simp; done) | with_reducible refine Bk.drwN ?_ _ | with_reducible refine Bk.drw ?_ | with_reducible refine Bk.al ?_ _)) : Bk _ (x5.heap.size + 1) 3 #[.int .i64 2]) hg7 (fun e => by have := (HQ5.out.1.ou.lt _ e).2; omega); clear h7 hg7 ha7
                try go_wp2_with fail
                refine hK.out _ _ ?_ (fun hH4 => ?_)
                · (try dsimp only); exact KS.out _ (HQ7.out.2.2.2.bel (by repeat (first | exact Bel.rf | with_reducible refine Bel.drwN ?_ _ | with_reducible refine Bel.drw ?_ | with_reducible refine Bel.al ?_ _)))
                clear hK K hH3
                try simp only [Act.put, setIfInBounds_toArray, set_cons_zero, set_cons_succ]
                refine Rb.till_take (i := 13) (oi := ⟨some 29, .fieldAddr 32 (.tmp 5) 0, 0, "make.go:186", #[⟨0, .phase⟩, ⟨1, .phase⟩, ⟨2, .phase⟩, ⟨3, .phase⟩, ⟨4, .phase⟩, ⟨5, .phase⟩, ⟨6, .phase⟩, ⟨7, .phase⟩, ⟨8, .phase⟩, ⟨9, .phase⟩, ⟨10, .textOnly Departure.lateStores⟩, ⟨11, .textOnly Departure.lateStores⟩, ⟨12, .textOnly Departure.lateStoresUnsure⟩], none⟩) (v := ?_) rfl (by kernel_rfl) (by kernel_rfl) (by kernel_rfl) (fun _ _ _ h => h) (by decide) opW rfl (by kernel_rfl) (by kernel_rfl) (Or.inl ⟨by kernel_rfl, ?_⟩) (by assumption) ?_
                rotate_left
                · (intro w hSw; (try dsimp only at hSw); obtain ⟨d1, d2⟩ := hSw; go_simp; try with_reducible rfl)
                try simp only [Act.put, setIfInBounds_toArray, set_cons_zero, set_cons_succ]
                refine Rb.till_ready (rs := [12]) (by kernel_rfl) (by simp) ?_
                refine Rb.AllT.cons (o := ⟨some 28, .call { callee := Callee.builtin Builtin.append, args := #[.tmp 25, .tmp 27], argTypes := #[22, 22] }, 22, "make.go:186", #[⟨9, .data⟩, ⟨11, .data⟩, ⟨7, .chain⟩], none⟩) rfl (fun K hK => ?_) (Rb.AllT.nil)
                · refine step_app _ rfl (.tmp 25) (.tmp 27) rfl (w.heap.size + 1 + 1 + 1) v i B rfl (own_bel HQ7.out.1.ov (by repeat (first | exact Bel.rf | with_reducible refine Bel.drwN ?_ _ | with_reducible refine Bel.drw ?_ | with_reducible refine Bel.al ?_ _))) ⟨x5.heap.size + 1, 0, none⟩ 1 1 [2] rfl (zi_bk (L := [2]) (HX7.out.bel (by repeat (first | exact Bel.rf | with_reducible refine Bel.drwN ?_ _ | with_reducible refine Bel.drw ?_ | with_reducible refine Bel.al ?_ _))) 1 rfl) HI1.out (by have := HQ7.out.1.sz; simp; omega) ?_; intro v12 x12 h12 hg12 ha12; obtain ⟨A12, c12, hv12, _⟩ := own_any h12; subst hv12; have HQ12 : Hid (Wq g (w.heap.size + 1 + 1 + 1) w x12 (.slice A7 (i + 1) c7) (.slice A12 (i + 1) c12) (i + 1) (i + 1) (S ++ [s]) (B ++ [2]) ∧ Bk x12 w.heap.size 28 #[.int .i64 k, .int .i64 b, .int .i64 q, .int .i64 (m : Int), .int .i64 (n : Int), .slice A nc cc] ∧ Bk x12 (w.heap.size + 1) 32 #[.slice none 0 0, .slice none 0 0] ∧ Bk x12 (w.heap.size + 1 + 1) 32 #[u, v]) := ⟨((HQ7.out.1.up (by repeat (first | exact Bel.rf | with_reducible refine Bel.drwN ?_ _ | with_reducible refine Bel.drw ?_ | with_reducible refine Bel.al ?_ _))).sx.ax h12 hg12 ha12).sx, bk_grw (HQ7.out.2.1.bel (by repeat (first | exact Bel.rf | with_reducible refine Bel.drwN ?_ _ | with_reducible refine Bel.drw ?_ | with_reducible refine Bel.al ?_ _))) hg12 (fun e => by have := (HQ7.out.1.ov.lt _ e).1; omega), bk_grw (HQ7.out.2.2.1.bel (by repeat (first | exact Bel.rf | with_reducible refine Bel.drwN ?_ _ | with_reducible refine Bel.drw ?_ | with_reducible refine Bel.al ?_ _))) hg12 (fun e => by have := (HQ7.out.1.ov.lt _ e).1; omega), bk_grw (HQ7.out.2.2.2.bel (by repeat (first | exact Bel.rf | with_reducible refine Bel.drwN ?_ _ | with_reducible refine Bel.drw ?_ | with_reducible refine Bel.al ?_ _))) hg12 (fun e => by have := (HQ7.out.1.ov.lt _ e).1; omega)⟩; have y0 := HQ12.out.2.2.2.cell 0; have y1 := HQ12.out.2.2.2.cell 1; have z0 := HQ12.out.2.2.2.fr 0; have z1 := HQ12.out.2.2.2.fr 1; simp only [List.getElem?_toArray, List.getElem?_cons_zero, List.getElem?_cons_succ] at y0 y1; clear h12 hg12 ha12
                  try go_wp2_with fail
                  refine hK.out _ _ ?_ (fun hH5 => ?_)
                  · (try dsimp only); exact KS.out _ (HQ12.out.2.2.2.bel (by repeat (first | exact Bel.rf | with_reducible refine Bel.drwN ?_ _ | with_reducible refine Bel.drw ?_ | with_reducible refine Bel.al ?_ _)))
                  clear hK K hH4
                  try simp only [Act.put, setIfInBounds_toArray, set_cons_zero, set_cons_succ]
                  refine Rb.till_ready (rs := [14]) (by kernel_rfl) (by simp) ?_
                  refine Rb.AllT.past (o := ⟨none, .store 22 (.tmp 29) (.tmp 23), 0, "make.go:186", #[⟨13, .data⟩, ⟨7, .data⟩, ⟨12, .chain⟩, ⟨0, .phase⟩, ⟨1, .phase⟩, ⟨2, .phase⟩, ⟨3, .phase⟩, ⟨4, .phase⟩, ⟨5, .phase⟩, ⟨6, .phase⟩, ⟨7, .phase⟩, ⟨8, .phase⟩, ⟨9, .phase⟩, ⟨10, .textOnly Departure.lateStores⟩, ⟨11, .textOnly Departure.lateStores⟩, ⟨12, .textOnly Departure.lateStoresUnsure⟩], none⟩) rfl (by kernel_rfl) (fun K hK => ?_) (Rb.AllT.nil)
                  · go_simp
                    try go_wp2_with fail
                    refine hK.out _ _ trivial (fun hH6 => ?_)
                    clear hK K hH5
                    try simp only [Act.put, setIfInBounds_toArray, set_cons_zero, set_cons_succ]
                    refine Rb.till_free (i := 15) (oi := ⟨some 30, .fieldAddr 32 (.tmp 5) 1, 0, "make.go:186", #[⟨0, .phase⟩, ⟨1, .phase⟩, ⟨2, .phase⟩, ⟨3, .phase⟩, ⟨4, .phase⟩, ⟨5, .phase⟩, ⟨6, .phase⟩, ⟨7, .phase⟩, ⟨8, .phase⟩, ⟨9, .phase⟩, ⟨10, .phase⟩, ⟨11, .phase⟩, ⟨12, .phase⟩, ⟨13, .phase⟩, ⟨14, .phase⟩], none⟩) (v := ?_) rfl (by kernel_rfl) (by kernel_rfl) (by kernel_rfl) (fun _ _ _ h => h) (by decide) (Or.inl ⟨by kernel_rfl, ?_⟩) (fun h => absurd h (by decide)) ?_
                    rotate_left
                    · (intro w hSw; clear hSw; go_simp; try with_reducible rfl)
                    try simp only [Act.put, setIfInBounds_toArray, set_cons_zero, set_cons_succ]
                    refine Rb.till_ready (rs := [16]) (by kernel_rfl) (by simp) ?_
                    refine Rb.AllT.past (o := ⟨none, .store 22 (.tmp 30) (.tmp 28), 0, "make.go:186", #[⟨15, .data⟩, ⟨12, .data⟩, ⟨14, .chain⟩, ⟨0, .phase⟩, ⟨1, .phase⟩, ⟨2, .phase⟩, ⟨3, .phase⟩, ⟨4, .phase⟩, ⟨5, .phase⟩, ⟨6, .phase⟩, ⟨7, .phase⟩, ⟨8, .phase⟩, ⟨9, .phase⟩, ⟨10, .phase⟩, ⟨11, .phase⟩, ⟨12, .phase⟩, ⟨13, .phase⟩, ⟨14, .phase⟩], none⟩) rfl (by kernel_rfl) (fun K hK => ?_) (Rb.AllT.nil)
                    · go_simp
                      try go_wp2_with fail
                      refine hK.out _ _ trivial (fun hH7 => ?_)
                      clear hK K hH6
                      try simp only [Act.put, setIfInBounds_toArray, set_cons_zero, set_cons_succ]
                      refine Rb.till_done (by kernel_rfl) ?_ _
                      refine NoPanic.normal ?_
                      have HFF : Hid (Gd (i + 1) (S ++ [s]) (B ++ [2]) ∧ Wq g (w.heap.size + 1 + 1 + 1) w ((x12.setCell ⟨w.heap.size + 1 + 1, 0, none⟩ (.slice A7 (i + 1) c7)).setCell ⟨w.heap.size + 1 + 1, 1, none⟩ (.slice A12 (i + 1) c12)) (.slice A7 (i + 1) c7) (.slice A12 (i + 1) c12) (i + 1) (i + 1) (S ++ [s]) (B ++ [2]) ∧ Bk ((x12.setCell ⟨w.heap.size + 1 + 1, 0, none⟩ (.slice A7 (i + 1) c7)).setCell ⟨w.heap.size + 1 + 1, 1, none⟩ (.slice A12 (i + 1) c12)) w.heap.size 28 #[.int .i64 k, .int .i64 b, .int .i64 q, .int .i64 (m : Int), .int .i64 (n : Int), .slice A nc cc] ∧ Bk ((x12.setCell ⟨w.heap.size + 1 + 1, 0, none⟩ (.slice A7 (i + 1) c7)).setCell ⟨w.heap.size + 1 + 1, 1, none⟩ (.slice A12 (i + 1) c12)) (w.heap.size + 1) 32 #[.slice none 0 0, .slice none 0 0] ∧ Bk ((x12.setCell ⟨w.heap.size + 1 + 1, 0, none⟩ (.slice A7 (i + 1) c7)).setCell ⟨w.heap.size + 1 + 1, 1, none⟩ (.slice A12 (i + 1) c12)) (w.heap.size + 1 + 1) 32 #[.slice A7 (i + 1) c7, .slice A12 (i + 1) c12]) := ⟨gd_snoc HGD.out (by decide) (by decide) HS5.out.1 (show s < 2 ^ (2 : Int).toNat from HS5.out.2), (HQ12.out.1.st (by omega) (by omega) (by have := HGB.out; omega) _ _).st (by omega) (by omega) (by have := HGB.out; omega) _ _, (HQ12.out.2.1.far (by dsimp only; omega) _).far (by dsimp only; omega) _, (HQ12.out.2.2.1.far (by dsimp only; omega) _).far (by dsimp only; omega) _, (HQ12.out.2.2.2.st 0 _).st 1 _⟩
                      go_wp2_with fail
                      go_roundw
                      case rel => exact ⟨i + 1, _, _, _, _, _, rfl, by go_num, by omega, HFF.out.1, HFF.out.2.1, HFF.out.2.2.1, HFF.out.2.2.2.1, HFF.out.2.2.2.2⟩
                      case measure => simp [intOf]; omega
          · go_simp
            try go_wp2_with fail
            refine hK.out _ _ ?_ (fun hH2 => ?_)
            · (try dsimp only); exact KS.out _ (HQ5.out.2.2.2.bel (by repeat (first | exact Bel.rf | with_reducible refine Bel.drwN ?_ _ | with_reducible refine Bel.drw ?_ | with_reducible refine Bel.al ?_ _)))
            clear hK K hH1
            try simp only [Act.put, setIfInBounds_toArray, set_cons_zero, set_cons_succ]
            refine Rb.till_ready (rs := [6]) (by kernel_rfl) (by simp) ?_
            refine Rb.AllT.cons (o := ⟨some 22, .buildSlice 22 1 #[(0, .tmp 21)], 22, "make.go:186", #[⟨5, .data⟩], none⟩) rfl (fun K hK => ?_) (Rb.AllT.nil)
            · go_simp
              try go_wp2_with fail
              refine hK.out _ _ ?_ (fun hH3 => ?_)
              · (try dsimp only); exact KS.out _ (HQ5.out.2.2.2.bel (by repeat (first | exact Bel.rf | with_reducible refine Bel.drwN ?_ _ | with_reducible refine Bel.drw ?_ | with_reducible refine Bel.al ?_ _)))
              clear hK K hH2
              try simp only [Act.put, setIfInBounds_toArray, set_cons_zero, set_cons_succ]
              refine Rb.till_ready (rs := [7]) (by kernel_rfl) (by simp) ?_
              refine Rb.AllT.cons (o := ⟨some 23, .call { callee := Callee.builtin Builtin.append, args := #[.tmp 17, .tmp 22], argTypes := #[22, 22] }, 22, "make.go:186", #[⟨1, .data⟩, ⟨6, .data⟩, ⟨5, .chain⟩], none⟩) rfl (fun K hK => ?_) (Rb.AllT.nil)
              · refine step_app _ rfl (.tmp 17) (.tmp 22) rfl (w.heap.size + 1 + 1 + 1) u i S rfl (own_bel HQ5.out.1.ou (by repeat (first | exact Bel.rf | with_reducible refine Bel.drwN ?_ _ | with_reducible refine Bel.drw ?_ | with_reducible refine Bel.al ?_ _))) ⟨x5.heap.size + 1, 0, none⟩ 1 1 [s] rfl (zi_bk (L := [s]) ((by repeat (first | (refine Bk.nq _ _ _ ?_; simp; done) | with_reducible refine Bk.drwN ?_ _ | with_reducible refine Bk.drw ?_ | with_reducible refine Bk.al ?_ _)) : Bk _ (x5.heap.size + 1) 3 (zs [s]).toArray) 1 rfl) HI1.out (by have := HQ5.out.1.sz; simp; omega) ?_; intro v7 x7 h7 hg7 ha7; obtain ⟨A7, c7, hv7, _⟩ := own_any h7; subst hv7; have HQ7 : Hid (Wq g (w.heap.size + 1 + 1 + 1) w x7 (.slice A7 (i + 1) c7) v (i + 1) i (S ++ [s]) B ∧ Bk x7 w.heap.size 28 #[.int .i64 k, .int .i64 b, .int .i64 q, .int .i64 (m : Int), .int .i64 (n : Int), .slice A nc cc] ∧ Bk x7 (w.heap.size + 1) 32 #[.slice none 0 0, .slice none 0 0] ∧ Bk x7 (w.heap.size + 1 + 1) 32 #[u, v]) := ⟨(HQ5.out.1.up (by repeat (first | exact Bel.rf | with_reducible refine Bel.drwN ?_ _ | with_reducible refine Bel.drw ?_ | with_reducible refine Bel.al ?_ _))).ax h7 hg7 ha7, bk_grw (HQ5.out.2.1.bel (by repeat (first | exact Bel.rf | with_reducible refine Bel.drwN ?_ _ | with_reducible refine Bel.drw ?_ | with_reducible refine Bel.al ?_ _))) hg7 (fun e => by have := (HQ5.out.1.ou.lt _ e).1; omega), bk_grw (HQ5.out.2.2.1.bel (by repeat (first | exact Bel.rf | with_reducible refine Bel.drwN ?_ _ | with_reducible refine Bel.drw ?_ | with_reducible refine Bel.al ?_ _))) hg7 (fun e => by have := (HQ5.out.1.ou.lt _ e).1; omega), bk_grw (HQ5.out.2.2.2.bel (by repeat (first | exact Bel.rf | with_reducible refine Bel.drwN ?_ _ | with_reducible refine Bel.drw ?_ | with_reducible refine Bel.al ?_ _))) hg7 (fun e => by have := (HQ5.out.1.ou.lt _ e).1; omega)⟩; have HX7 : Hid (Bk x7 x5.heap.size 3 #[.int .i64 2]) := bk_grw ((by repeat (first | (refine Bk.nq _ _ _ ?_; simp; done) | with_reducible refine Bk.drwN ?_ _ | with_reducible refine Bk.drw ?_ | with_reducible refine Bk.al ?_ _)) : Bk _ x5.heap.size 3 #[.int .i64 2]) hg7 (fun e => by have := (HQ5.out.1.ou.lt _ e).2; omega); clear h7 hg7 ha7
                try go_wp2_with fail
                refine hK.out _ _ ?_ (fun hH4 => ?_)
                · (try dsimp only); exact KS.out _ (HQ7.out.2.2.2.bel (by repeat (first | exact Bel.rf | with_reducible refine Bel.drwN ?_ _ | with_reducible refine Bel.drw ?_ | with_reducible refine Bel.al ?_ _)))
                clear hK K hH3
                try simp only [Act.put, setIfInBounds_toArray, set_cons_zero, set_cons_succ]
                refine Rb.till_take (i := 13) (oi := ⟨some 29, .fieldAddr 32 (.tmp 5) 0, 0, "make.go:186", #[⟨0, .phase⟩, ⟨1, .phase⟩, ⟨2, .phase⟩, ⟨3, .phase⟩, ⟨4, .phase⟩, ⟨5, .phase⟩, ⟨6, .phase⟩, ⟨7, .phase⟩, ⟨8, .phase⟩, ⟨9, .phase⟩, ⟨10, .textOnly Departure.lateStores⟩, ⟨11, .textOnly Departure.lateStores⟩, ⟨12, .textOnly Departure.lateStoresUnsure⟩], none⟩) (v := ?_) rfl (by kernel_rfl) (by kernel_rfl) (by kernel_rfl) (fun _ _ _ h => h) (by decide) opW rfl (by kernel_rfl) (by kernel_rfl) (Or.inl ⟨by kernel_rfl, ?_⟩) (by assumption) ?_
                rotate_left
                · (intro w hSw; (try dsimp only at hSw); obtain ⟨d1, d2⟩ := hSw; go_simp; try with_reducible rfl)
                try simp only [Act.put, setIfInBounds_toArray, set_cons_zero, set_cons_succ]
                refine Rb.till_ready (rs := [12]) (by kernel_rfl) (by simp) ?_
                refine Rb.AllT.cons (o := ⟨some 28, .call { callee := Callee.builtin Builtin.append, args := #[.tmp 25, .tmp 27], argTypes := #[22, 22] }, 22, "make.go:186", #[⟨9, .data⟩, ⟨11, .data⟩, ⟨7, .chain⟩], none⟩) rfl (fun K hK => ?_) (Rb.AllT.nil)
                · refine step_app _ rfl (.tmp 25) (.tmp 27) rfl (w.heap.size + 1 + 1 + 1) v i B rfl (own_bel HQ7.out.1.ov (by repeat (first | exact Bel.rf | with_reducible refine Bel.drwN ?_ _ | with_reducible refine Bel.drw ?_ | with_reducible refine Bel.al ?_ _))) ⟨x5.heap.size, 0, none⟩ 1 1 [2] rfl (zi_bk (L := [2]) (HX7.out.bel (by repeat (first | exact Bel.rf | with_reducible refine Bel.drwN ?_ _ | with_reducible refine Bel.drw ?_ | with_reducible refine Bel.al ?_ _))) 1 rfl) HI1.out (by have := HQ7.out.1.sz; simp; omega) ?_; intro v12 x12 h12 hg12 ha12; obtain ⟨A12, c12, hv12, _⟩ := own_any h12; subst hv12; have HQ12 : Hid (Wq g (w.heap.size + 1 + 1 + 1) w x12 (.slice A7 (i + 1) c7) (.slice A12 (i + 1) c12) (i + 1) (i + 1) (S ++ [s]) (B ++ [2]) ∧ Bk x12 w.heap.size 28 #[.int .i64 k, .int .i64 b, .int .i64 q, .int .i64 (m : Int), .int .i64 (n : Int), .slice A nc cc] ∧ Bk x12 (w.heap.size + 1) 32 #[.slice none 0 0, .slice none 0 0] ∧ Bk x12 (w.heap.size + 1 + 1) 32 #[u, v]) := ⟨((HQ7.out.1.up (by repeat (first | exact Bel.rf | with_reducible refine Bel.drwN ?_ _ | with_reducible refine Bel.drw ?_ | with_reducible refine Bel.al ?_ _))).sx.ax h12 hg12 ha12).sx, bk_grw (HQ7.out.2.1.bel (by repeat (first | exact Bel.rf | with_reducible refine Bel.drwN ?_ _ | with_reducible refine Bel.drw ?_ | with_reducible refine Bel.al ?_ _))) hg12 (fun e => by have := (HQ7.out.1.ov.lt _ e).1; omega), bk_grw (HQ7.out.2.2.1.bel (by repeat (first | exact Bel.rf | with_reducible refine Bel.drwN ?_ _ | with_reducible refine Bel.drw ?_ | with_reducible refine Bel.al ?_ _))) hg12 (fun e => by have := (HQ7.out.1.ov.lt _ e).1; omega), bk_grw (HQ7.out.2.2.2.bel (by repeat (first | exact Bel.rf | with_reducible refine Bel.drwN ?_ _ | with_reducible refine Bel.drw ?_ | with_reducible refine Bel.al ?_ _))) hg12 (fun e => by have := (HQ7.out.1.ov.lt _ e).1; omega)⟩; have y0 := HQ12.out.2.2.2.cell 0; have y1 := HQ12.out.2.2.2.cell 1; have z0 := HQ12.out.2.2.2.fr 0; have z1 := HQ12.out.2.2.2.fr 1; simp only [List.getElem?_toArray, List.getElem?_cons_zero, List.getElem?_cons_succ] at y0 y1; clear h12 hg12 ha12
                  try go_wp2_with fail
                  refine hK.out _ _ ?_ (fun hH5 => ?_)
                  · (try dsimp only); exact KS.out _ (HQ12.out.2.2.2.bel (by repeat (first | exact Bel.rf | with_reducible refine Bel.drwN ?_ _ | with_reducible refine Bel.drw ?_ | with_reducible refine Bel.al ?_ _)))
                  clear hK K hH4
                  try simp only [Act.put, setIfInBounds_toArray, set_cons_zero, set_cons_succ]
                  refine Rb.till_ready (rs := [14]) (by kernel_rfl) (by simp) ?_
                  refine Rb.AllT.past (o := ⟨none, .store 22 (.tmp 29) (.tmp 23), 0, "make.go:186", #[⟨13, .data⟩, ⟨7, .data⟩, ⟨12, .chain⟩, ⟨0, .phase⟩, ⟨1, .phase⟩, ⟨2, .phase⟩, ⟨3, .phase⟩, ⟨4, .phase⟩, ⟨5, .phase⟩, ⟨6, .phase⟩, ⟨7, .phase⟩, ⟨8, .phase⟩, ⟨9, .phase⟩, ⟨10, .textOnly Departure.lateStores⟩, ⟨11, .textOnly Departure.lateStores⟩, ⟨12, .textOnly Departure.lateStoresUnsure⟩], none⟩) rfl (by kernel_rfl) (fun K hK => ?_) (Rb.AllT.nil)
                  · go_simp
                    try go_wp2_with fail
                    refine hK.out _ _ trivial (fun hH6 => ?_)
                    clear hK K hH5
                    try simp only [Act.put, setIfInBounds_toArray, set_cons_zero, set_cons_succ]
                    refine Rb.till_free (i := 15) (oi := ⟨some 30, .fieldAddr 32 (.tmp 5) 1, 0, "make.go:186", #[⟨0, .phase⟩, ⟨1, .phase⟩, ⟨2, .phase⟩, ⟨3, .phase⟩, ⟨4, .phase⟩, ⟨5, .phase⟩, ⟨6, .phase⟩, ⟨7, .phase⟩, ⟨8, .phase⟩, ⟨9, .phase⟩, ⟨10, .phase⟩, ⟨11, .phase⟩, ⟨12, .phase⟩, ⟨13, .phase⟩, ⟨14, .phase⟩], none⟩) (v := ?_) rfl (by kernel_rfl) (by kernel_rfl) (by kernel_rfl) (fun _ _ _ h => h) (by decide) (Or.inl ⟨by kernel_rfl, ?_⟩) (fun h => absurd h (by decide)) ?_
                    rotate_left
                    · (intro w hSw; clear hSw; go_simp; try with_reducible rfl)
                    try simp only [Act.put, setIfInBounds_toArray, set_cons_zero, set_cons_succ]
                    refine Rb.till_ready (rs := [16]) (by kernel_rfl) (by simp) ?_
                    refine Rb.AllT.past (o := ⟨none, .store 22 (.tmp 30) (.tmp 28), 0, "make.go:186", #[⟨15, .data⟩, ⟨12, .data⟩, ⟨14, .chain⟩, ⟨0, .phase⟩, ⟨1, .phase⟩, ⟨2, .phase⟩, ⟨3, .phase⟩, ⟨4, .phase⟩, ⟨5, .phase⟩, ⟨6, .phase⟩, ⟨7, .phase⟩, ⟨8, .phase⟩, ⟨9, .phase⟩, ⟨10, .phase⟩, ⟨11, .phase⟩, ⟨12, .phase⟩, ⟨13, .phase⟩, ⟨14, .phase⟩], none⟩) rfl (by kernel_rfl) (fun K hK => ?_) (Rb.AllT.nil)
                    · go_simp
                      try go_wp2_with fail
                      refine hK.out _ _ trivial (fun hH7 => ?_)
                      clear hK K hH6
                      try simp only [Act.put, setIfInBounds_toArray, set_cons_zero, set_cons_succ]
                      refine Rb.till_done (by kernel_rfl) ?_ _
                      refine NoPanic.normal ?_
                      have HFF : Hid (Gd (i + 1) (S ++ [s]) (B ++ [2]) ∧ Wq g (w.heap.size + 1 + 1 + 1) w ((x12.setCell ⟨w.heap.size + 1 + 1, 0, none⟩ (.slice A7 (i + 1) c7)).setCell ⟨w.heap.size + 1 + 1, 1, none⟩ (.slice A12 (i + 1) c12)) (.slice A7 (i + 1) c7) (.slice A12 (i + 1) c12) (i + 1) (i + 1) (S ++ [s]) (B ++ [2]) ∧ Bk ((x12.setCell ⟨w.heap.size + 1 + 1, 0, none⟩ (.slice A7 (i + 1) c7)).setCell ⟨w.heap.size + 1 + 1, 1, none⟩ (.slice A12 (i + 1) c12)) w.heap.size 28 #[.int .i64 k, .int .i64 b, .int .i64 q, .int .i64 (m : Int), .int .i64 (n : Int), .slice A nc cc] ∧ Bk ((x12.setCell ⟨w.heap.size + 1 + 1, 0, none⟩ (.slice A7 (i + 1) c7)).setCell ⟨w.heap.size + 1 + 1, 1, none⟩ (.slice A12 (i + 1) c12)) (w.heap.size + 1) 32 #[.slice none 0 0, .slice none 0 0] ∧ Bk ((x12.setCell ⟨w.heap.size + 1 + 1, 0, none⟩ (.slice A7 (i + 1) c7)).setCell ⟨w.heap.size + 1 + 1, 1, none⟩ (.slice A12 (i + 1) c12)) (w.heap.size + 1 + 1) 32 #[.slice A7 (i + 1) c7, .slice A12 (i + 1) c12]) := ⟨gd_snoc HGD.out (by decide) (by decide) HS5.out.1 (show s < 2 ^ (2 : Int).toNat from HS5.out.2), (HQ12.out.1.st (by omega) (by omega) (by have := HGB.out; omega) _ _).st (by omega) (by omega) (by have := HGB.out; omega) _ _, (HQ12.out.2.1.far (by dsimp only; omega) _).far (by dsimp only; omega) _, (HQ12.out.2.2.1.far (by dsimp only; omega) _).far (by dsimp only; omega) _, (HQ12.out.2.2.2.st 0 _).st 1 _⟩
                      go_wp2_with fail
                      go_roundw
                      case rel => exact ⟨i + 1, _, _, _, _, _, rfl, by go_num, by omega, HFF.out.1, HFF.out.2.1, HFF.out.2.2.1, HFF.out.2.2.2.1, HFF.out.2.2.2.2⟩
                      case measure => simp [intOf]; omega
        · go_simp
          try go_wp2_with fail
          refine hK.out _ _ ?_ (fun hH1 => ?_)
          · (try dsimp only); exact KS.out _ (HQ6.out.2.2.2.bel (by repeat (first | exact Bel.rf | with_reducible refine Bel.drwN ?_ _ | with_reducible refine Bel.drw ?_ | with_reducible refine Bel.al ?_ _)))
          clear hK K hH0
          try simp only [Act.put, setIfInBounds_toArray, set_cons_zero, set_cons_succ]
          refine Rb.till_ready (rs := [5]) (by kernel_rfl) (by simp) ?_
          refine Rb.AllT.cons (o := ⟨some 21, .call { callee := Callee.value (.func 21), args := #[.tmp 18, .tmp 20], argTypes := #[23, 3] }, 3, "make.go:186", #[⟨2, .data⟩, ⟨4, .data⟩], none⟩) rfl (fun K hK => ?_) (Rb.AllT.nil)
          · go_simp
            go_at_call 21; (try simp only [wv1, wv2]); refine (n_any g 4 (by decide) (by decide) _ (HQ6.out.1.ok.bel (by repeat (first | exact Bel.rf | with_reducible refine Bel.drwN ?_ _ | with_reducible refine Bel.drw ?_ | with_reducible refine Bel.al ?_ _)))).mono ?_; rintro e x5 ⟨s, rfl, s0, s1, ho5, hc5⟩; have hcd : Ch g w6 x5 := (Ch.of_bel (by repeat (first | exact Bel.rf | with_reducible refine Bel.drwN ?_ _ | with_reducible refine Bel.drw ?_ | with_reducible refine Bel.al ?_ _))).tr hc5; have HQ5 : Hid (Wq g (w.heap.size + 1 + 1 + 1) w x5 u v i i S B ∧ Bk x5 w.heap.size 28 #[.int .i64 k, .int .i64 b, .int .i64 q, .int .i64 (m : Int), .int .i64 (n : Int), .slice A nc cc] ∧ Bk x5 (w.heap.size + 1) 32 #[.slice none 0 0, .slice none 0 0] ∧ Bk x5 (w.heap.size + 1 + 1) 32 #[u, v]) := ⟨HQ6.out.1.to ho5 hcd, hcd.bk HQ6.out.2.1 (by have := HGB.out; omega), hcd.bk HQ6.out.2.2.1 (by have := HGB.out; omega), hcd.bk HQ6.out.2.2.2 (by have := HGB.out; omega)⟩; have HS5 := Lib.hid (And.intro s0 s1); have HX5 : Hid (Bk x5 w6.heap.size 3 #[.int .i64 2]) := hc5.bk ((by repeat (first | (refine Bk.nq _ _ _ ?_; simp; done) | with_reducible refine Bk.drwN ?_ _ | with_reducible refine Bk.drw ?_ | with_reducible refine Bk.al ?_ _)) : Bk _ w6.heap.size 3 #[.int .i64 2]) (by have := HQ6.out.1.gb; have := HQ6.out.1.sz; omega); clear ho5 hc5 hcd s0 s1
            try go_wp2_with fail
            refine hK.out _ _ ?_ (fun hH2 => ?_)
            · (try dsimp only); exact KS.out _ (HQ5.out.2.2.2.bel (by repeat (first | exact Bel.rf | with_reducible refine Bel.drwN ?_ _ | with_reducible refine Bel.drw ?_ | with_reducible refine Bel.al ?_ _)))
            clear hK K hH1
            try simp only [Act.put, setIfInBounds_toArray, set_cons_zero, set_cons_succ]
            refine Rb.till_ready (rs := [6]) (by kernel_rfl) (by simp) ?_
            refine Rb.AllT.cons (o := ⟨some 22, .buildSlice 22 1 #[(0, .tmp 21)], 22, "make.go:186", #[⟨5, .data⟩], none⟩) rfl (fun K hK => ?_) (Rb.AllT.nil)
            · go_simp
              try go_wp2_with fail
              refine hK.out _ _ ?_ (fun hH3 => ?_)
              · (try dsimp only); exact KS.out _ (HQ5.out.2.2.2.bel (by repeat (first | exact Bel.rf | with_reducible refine Bel.drwN ?_ _ | with_reducible refine Bel.drw ?_ | with_reducible refine Bel.al ?_ _)))
              clear hK K hH2
              try simp only [Act.put, setIfInBounds_toArray, set_cons_zero, set_cons_succ]
              refine Rb.till_ready (rs := [7]) (by kernel_rfl) (by simp) ?_
              refine Rb.AllT.cons (o := ⟨some 23, .call { callee := Callee.builtin Builtin.append, args := #[.tmp 17, .tmp 22], argTypes := #[22, 22] }, 22, "make.go:186", #[⟨1, .data⟩, ⟨6, .data⟩, ⟨5, .chain⟩], none⟩) rfl (fun K hK => ?_) (Rb.AllT.nil)
              · refine step_app _ rfl (.tmp 17) (.tmp 22) rfl (w.heap.size + 1 + 1 + 1) u i S rfl (own_bel HQ5.out.1.ou (by repeat (first | exact Bel.rf | with_reducible refine Bel.drwN ?_ _ | with_reducible refine Bel.drw ?_ | with_reducible refine Bel.al ?_ _))) ⟨x5.heap.size, 0, none⟩ 1 1 [s] rfl (zi_bk (L := [s]) ((by repeat (first | (refine Bk.nq _ _ _ ?_; simp; done) | with_reducible refine Bk.drwN ?_ _ | with_reducible refine Bk.drw ?_ | with_reducible refine Bk.al ?_ _)) : Bk _ x5.heap.size 3 (zs [s]).toArray) 1 rfl) HI1.out (by have := HQ5.out.1.sz; simp; omega) ?_; intro v7 x7 h7 hg7 ha7; obtain ⟨A7, c7, hv7, _⟩ := own_any h7; subst hv7; have HQ7 : Hid (Wq g (w.heap.size + 1 + 1 + 1) w x7 (.slice A7 (i + 1) c7) v (i + 1) i (S ++ [s]) B ∧ Bk x7 w.heap.size 28 #[.int .i64 k, .int .i64 b, .int .i64 q, .int .i64 (m : Int), .int .i64 (n : Int), .slice A nc cc] ∧ Bk x7 (w.heap.size + 1) 32 #[.slice none 0 0, .slice none 0 0] ∧ Bk x7 (w.heap.size + 1 + 1) 32 #[u, v]) := ⟨(HQ5.out.1.up (by repeat (first | exact Bel.rf | with_reducible refine Bel.drwN ?_ _ | with_reducible refine Bel.drw ?_ | with_reducible refine Bel.al ?_ _))).ax h7 hg7 ha7, bk_grw (HQ5.out.2.1.bel (by repeat (first | exact Bel.rf | with_reducible refine Bel.drwN ?_ _ | with_reducible refine Bel.drw ?_ | with_reducible refine Bel.al ?_ _))) hg7 (fun e => by have := (HQ5.out.1.ou.lt _ e).1; omega), bk_grw (HQ5.out.2.2.1.bel (by repeat (first | exact Bel.rf | with_reducible refine Bel.drwN ?_ _ | with_reducible refine Bel.drw ?_ | with_reducible refine Bel.al ?_ _))) hg7 (fun e => by have := (HQ5.out.1.ou.lt _ e).1; omega), bk_grw (HQ5.out.2.2.2.bel (by repeat (first | exact Bel.rf | with_reducible refine Bel.drwN ?_ _ | with_reducible refine Bel.drw ?_ | with_reducible refine Bel.al ?_ _))) hg7 (fun e => by have := (HQ5.out.1.ou.lt _ e).1; omega)⟩; have HX7 : Hid (Bk x7 w6.heap.size 3 #[.int .i64 2]) := bk_grw (HX5.out.bel (by repeat (first | exact Bel.rf | with_reducible refine Bel.drwN ?_ _ | with_reducible refine Bel.drw ?_ | with_reducible refine Bel.al ?_ _))) hg7 (fun e => by have := HB6.out _ e; omega); clear h7 hg7 ha7
                try go_wp2_with fail
                refine hK.out _ _ ?_ (fun hH4 => ?_)
                · (try dsimp only); exact KS.out _ (HQ7.out.2.2.2.bel (by repeat (first | exact Bel.rf | with_reducible refine Bel.drwN ?_ _ | with_reducible refine Bel.drw ?_ | with_reducible refine Bel.al ?_ _)))
                clear hK K hH3
                try simp only [Act.put, setIfInBounds_toArray, set_cons_zero, set_cons_succ]
                refine Rb.till_take (i := 13) (oi := ⟨some 29, .fieldAddr 32 (.tmp 5) 0, 0, "make.go:186", #[⟨0, .phase⟩, ⟨1, .phase⟩, ⟨2, .phase⟩, ⟨3, .phase⟩, ⟨4, .phase⟩, ⟨5, .phase⟩, ⟨6, .phase⟩, ⟨7, .phase⟩, ⟨8, .phase⟩, ⟨9, .phase⟩, ⟨10, .textOnly Departure.lateStores⟩, ⟨11, .textOnly Departure.lateStores⟩, ⟨12, .textOnly Departure.lateStoresUnsure⟩], none⟩) (v := ?_) rfl (by kernel_rfl) (by kernel_rfl) (by kernel_rfl) (fun _ _ _ h => h) (by decide) opW rfl (by kernel_rfl) (by kernel_rfl) (Or.inl ⟨by kernel_rfl, ?_⟩) (by assumption) ?_
                rotate_left
                · (intro w hSw; (try dsimp only at hSw); obtain ⟨d1, d2⟩ := hSw; go_simp; try with_reducible rfl)
                try simp only [Act.put, setIfInBounds_toArray, set_cons_zero, set_cons_succ]
                refine Rb.till_ready (rs := [12]) (by kernel_rfl) (by simp) ?_
                refine Rb.AllT.cons (o := ⟨some 28, .call { callee := Callee.builtin Builtin.append, args := #[.tmp 25, .tmp 27], argTypes := #[22, 22] }, 22, "make.go:186", #[⟨9, .data⟩, ⟨11, .data⟩, ⟨7, .chain⟩], none⟩) rfl (fun K hK => ?_) (Rb.AllT.nil)
                · refine step_app _ rfl (.tmp 25) (.tmp 27) rfl (w.heap.size + 1 + 1 + 1) v i B rfl (own_bel HQ7.out.1.ov (by repeat (first | exact Bel.rf | with_reducible refine Bel.drwN ?_ _ | with_reducible refine Bel.drw ?_ | with_reducible refine Bel.al ?_ _))) ⟨w6.heap.size, 0, none⟩ 1 1 [2] rfl (zi_bk (L := [2]) (HX7.out.bel (by repeat (first | exact Bel.rf | with_reducible refine Bel.drwN ?_ _ | with_reducible refine Bel.drw ?_ | with_reducible refine Bel.al ?_ _))) 1 rfl) HI1.out (by have := HQ7.out.1.sz; simp; omega) ?_; intro v12 x12 h12 hg12 ha12; obtain ⟨A12, c12, hv12, _⟩ := own_any h12; subst hv12; have HQ12 : Hid (Wq g (w.heap.size + 1 + 1 + 1) w x12 (.slice A7 (i + 1) c7) (.slice A12 (i + 1) c12) (i + 1) (i + 1) (S ++ [s]) (B ++ [2]) ∧ Bk x12 w.heap.size 28 #[.int .i64 k, .int .i64 b, .int .i64 q, .int .i64 (m : Int), .int .i64 (n : Int), .slice A nc cc] ∧ Bk x12 (w.heap.size + 1) 32 #[.slice none 0 0, .slice none 0 0] ∧ Bk x12 (w.heap.size + 1 + 1) 32 #[u, v]) := ⟨((HQ7.out.1.up (by repeat (first | exact Bel.rf | with_reducible refine Bel.drwN ?_ _ | with_reducible refine Bel.drw ?_ | with_reducible refine Bel.al ?_ _))).sx.ax h12 hg12 ha12).sx, bk_grw (HQ7.out.2.1.bel (by repeat (first | exact Bel.rf | with_reducible refine Bel.drwN ?_ _ | with_reducible refine Bel.drw ?_ | with_reducible refine Bel.al ?_ _))) hg12 (fun e => by have := (HQ7.out.1.ov.lt _ e).1; omega), bk_grw (HQ7.out.2.2.1.bel (by repeat (first | exact Bel.rf | with_reducible refine Bel.drwN ?_ _ | with_reducible refine Bel.drw ?_ | with_reducible refine Bel.al ?_ _))) hg12 (fun e => by have := (HQ7.out.1.ov.lt _ e).1; omega), bk_grw (HQ7.out.2.2.2.bel (by repeat (first | exact Bel.rf | with_reducible refine Bel.drwN ?_ _ | with_reducible refine Bel.drw ?_ | with_reducible refine Bel.al ?_ _))) hg12 (fun e => by have := (HQ7.out.1.ov.lt _ e).1; omega)⟩; have y0 := HQ12.out.2.2.2.cell 0; have y1 := HQ12.out.2.2.2.cell 1; have z0 := HQ12.out.2.2.2.fr 0; have z1 := HQ12.out.2.2.2.fr 1; simp only [List.getElem?_toArray, List.getElem?_cons_zero, List.getElem?_cons_succ] at y0 y1; clear h12 hg12 ha12
                  try go_wp2_with fail
                  refine hK.out _ _ ?_ (fun hH5 => ?_)
                  · (try dsimp only); exact KS.out _ (HQ12.out.2.2.2.bel (by repeat (first | exact Bel.rf | with_reducible refine Bel.drwN ?_ _ | with_reducible refine Bel.drw ?_ | with_reducible refine Bel.al ?_ _)))
                  clear hK K hH4
                  try simp only [Act.put, setIfInBounds_toArray, set_cons_zero, set_cons_succ]
                  refine Rb.till_ready (rs := [14]) (by kernel_rfl) (by simp) ?_
                  refine Rb.AllT.past (o := ⟨none, .store 22 (.tmp 29) (.tmp 23), 0, "make.go:186", #[⟨13, .data⟩, ⟨7, .data⟩, ⟨12, .chain⟩, ⟨0, .phase⟩, ⟨1, .phase⟩, ⟨2, .phase⟩, ⟨3, .phase⟩, ⟨4, .phase⟩, ⟨5, .phase⟩, ⟨6, .phase⟩, ⟨7, .phase⟩, ⟨8, .phase⟩, ⟨9, .phase⟩, ⟨10, .textOnly Departure.lateStores⟩, ⟨11, .textOnly Departure.lateStores⟩, ⟨12, .textOnly Departure.lateStoresUnsure⟩], none⟩) rfl (by kernel_rfl) (fun K hK => ?_) (Rb.AllT.nil)
                  · go_simp
                    try go_wp2_with fail
                    refine hK.out _ _ trivial (fun hH6 => ?_)
                    clear hK K hH5
                    try simp only [Act.put, setIfInBounds_toArray, set_cons_zero, set_cons_succ]
                    refine Rb.till_free (i := 15) (oi := ⟨some 30, .fieldAddr 32 (.tmp 5) 1, 0, "make.go:186", #[⟨0, .phase⟩, ⟨1, .phase⟩, ⟨2, .phase⟩, ⟨3, .phase⟩, ⟨4, .phase⟩, ⟨5, .phase⟩, ⟨6, .phase⟩, ⟨7, .phase⟩, ⟨8, .phase⟩, ⟨9, .phase⟩, ⟨10, .phase⟩, ⟨11, .phase⟩, ⟨12, .phase⟩, ⟨13, .phase⟩, ⟨14, .phase⟩], none⟩) (v := ?_) rfl (by kernel_rfl) (by kernel_rfl) (by kernel_rfl) (fun _ _ _ h => h) (by decide) (Or.inl ⟨by kernel_rfl, ?_⟩) (fun h => absurd h (by decide)) ?_
                    rotate_left
                    · (intro w hSw; clear hSw; go_simp; try with_reducible rfl)
                    try simp only [Act.put, setIfInBounds_toArray, set_cons_zero, set_cons_succ]
                    refine Rb.till_ready (rs := [16]) (by kernel_rfl) (by simp) ?_
                    refine Rb.AllT.past (o := ⟨none, .store 22 (.tmp 30) (.tmp 28), 0, "make.go:186", #[⟨15, .data⟩, ⟨12, .data⟩, ⟨14, .chain⟩, ⟨0, .phase⟩, ⟨1, .phase⟩, ⟨2, .phase⟩, ⟨3, .phase⟩, ⟨4, .phase⟩, ⟨5, .phase⟩, ⟨6, .phase⟩, ⟨7, .phase⟩, ⟨8, .phase⟩, ⟨9, .phase⟩, ⟨10, .phase⟩, ⟨11, .phase⟩, ⟨12, .phase⟩, ⟨13, .phase⟩, ⟨14, .phase⟩], none⟩) rfl (by kernel_rfl) (fun K hK => ?_) (Rb.AllT.nil)
                    · go_simp
                      try go_wp2_with fail
                      refine hK.out _ _ trivial (fun hH7 => ?_)
                      clear hK K hH6
                      try simp only [Act.put, setIfInBounds_toArray, set_cons_zero, set_cons_succ]
                      refine Rb.till_done (by kernel_rfl) ?_ _
                      refine NoPanic.normal ?_
                      have HFF : Hid (Gd (i + 1) (S ++ [s]) (B ++ [2]) ∧ Wq g (w.heap.size + 1 + 1 + 1) w ((x12.setCell ⟨w.heap.size + 1 + 1, 0, none⟩ (.slice A7 (i + 1) c7)).setCell ⟨w.heap.size + 1 + 1, 1, none⟩ (.slice A12 (i + 1) c12)) (.slice A7 (i + 1) c7) (.slice A12 (i + 1) c12) (i + 1) (i + 1) (S ++ [s]) (B ++ [2]) ∧ Bk ((x12.setCell ⟨w.heap.size + 1 + 1, 0, none⟩ (.slice A7 (i + 1) c7)).setCell ⟨w.heap.size + 1 + 1, 1, none⟩ (.slice A12 (i + 1) c12)) w.heap.size 28 #[.int .i64 k, .int .i64 b, .int .i64 q, .int .i64 (m : Int), .int .i64 (n : Int), .slice A nc cc] ∧ Bk ((x12.setCell ⟨w.heap.size + 1 + 1, 0, none⟩ (.slice A7 (i + 1) c7)).setCell ⟨w.heap.size + 1 + 1, 1, none⟩ (.slice A12 (i + 1) c12)) (w.heap.size + 1) 32 #[.slice none 0 0, .slice none 0 0] ∧ Bk ((x12.setCell ⟨w.heap.size + 1 + 1, 0, none⟩ (.slice A7 (i + 1) c7)).setCell ⟨w.heap.size + 1 + 1, 1, none⟩ (.slice A12 (i + 1) c12)) (w.heap.size + 1 + 1) 32 #[.slice A7 (i + 1) c7, .slice A12 (i + 1) c12]) := ⟨gd_snoc HGD.out (by decide) (by decide) HS5.out.1 (show s < 2 ^ (2 : Int).toNat from HS5.out.2), (HQ12.out.1.st (by omega) (by omega) (by have := HGB.out; omega) _ _).st (by omega) (by omega) (by have := HGB.out; omega) _ _, (HQ12.out.2.1.far (by dsimp only; omega) _).far (by dsimp only; omega) _, (HQ12.out.2.2.1.far (by dsimp only; omega) _).far (by dsimp only; omega) _, (HQ12.out.2.2.2.st 0 _).st 1 _⟩
                      go_wp2_with fail
                      go_roundw
                      case rel => exact ⟨i + 1, _, _, _, _, _, rfl, by go_num, by omega, HFF.out.1, HFF.out.2.1, HFF.out.2.2.1, HFF.out.2.2.2.1, HFF.out.2.2.2.2⟩
                      case measure => simp [intOf]; omega
      · have wv1 : IntKind.i64.wrap 8 = 8 := by decide
        have wv2 : IntKind.i64.wrap (2 ^ 3) = 8 := by decide
        clear HY
        go_wp2_with fail
        refine wp_region_noPanic ?_
        refine Rb.wp_region_till (S := fun W => W.cell? (⟨w.heap.size + 1 + 1, 0, none⟩ : Addr) = some u ∧ W.cell? (⟨w.heap.size + 1 + 1, 1, none⟩ : Addr) = some v) 14 (by kernel_rfl) ?_ (fun hH0 => ?_)
        · (try dsimp only); exact KS.out _ (HQ6.out.2.2.2.bel (by repeat (first | exact Bel.rf | with_reducible refine Bel.drwN ?_ _ | with_reducible refine Bel.drw ?_ | with_reducible refine Bel.al ?_ _)))
        refine Rb.till_take (i := 0) (oi := ⟨some 16, .fieldAddr 32 (.tmp 5) 0, 0, "make.go:186", #[], none⟩) (v := ?_) rfl (by kernel_rfl) (by kernel_rfl) (by kernel_rfl) (fun _ _ _ h => h) (by decide) opW rfl (by kernel_rfl) (by kernel_rfl) (Or.inl ⟨by kernel_rfl, ?_⟩) (by assumption) ?_
        rotate_left
        · (intro w hSw; (try dsimp only at hSw); obtain ⟨d1, d2⟩ := hSw; go_simp; try with_reducible rfl)
        try simp only [Act.put, setIfInBounds_toArray, set_cons_zero, set_cons_succ]
        refine Rb.till_take (i := 1) (oi := ⟨some 17, .load 22 (.tmp 16), 22, "make.go:186", #[⟨0, .data⟩], none⟩) (v := ?_) rfl (by kernel_rfl) (by kernel_rfl) (by kernel_rfl) (fun _ _ _ h => h) (by decide) opW rfl (by kernel_rfl) (by kernel_rfl) (Or.inl ⟨by kernel_rfl, ?_⟩) (by assumption) ?_
        rotate_left
        · (intro w hSw; (try dsimp only at hSw); obtain ⟨d1, d2⟩ := hSw; go_simp; try with_reducible rfl)
        try simp only [Act.put, setIfInBounds_toArray, set_cons_zero, set_cons_succ]
        refine Rb.till_take (i := 2) (oi := ⟨some 18, .move (.tmp 0), 23, "make.go:186", #[], none⟩) (v := ?_) rfl (by kernel_rfl) (by kernel_rfl) (by kernel_rfl) (fun _ _ _ h => h) (by decide) opW rfl (by kernel_rfl) (by kernel_rfl) (Or.inl ⟨by kernel_rfl, ?_⟩) (by assumption) ?_
        rotate_left
        · (intro w hSw; (try dsimp only at hSw); obtain ⟨d1, d2⟩ := hSw; go_simp; try with_reducible rfl)
        try simp only [Act.put, setIfInBounds_toArray, set_cons_zero, set_cons_succ]
        refine Rb.till_take (i := 3) (oi := ⟨some 19, .move (.tmp 7), 3, "make.go:186", #[], none⟩) (v := ?_) rfl (by kernel_rfl) (by kernel_rfl) (by kernel_rfl) (fun _ _ _ h => h) (by decide) opW rfl (by kernel_rfl) (by kernel_rfl) (Or.inl ⟨by kernel_rfl, ?_⟩) (by assumption) ?_
        rotate_left
        · (intro w hSw; (try dsimp only at hSw); obtain ⟨d1, d2⟩ := hSw; go_simp; try with_reducible rfl)
        try simp only [Act.put, setIfInBounds_toArray, set_cons_zero, set_cons_succ]
        refine Rb.till_take (i := 4) (oi := ⟨some 20, .binOp BinOp.shl 3 (.const (.int IntKind.i64 1)) (.tmp 19) 3, 3, "make.go:186", #[⟨3, .data⟩], none⟩) (v := ?_) rfl (by kernel_rfl) (by kernel_rfl) (by kernel_rfl) (fun _ _ _ h => h) (by decide) opW rfl (by kernel_rfl) (by kernel_rfl) (Or.inl ⟨by kernel_rfl, ?_⟩) (by assumption) ?_
        rotate_left
        · (intro w hSw; (try dsimp only at hSw); obtain ⟨d1, d2⟩ := hSw; go_simp; try with_reducible rfl)
        try simp only [Act.put, setIfInBounds_toArray, set_cons_zero, set_cons_succ]
        refine Rb.till_take (i := 8) (oi := ⟨some 24, .fieldAddr 32 (.tmp 5) 1, 0, "make.go:186", #[], none⟩) (v := ?_) rfl (by kernel_rfl) (by kernel_rfl) (by kernel_rfl) (fun _ _ _ h => h) (by decide) opW rfl (by kernel_rfl) (by kernel_rfl) (Or.inl ⟨by kernel_rfl, ?_⟩) (by assumption) ?_
        rotate_left
        · (intro w hSw; (try dsimp only at hSw); obtain ⟨d1, d2⟩ := hSw; go_simp; try with_reducible rfl)
        try simp only [Act.put, setIfInBounds_toArray, set_cons_zero, set_cons_succ]
        refine Rb.till_take (i := 9) (oi := ⟨some 25, .load 22 (.tmp 24), 22, "make.go:186", #[⟨8, .data⟩], none⟩) (v := ?_) rfl (by kernel_rfl) (by kernel_rfl) (by kernel_rfl) (fun _ _ _ h => h) (by decide) opW rfl (by kernel_rfl) (by kernel_rfl) (Or.inl ⟨by kernel_rfl, ?_⟩) (by assumption) ?_
        rotate_left
        · (intro w hSw; (try dsimp only at hSw); obtain ⟨d1, d2⟩ := hSw; go_simp; try with_reducible rfl)
        try simp only [Act.put, setIfInBounds_toArray, set_cons_zero, set_cons_succ]
        refine Rb.till_free (i := 10) (oi := ⟨some 26, .move (.tmp 7), 3, "make.go:186", #[], none⟩) (v := ?_) rfl (by kernel_rfl) (by kernel_rfl) (by kernel_rfl) (fun _ _ _ h => h) (by decide) (Or.inl ⟨by kernel_rfl, ?_⟩) (fun _ => by assumption) ?_
        rotate_left
        · (intro w hSw; clear hSw; go_simp; try with_reducible rfl)
        try simp only [Act.put, setIfInBounds_toArray, set_cons_zero, set_cons_succ]
        refine Rb.till_ready (rs := [5, 11]) (by kernel_rfl) (by simp) ?_
        refine Rb.AllT.cons (o := ⟨some 21, .call { callee := Callee.value (.func 21), args := #[.tmp 18, .tmp 20], argTypes := #[23, 3] }, 3, "make.go:186", #[⟨2, .data⟩, ⟨4, .data⟩], none⟩) rfl (fun K hK => ?_) (Rb.AllT.cons (o := ⟨some 27, .buildSlice 22 1 #[(0, .tmp 26)], 22, "make.go:186", #[⟨10, .data⟩], none⟩) rfl (fun K hK => ?_) (Rb.AllT.nil))
        · go_simp
          go_at_call 21; (try simp only [wv1, wv2]); refine (n_any g 8 (by decide) (by decide) _ (HQ6.out.1.ok.bel (by repeat (first | exact Bel.rf | with_reducible refine Bel.drwN ?_ _ | with_reducible refine Bel.drw ?_ | with_reducible refine Bel.al ?_ _)))).mono ?_; rintro e x5 ⟨s, rfl, s0, s1, ho5, hc5⟩; have hcd : Ch g w6 x5 := (Ch.of_bel (by repeat (first | exact Bel.rf | with_reducible refine Bel.drwN ?_ _ | with_reducible refine Bel.drw ?_ | with_reducible refine Bel.al ?_ _))).tr hc5; have HQ5 : Hid (Wq g (w.heap.size + 1 + 1 + 1) w x5 u v i i S B ∧ Bk x5 w.heap.size 28 #[.int .i64 k, .int .i64 b, .int .i64 q, .int .i64 (m : Int), .int .i64 (n : Int), .slice A nc cc] ∧ Bk x5 (w.heap.size + 1) 32 #[.slice none 0 0, .slice none 0 0] ∧ Bk x5 (w.heap.size + 1 + 1) 32 #[u, v]) := ⟨HQ6.out.1.to ho5 hcd, hcd.bk HQ6.out.2.1 (by have := HGB.out; omega), hcd.bk HQ6.out.2.2.1 (by have := HGB.out; omega), hcd.bk HQ6.out.2.2.2 (by have := HGB.out; omega)⟩; have HS5 := Lib.hid (And.intro s0 s1); clear ho5 hc5 hcd s0 s1
          try go_wp2_with fail
          refine hK.out _ _ ?_ (fun hH1 => ?_)
          · (try dsimp only); exact KS.out _ (HQ5.out.2.2.2.bel (by repeat (first | exact Bel.rf | with_reducible refine Bel.drwN ?_ _ | with_reducible refine Bel.drw ?_ | with_reducible refine Bel.al ?_ _)))
          clear hK K hH0
          try simp only [Act.put, setIfInBounds_toArray, set_cons_zero, set_cons_succ]
          refine Rb.till_ready (rs := [6, 11]) (by kernel_rfl) (by simp) ?_
          refine Rb.AllT.cons (o := ⟨some 22, .buildSlice 22 1 #[(0, .tmp 21)], 22, "make.go:186", #[⟨5, .data⟩], none⟩) rfl (fun K hK => ?_) (Rb.AllT.cons (o := ⟨some 27, .buildSlice 22 1 #[(0, .tmp 26)], 22, "make.go:186", #[⟨10, .data⟩], none⟩) rfl (fun K hK => ?_) (Rb.AllT.nil))
          · go_simp
            try go_wp2_with fail
            refine hK.out _ _ ?_ (fun hH2 => ?_)
            · (try dsimp only); exact KS.out _ (HQ5.out.2.2.2.bel (by repeat (first | exact Bel.rf | with_reducible refine Bel.drwN ?_ _ | with_reducible refine Bel.drw ?_ | with_reducible refine Bel.al ?_ _)))
            clear hK K hH1
            try simp only [Act.put, setIfInBounds_toArray, set_cons_zero, set_cons_succ]
            refine Rb.till_ready (rs := [7, 11]) (by kernel_rfl) (by simp) ?_
            refine Rb.AllT.cons (o := ⟨some 23, .call { callee := Callee.builtin Builtin.append, args := #[.tmp 17, .tmp 22], argTypes := #[22, 22] }, 22, "make.go:186", #[⟨1, .data⟩, ⟨6, .data⟩, ⟨5, .chain⟩], none⟩) rfl (fun K hK => ?_) (Rb.AllT.cons (o := ⟨some 27, .buildSlice 22 1 #[(0, .tmp 26)], 22, "make.go:186", #[⟨10, .data⟩], none⟩) rfl (fun K hK => ?_) (Rb.AllT.nil))
            · refine step_app _ rfl (.tmp 17) (.tmp 22) rfl (w.heap.size + 1 + 1 + 1) u i S rfl (own_bel HQ5.out.1.ou (by repeat (first | exact Bel.rf | with_reducible refine Bel.drwN ?_ _ | with_reducible refine Bel.drw ?_ | with_reducible refine Bel.al ?_ _))) ⟨x5.heap.size, 0, none⟩ 1 1 [s] rfl (zi_bk (L := [s]) ((by repeat (first | (refine Bk.nq _ _ _ ?_; simp; done) | with_reducible refine Bk.drwN ?_ _ | with_reducible refine Bk.drw ?_ | with_reducible refine Bk.al ?_ _)) : Bk _ x5.heap.size 3 (zs [s]).toArray) 1 rfl) HI1.out (by have := HQ5.out.1.sz; simp; omega) ?_; intro v7 x7 h7 hg7 ha7; obtain ⟨A7, c7, hv7, _⟩ := own_any h7; subst hv7; have HQ7 : Hid (Wq g (w.heap.size + 1 + 1 + 1) w x7 (.slice A7 (i + 1) c7) v (i + 1) i (S ++ [s]) B ∧ Bk x7 w.heap.size 28 #[.int .i64 k, .int .i64 b, .int .i64 q, .int .i64 (m : Int), .int .i64 (n : Int), .slice A nc cc] ∧ Bk x7 (w.heap.size + 1) 32 #[.slice none 0 0, .slice none 0 0] ∧ Bk x7 (w.heap.size + 1 + 1) 32 #[u, v]) := ⟨(HQ5.out.1.up (by repeat (first | exact Bel.rf | with_reducible refine Bel.drwN ?_ _ | with_reducible refine Bel.drw ?_ | with_reducible refine Bel.al ?_ _))).ax h7 hg7 ha7, bk_grw (HQ5.out.2.1.bel (by repeat (first | exact Bel.rf | with_reducible refine Bel.drwN ?_ _ | with_reducible refine Bel.drw ?_ | with_reducible refine Bel.al ?_ _))) hg7 (fun e => by have := (HQ5.out.1.ou.lt _ e).1; omega), bk_grw (HQ5.out.2.2.1.bel (by repeat (first | exact Bel.rf | with_reducible refine Bel.drwN ?_ _ | with_reducible refine Bel.drw ?_ | with_reducible refine Bel.al ?_ _))) hg7 (fun e => by have := (HQ5.out.1.ou.lt _ e).1; omega), bk_grw (HQ5.out.2.2.2.bel (by repeat (first | exact Bel.rf | with_reducible refine Bel.drwN ?_ _ | with_reducible refine Bel.drw ?_ | with_reducible refine Bel.al ?_ _))) hg7 (fun e => by have := (HQ5.out.1.ou.lt _ e).1; omega)⟩; clear h7 hg7 ha7
              try go_wp2_with fail
              refine hK.out _ _ ?_ (fun hH3 => ?_)
              · (try dsimp only); exact KS.out _ (HQ7.out.2.2.2.bel (by repeat (first | exact Bel.rf | with_reducible refine Bel.drwN ?_ _ | with_reducible refine Bel.drw ?_ | with_reducible refine Bel.al ?_ _)))
              clear hK K hH2
              try simp only [Act.put, setIfInBounds_toArray, set_cons_zero, set_cons_succ]
              refine Rb.till_take (i := 13) (oi := ⟨some 29, .fieldAddr 32 (.tmp 5) 0, 0, "make.go:186", #[⟨0, .phase⟩, ⟨1, .phase⟩, ⟨2, .phase⟩, ⟨3, .phase⟩, ⟨4, .phase⟩, ⟨5, .phase⟩, ⟨6, .phase⟩, ⟨7, .phase⟩, ⟨8, .phase⟩, ⟨9, .phase⟩, ⟨10, .textOnly Departure.lateStores⟩, ⟨11, .textOnly Departure.lateStores⟩, ⟨12, .textOnly Departure.lateStoresUnsure⟩], none⟩) (v := ?_) rfl (by kernel_rfl) (by kernel_rfl) (by kernel_rfl) (fun _ _ _ h => h) (by decide) opW rfl (by kernel_rfl) (by kernel_rfl) (Or.inl ⟨by kernel_rfl, ?_⟩) (by assumption) ?_
              rotate_left
              · (intro w hSw; (try dsimp only at hSw); obtain ⟨d1, d2⟩ := hSw; go_simp; try with_reducible rfl)
              try simp only [Act.put, setIfInBounds_toArray, set_cons_zero, set_cons_succ]
              refine Rb.till_ready (rs := [11]) (by kernel_rfl) (by simp) ?_
              refine Rb.AllT.cons (o := ⟨some 27, .buildSlice 22 1 #[(0, .tmp 26)], 22, "make.go:186", #[⟨10, .data⟩], none⟩) rfl (fun K hK => ?_) (Rb.AllT.nil)
              · go_simp
                try go_wp2_with fail
                refine hK.out _ _ ?_ (fun hH4 => ?_)
                · (try dsimp only); exact KS.out _ (HQ7.out.2.2.2.bel (by repeat (first | exact Bel.rf | with_reducible refine Bel.drwN ?_ _ | with_reducible refine Bel.drw ?_ | with_reducible refine Bel.al ?_ _)))
                clear hK K hH3
                try simp only [Act.put, setIfInBounds_toArray, set_cons_zero, set_cons_succ]
                refine Rb.till_ready (rs := [12]) (by kernel_rfl) (by simp) ?_
                refine Rb.AllT.cons (o := ⟨some 28, .call { callee := Callee.builtin Builtin.append, args := #[.tmp 25, .tmp 27], argTypes := #[22, 22] }, 22, "make.go:186", #[⟨9, .data⟩, ⟨11, .data⟩, ⟨7, .chain⟩], none⟩) rfl (fun K hK => ?_) (Rb.AllT.nil)
                · refine step_app _ rfl (.tmp 25) (.tmp 27) rfl (w.heap.size + 1 + 1 + 1) v i B rfl (own_bel HQ7.out.1.ov (by repeat (first | exact Bel.rf | with_reducible refine Bel.drwN ?_ _ | with_reducible refine Bel.drw ?_ | with_reducible refine Bel.al ?_ _))) ⟨x7.heap.size, 0, none⟩ 1 1 [3] rfl (zi_bk (L := [3]) ((by repeat (first | (refine Bk.nq _ _ _ ?_; simp; done) | with_reducible refine Bk.drwN ?_ _ | with_reducible refine Bk.drw ?_ | with_reducible refine Bk.al ?_ _)) : Bk _ x7.heap.size 3 (zs [3]).toArray) 1 rfl) HI1.out (by have := HQ7.out.1.sz; simp; omega) ?_; intro v12 x12 h12 hg12 ha12; obtain ⟨A12, c12, hv12, _⟩ := own_any h12; subst hv12; have HQ12 : Hid (Wq g (w.heap.size + 1 + 1 + 1) w x12 (.slice A7 (i + 1) c7) (.slice A12 (i + 1) c12) (i + 1) (i + 1) (S ++ [s]) (B ++ [3]) ∧ Bk x12 w.heap.size 28 #[.int .i64 k, .int .i64 b, .int .i64 q, .int .i64 (m : Int), .int .i64 (n : Int), .slice A nc cc] ∧ Bk x12 (w.heap.size + 1) 32 #[.slice none 0 0, .slice none 0 0] ∧ Bk x12 (w.heap.size + 1 + 1) 32 #[u, v]) := ⟨((HQ7.out.1.up (by repeat (first | exact Bel.rf | with_reducible refine Bel.drwN ?_ _ | with_reducible refine Bel.drw ?_ | with_reducible refine Bel.al ?_ _))).sx.ax h12 hg12 ha12).sx, bk_grw (HQ7.out.2.1.bel (by repeat (first | exact Bel.rf | with_reducible refine Bel.drwN ?_ _ | with_reducible refine Bel.drw ?_ | with_reducible refine Bel.al ?_ _))) hg12 (fun e => by have := (HQ7.out.1.ov.lt _ e).1; omega), bk_grw (HQ7.out.2.2.1.bel (by repeat (first | exact Bel.rf | with_reducible refine Bel.drwN ?_ _ | with_reducible refine Bel.drw ?_ | with_reducible refine Bel.al ?_ _))) hg12 (fun e => by have := (HQ7.out.1.ov.lt _ e).1; omega), bk_grw (HQ7.out.2.2.2.bel (by repeat (first | exact Bel.rf | with_reducible refine Bel.drwN ?_ _ | with_reducible refine Bel.drw ?_ | with_reducible refine Bel.al ?_ _))) hg12 (fun e => by have := (HQ7.out.1.ov.lt _ e).1; omega)⟩; have y0 := HQ12.out.2.2.2.cell 0; have y1 := HQ12.out.2.2.2.cell 1; have z0 := HQ12.out.2.2.2.fr 0; have z1 := HQ12.out.2.2.2.fr 1; simp only [List.getElem?_toArray, List.getElem?_cons_zero, List.getElem?_cons_succ] at y0 y1; clear h12 hg12 ha12
                  try go_wp2_with fail
                  refine hK.out _ _ ?_ (fun hH5 => ?_)
                  · (try dsimp only); exact KS.out _ (HQ12.out.2.2.2.bel (by repeat (first | exact Bel.rf | with_reducible refine Bel.drwN ?_ _ | with_reducible refine Bel.drw ?_ | with_reducible refine Bel.al ?_ _)))
                  clear hK K hH4
                  try simp only [Act.put, setIfInBounds_toArray, set_cons_zero, set_cons_succ]
                  refine Rb.till_ready (rs := [14]) (by kernel_rfl) (by simp) ?_
                  refine Rb.AllT.past (o := ⟨none, .store 22 (.tmp 29) (.tmp 23), 0, "make.go:186", #[⟨13, .data⟩, ⟨7, .data⟩, ⟨12, .chain⟩, ⟨0, .phase⟩, ⟨1, .phase⟩, ⟨2, .phase⟩, ⟨3, .phase⟩, ⟨4, .phase⟩, ⟨5, .phase⟩, ⟨6, .phase⟩, ⟨7, .phase⟩, ⟨8, .phase⟩, ⟨9, .phase⟩, ⟨10, .textOnly Departure.lateStores⟩, ⟨11, .textOnly Departure.lateStores⟩, ⟨12, .textOnly Departure.lateStoresUnsure⟩], none⟩) rfl (by kernel_rfl) (fun K hK => ?_) (Rb.AllT.nil)
                  · go_simp
                    try go_wp2_with fail
                    refine hK.out _ _ trivial (fun hH6 => ?_)
                    clear hK K hH5
                    try simp only [Act.put, setIfInBounds_toArray, set_cons_zero, set_cons_succ]
                    refine Rb.till_free (i := 15) (oi := ⟨some 30, .fieldAddr 32 (.tmp 5) 1, 0, "make.go:186", #[⟨0, .phase⟩, ⟨1, .phase⟩, ⟨2, .phase⟩, ⟨3, .phase⟩, ⟨4, .phase⟩, ⟨5, .phase⟩, ⟨6, .phase⟩, ⟨7, .phase⟩, ⟨8, .phase⟩, ⟨9, .phase⟩, ⟨10, .phase⟩, ⟨11, .phase⟩, ⟨12, .phase⟩, ⟨13, .phase⟩, ⟨14, .phase⟩], none⟩) (v := ?_) rfl (by kernel_rfl) (by kernel_rfl) (by kernel_rfl) (fun _ _ _ h => h) (by decide) (Or.inl ⟨by kernel_rfl, ?_⟩) (fun h => absurd h (by decide)) ?_
                    rotate_left
                    · (intro w hSw; clear hSw; go_simp; try with_reducible rfl)
                    try simp only [Act.put, setIfInBounds_toArray, set_cons_zero, set_cons_succ]
                    refine Rb.till_ready (rs := [16]) (by kernel_rfl) (by simp) ?_
                    refine Rb.AllT.past (o := ⟨none, .store 22 (.tmp 30) (.tmp 28), 0, "make.go:186", #[⟨15, .data⟩, ⟨12, .data⟩, ⟨14, .chain⟩, ⟨0, .phase⟩, ⟨1, .phase⟩, ⟨2, .phase⟩, ⟨3, .phase⟩, ⟨4, .phase⟩, ⟨5, .phase⟩, ⟨6, .phase⟩, ⟨7, .phase⟩, ⟨8, .phase⟩, ⟨9, .phase⟩, ⟨10, .phase⟩, ⟨11, .phase⟩, ⟨12, .phase⟩, ⟨13, .phase⟩, ⟨14, .phase⟩], none⟩) rfl (by kernel_rfl) (fun K hK => ?_) (Rb.AllT.nil)
                    · go_simp
                      try go_wp2_with fail
                      refine hK.out _ _ trivial (fun hH7 => ?_)
                      clear hK K hH6
                      try simp only [Act.put, setIfInBounds_toArray, set_cons_zero, set_cons_succ]
                      refine Rb.till_done (by kernel_rfl) ?_ _
                      refine NoPanic.normal ?_
                      have HFF : Hid (Gd (i + 1) (S ++ [s]) (B ++ [3]) ∧ Wq g (w.heap.size + 1 + 1 + 1) w ((x12.setCell ⟨w.heap.size + 1 + 1, 0, none⟩ (.slice A7 (i + 1) c7)).setCell ⟨w.heap.size + 1 + 1, 1, none⟩ (.slice A12 (i + 1) c12)) (.slice A7 (i + 1) c7) (.slice A12 (i + 1) c12) (i + 1) (i + 1) (S ++ [s]) (B ++ [3]) ∧ Bk ((x12.setCell ⟨w.heap.size + 1 + 1, 0, none⟩ (.slice A7 (i + 1) c7)).setCell ⟨w.heap.size + 1 + 1, 1, none⟩ (.slice A12 (i + 1) c12)) w.heap.size 28 #[.int .i64 k, .int .i64 b, .int .i64 q, .int .i64 (m : Int), .int .i64 (n : Int), .slice A nc cc] ∧ Bk ((x12.setCell ⟨w.heap.size + 1 + 1, 0, none⟩ (.slice A7 (i + 1) c7)).setCell ⟨w.heap.size + 1 + 1, 1, none⟩ (.slice A12 (i + 1) c12)) (w.heap.size + 1) 32 #[.slice none 0 0, .slice none 0 0] ∧ Bk ((x12.setCell ⟨w.heap.size + 1 + 1, 0, none⟩ (.slice A7 (i + 1) c7)).setCell ⟨w.heap.size + 1 + 1, 1, none⟩ (.slice A12 (i + 1) c12)) (w.heap.size + 1 + 1) 32 #[.slice A7 (i + 1) c7, .slice A12 (i + 1) c12]) := ⟨gd_snoc HGD.out (by decide) (by decide) HS5.out.1 (show s < 2 ^ (3 : Int).toNat from HS5.out.2), (HQ12.out.1.st (by omega) (by omega) (by have := HGB.out; omega) _ _).st (by omega) (by omega) (by have := HGB.out; omega) _ _, (HQ12.out.2.1.far (by dsimp only; omega) _).far (by dsimp only; omega) _, (HQ12.out.2.2.1.far (by dsimp only; omega) _).far (by dsimp only; omega) _, (HQ12.out.2.2.2.st 0 _).st 1 _⟩
                      go_wp2_with fail
                      go_roundw
                      case rel => exact ⟨i + 1, _, _, _, _, _, rfl, by go_num, by omega, HFF.out.1, HFF.out.2.1, HFF.out.2.2.1, HFF.out.2.2.2.1, HFF.out.2.2.2.2⟩
                      case measure => simp [intOf]; omega
            · go_simp
              try go_wp2_with fail
              refine hK.out _ _ ?_ (fun hH3 => ?_)
              · (try dsimp only); exact KS.out _ (HQ5.out.2.2.2.bel (by repeat (first | exact Bel.rf | with_reducible refine Bel.drwN ?_ _ | with_reducible refine Bel.drw ?_ | with_reducible refine Bel.al ?_ _)))
              clear hK K hH2
              try simp only [Act.put, setIfInBounds_toArray, set_cons_zero, set_cons_succ]
              refine Rb.till_ready (rs := [7]) (by kernel_rfl) (by simp) ?_
              refine Rb.AllT.cons (o := ⟨some 23, .call { callee := Callee.builtin Builtin.append, args := #[.tmp 17, .tmp 22], argTypes := #[22, 22] }, 22, "make.go:186", #[⟨1, .data⟩, ⟨6, .data⟩, ⟨5, .chain⟩], none⟩) rfl (fun K hK => ?_) (Rb.AllT.nil)
              · refine step_app _ rfl (.tmp 17) (.tmp 22) rfl (w.heap.size + 1 + 1 + 1) u i S rfl (own_bel HQ5.out.1.ou (by repeat (first | exact Bel.rf | with_reducible refine Bel.drwN ?_ _ | with_reducible refine Bel.drw ?_ | with_reducible refine Bel.al ?_ _))) ⟨x5.heap.size, 0, none⟩ 1 1 [s] rfl (zi_bk (L := [s]) ((by repeat (first | (refine Bk.nq _ _ _ ?_; simp; done) | with_reducible refine Bk.drwN ?_ _ | with_reducible refine Bk.drw ?_ | with_reducible refine Bk.al ?_ _)) : Bk _ x5.heap.size 3 (zs [s]).toArray) 1 rfl) HI1.out (by have := HQ5.out.1.sz; simp; omega) ?_; intro v7 x7 h7 hg7 ha7; obtain ⟨A7, c7, hv7, _⟩ := own_any h7; subst hv7; have HQ7 : Hid (Wq g (w.heap.size + 1 + 1 + 1) w x7 (.slice A7 (i + 1) c7) v (i + 1) i (S ++ [s]) B ∧ Bk x7 w.heap.size 28 #[.int .i64 k, .int .i64 b, .int .i64 q, .int .i64 (m : Int), .int .i64 (n : Int), .slice A nc cc] ∧ Bk x7 (w.heap.size + 1) 32 #[.slice none 0 0, .slice none 0 0] ∧ Bk x7 (w.heap.size + 1 + 1) 32 #[u, v]) := ⟨(HQ5.out.1.up (by repeat (first | exact Bel.rf | with_reducible refine Bel.drwN ?_ _ | with_reducible refine Bel.drw ?_ | with_reducible refine Bel.al ?_ _))).ax h7 hg7 ha7, bk_grw (HQ5.out.2.1.bel (by repeat (first | exact Bel.rf | with_reducible refine Bel.drwN ?_ _ | with_reducible refine Bel.drw ?_ | with_reducible refine Bel.al ?_ _))) hg7 (fun e => by have := (HQ5.out.1.ou.lt _ e).1; omega), bk_grw (HQ5.out.2.2.1.bel (by repeat (first | exact Bel.rf | with_reducible refine Bel.drwN ?_ _ | with_reducible refine Bel.drw ?_ | with_reducible refine Bel.al ?_ _))) hg7 (fun e => by have := (HQ5.out.1.ou.lt _ e).1; omega), bk_grw (HQ5.out.2.2.2.bel (by repeat (first | exact Bel.rf | with_reducible refine Bel.drwN ?_ _ | with_reducible refine Bel.drw ?_ | with_reducible refine Bel.al ?_ _))) hg7 (fun e => by have := (HQ5.out.1.ou.lt _ e).1; omega)⟩; have HX7 : Hid (Bk x7 (x5.heap.size + 1) 3 #[.int .i64 3]) := bk_grw ((by repeat (first | (refine Bk.nq _ _ _ ?_; simp; done) | with_reducible refine Bk.drwN ?_ _ | with_reducible refine Bk.drw ?_ | with_reducible refine Bk.al ?_ _)) : Bk _ (x5.heap.size + 1) 3 #[.int .i64 3]) hg7 (fun e => by have := (HQ5.out.1.ou.lt _ e).2; omega); clear h7 hg7 ha7
                try go_wp2_with fail
                refine hK.out _ _ ?_ (fun hH4 => ?_)
                · (try dsimp only); exact KS.out _ (HQ7.out.2.2.2.bel (by repeat (first | exact Bel.rf | with_reducible refine Bel.drwN ?_ _ | with_reducible refine Bel.drw ?_ | with_reducible refine Bel.al ?_ _)))
                clear hK K hH3
                try simp only [Act.put, setIfInBounds_toArray, set_cons_zero, set_cons_succ]
                refine Rb.till_take (i := 13) (oi := ⟨some 29, .fieldAddr 32 (.tmp 5) 0, 0, "make.go:186", #[⟨0, .phase⟩, ⟨1, .phase⟩, ⟨2, .phase⟩, ⟨3, .phase⟩, ⟨4, .phase⟩, ⟨5, .phase⟩, ⟨6, .phase⟩, ⟨7, .phase⟩, ⟨8, .phase⟩, ⟨9, .phase⟩, ⟨10, .textOnly Departure.lateStores⟩, ⟨11, .textOnly Departure.lateStores⟩, ⟨12, .textOnly Departure.lateStoresUnsure⟩], none⟩) (v := ?_) rfl (by kernel_rfl) (by kernel_rfl) (by kernel_rfl) (fun _ _ _ h => h) (by decide) opW rfl (by kernel_rfl) (by kernel_rfl) (Or.inl ⟨by kernel_rfl, ?_⟩) (by assumption) ?_
                rotate_left
                · (intro w hSw; (try dsimp only at hSw); obtain ⟨d1, d2⟩ := hSw; go_simp; try with_reducible rfl)
                try simp only [Act.put, setIfInBounds_toArray, set_cons_zero, set_cons_succ]
                refine Rb.till_ready (rs := [12]) (by kernel_rfl) (by simp) ?_
                refine Rb.AllT.cons (o := ⟨some 28, .call { callee := Callee.builtin Builtin.append, args := #[.tmp 25, .tmp 27], argTypes := #[22, 22] }, 22, "make.go:186", #[⟨9, .data⟩, ⟨11, .data⟩, ⟨7, .chain⟩], none⟩) rfl (fun K hK => ?_) (Rb.AllT.nil)
                · refine step_app _ rfl (.tmp 25) (.tmp 27) rfl (w.heap.size + 1 + 1 + 1) v i B rfl (own_bel HQ7.out.1.ov (by repeat (first | exact Bel.rf | with_reducible refine Bel.drwN ?_ _ | with_reducible refine Bel.drw ?_ | with_reducible refine Bel.al ?_ _))) ⟨x5.heap.size + 1, 0, none⟩ 1 1 [3] rfl (zi_bk (L := [3]) (HX7.out.bel (by repeat (first | exact Bel.rf | with_reducible refine Bel.drwN ?_ _ | with_reducible refine Bel.drw ?_ | with_reducible refine Bel.al ?_ _))) 1 rfl) HI1.out (by have := HQ7.out.1.sz; simp; omega) ?_; intro v12 x12 h12 hg12 ha12; obtain ⟨A12, c12, hv12, _⟩ := own_any h12; subst hv12; have HQ12 : Hid (Wq g (w.heap.size + 1 + 1 + 1) w x12 (.slice A7 (i + 1) c7) (.slice A12 (i + 1) c12) (i + 1) (i + 1) (S ++ [s]) (B ++ [3]) ∧ Bk x12 w.heap.size 28 #[.int .i64 k, .int .i64 b, .int .i64 q, .int .i64 (m : Int), .int .i64 (n : Int), .slice A nc cc] ∧ Bk x12 (w.heap.size + 1) 32 #[.slice none 0 0, .slice none 0 0] ∧ Bk x12 (w.heap.size + 1 + 1) 32 #[u, v]) := ⟨((HQ7.out.1.up (by repeat (first | exact Bel.rf | with_reducible refine Bel.drwN ?_ _ | with_reducible refine Bel.drw ?_ | with_reducible refine Bel.al ?_ _))).sx.ax h12 hg12 ha12).sx, bk_grw (HQ7.out.2.1.bel (by repeat (first | exact Bel.rf | with_reducible refine Bel.drwN ?_ _ | with_reducible refine Bel.drw ?_ | with_reducible refine Bel.al ?_ _))) hg12 (fun e => by have := (HQ7.out.1.ov.lt _ e).1; omega), bk_grw (HQ7.out.2.2.1.bel (by repeat (first | exact Bel.rf | with_reducible refine Bel.drwN ?_ _ | with_reducible refine Bel.drw ?_ | with_reducible refine Bel.al ?_ _))) hg12 (fun e => by have := (HQ7.out.1.ov.lt _ e).1; omega), bk_grw (HQ7.out.2.2.2.bel (by repeat (first | exact Bel.rf | with_reducible refine Bel.drwN ?_ _ | with_reducible refine Bel.drw ?_ | with_reducible refine Bel.al ?_ _))) hg12 (fun e => by have := (HQ7.out.1.ov.lt _ e).1; omega)⟩; have y0 := HQ12.out.2.2.2.cell 0; have y1 := HQ12.out.2.2.2.cell 1; have z0 := HQ12.out.2.2.2.fr 0; have z1 := HQ12.out.2.2.2.fr 1; simp only [List.getElem?_toArray, List.getElem?_cons_zero, List.getElem?_cons_succ] at y0 y1; clear h12 hg12 ha12
                  try go_wp2_with fail
                  refine hK.out _ _ ?_ (fun hH5 => ?_)
                  · (try dsimp only); exact KS.out _ (HQ12.out.2.2.2.bel (by repeat (first | exact Bel.rf | with_reducible refine Bel.drwN ?_ _ | with_reducible refine Bel.drw ?_ | with_reducible refine Bel.al ?_ _)))
                  clear hK K hH4
                  try simp only [Act.put, setIfInBounds_toArray, set_cons_zero, set_cons_succ]
                  refine Rb.till_ready (rs := [14]) (by kernel_rfl) (by simp) ?_
                  refine Rb.AllT.past (o := ⟨none, .store 22 (.tmp 29) (.tmp 23), 0, "make.go:186", #[⟨13, .data⟩, ⟨7, .data⟩, ⟨12, .chain⟩, ⟨0, .phase⟩, ⟨1, .phase⟩, ⟨2, .phase⟩, ⟨3, .phase⟩, ⟨4, .phase⟩, ⟨5, .phase⟩, ⟨6, .phase⟩, ⟨7, .phase⟩, ⟨8, .phase⟩, ⟨9, .phase⟩, ⟨10, .textOnly Departure.lateStores⟩, ⟨11, .textOnly Departure.lateStores⟩, ⟨12, .textOnly Departure.lateStoresUnsure⟩], none⟩) rfl (by kernel_rfl) (fun K hK => ?_) (Rb.AllT.nil)
                  · go_simp
                    try go_wp2_with fail
                    refine hK.out _ _ trivial (fun hH6 => ?_)
                    clear hK K hH5
                    try simp only [Act.put, setIfInBounds_toArray, set_cons_zero, set_cons_succ]
                    refine Rb.till_free (i := 15) (oi := ⟨some 30, .fieldAddr 32 (.tmp 5) 1, 0, "make.go:186", #[⟨0, .phase⟩, ⟨1, .phase⟩, ⟨2, .phase⟩, ⟨3, .phase⟩, ⟨4, .phase⟩, ⟨5, .phase⟩, ⟨6, .phase⟩, ⟨7, .phase⟩, ⟨8, .phase⟩, ⟨9, .phase⟩, ⟨10, .phase⟩, ⟨11, .phase⟩, ⟨12, .phase⟩, ⟨13, .phase⟩, ⟨14, .phase⟩], none⟩) (v := ?_) rfl (by kernel_rfl) (by kernel_rfl) (by kernel_rfl) (fun _ _ _ h => h) (by decide) (Or.inl ⟨by kernel_rfl, ?_⟩) (fun h => absurd h (by decide)) ?_
                    rotate_left
                    · (intro w hSw; clear hSw; go_simp; try with_reducible rfl)
                    try simp only [Act.put, setIfInBounds_toArray, set_cons_zero, set_cons_succ]
                    refine Rb.till_ready (rs := [16]) (by kernel_rfl) (by simp) ?_
                    refine Rb.AllT.past (o := ⟨none, .store 22 (.tmp 30) (.tmp 28), 0, "make.go:186", #[⟨15, .data⟩, ⟨12, .data⟩, ⟨14, .chain⟩, ⟨0, .phase⟩, ⟨1, .phase⟩, ⟨2, .phase⟩, ⟨3, .phase⟩, ⟨4, .phase⟩, ⟨5, .phase⟩, ⟨6, .phase⟩, ⟨7, .phase⟩, ⟨8, .phase⟩, ⟨9, .phase⟩, ⟨10, .phase⟩, ⟨11, .phase⟩, ⟨12, .phase⟩, ⟨13, .phase⟩, ⟨14, .phase⟩], none⟩) rfl (by kernel_rfl) (fun K hK => ?_) (Rb.AllT.nil)
                    · go_simp
                      try go_wp2_with fail
                      refine hK.out _ _ trivial (fun hH7 => ?_)
                      clear hK K hH6
                      try simp only [Act.put, setIfInBounds_toArray, set_cons_zero, set_cons_succ]
                      refine Rb.till_done (by kernel_rfl) ?_ _
                      refine NoPanic.normal ?_
                      have HFF : Hid (Gd (i + 1) (S ++ [s]) (B ++ [3]) ∧ Wq g (w.heap.size + 1 + 1 + 1) w ((x12.setCell ⟨w.heap.size + 1 + 1, 0, none⟩ (.slice A7 (i + 1) c7)).setCell ⟨w.heap.size + 1 + 1, 1, none⟩ (.slice A12 (i + 1) c12)) (.slice A7 (i + 1) c7) (.slice A12 (i + 1) c12) (i + 1) (i + 1) (S ++ [s]) (B ++ [3]) ∧ Bk ((x12.setCell ⟨w.heap.size + 1 + 1, 0, none⟩ (.slice A7 (i + 1) c7)).setCell ⟨w.heap.size + 1 + 1, 1, none⟩ (.slice A12 (i + 1) c12)) w.heap.size 28 #[.int .i64 k, .int .i64 b, .int .i64 q, .int .i64 (m : Int), .int .i64 (n : Int), .slice A nc cc] ∧ Bk ((x12.setCell ⟨w.heap.size + 1 + 1, 0, none⟩ (.slice A7 (i + 1) c7)).setCell ⟨w.heap.size + 1 + 1, 1, none⟩ (.slice A12 (i + 1) c12)) (w.heap.size + 1) 32 #[.slice none 0 0, .slice none 0 0] ∧ Bk ((x12.setCell ⟨w.heap.size + 1 + 1, 0, none⟩ (.slice A7 (i + 1) c7)).setCell ⟨w.heap.size + 1 + 1, 1, none⟩ (.slice A12 (i + 1) c12)) (w.heap.size + 1 + 1) 32 #[.slice A7 (i + 1) c7, .slice A12 (i + 1) c12]) := ⟨gd_snoc HGD.out (by decide) (by decide) HS5.out.1 (show s < 2 ^ (3 : Int).toNat from HS5.out.2), (HQ12.out.1.st (by omega) (by omega) (by have := HGB.out; omega) _ _).st (by omega) (by omega) (by have := HGB.out; omega) _ _, (HQ12.out.2.1.far (by dsimp only; omega) _).far (by dsimp only; omega) _, (HQ12.out.2.2.1.far (by dsimp only; omega) _).far (by dsimp only; omega) _, (HQ12.out.2.2.2.st 0 _).st 1 _⟩
                      go_wp2_with fail
                      go_roundw
                      case rel => exact ⟨i + 1, _, _, _, _, _, rfl, by go_num, by omega, HFF.out.1, HFF.out.2.1, HFF.out.2.2.1, HFF.out.2.2.2.1, HFF.out.2.2.2.2⟩
                      case measure => simp [intOf]; omega
          · go_simp
            try go_wp2_with fail
            refine hK.out _ _ ?_ (fun hH2 => ?_)
            · (try dsimp only); exact KS.out _ (HQ5.out.2.2.2.bel (by repeat (first | exact Bel.rf | with_reducible refine Bel.drwN ?_ _ | with_reducible refine Bel.drw ?_ | with_reducible refine Bel.al ?_ _)))
            clear hK K hH1
            try simp only [Act.put, setIfInBounds_toArray, set_cons_zero, set_cons_succ]
            refine Rb.till_ready (rs := [6]) (by kernel_rfl) (by simp) ?_
            refine Rb.AllT.cons (o := ⟨some 22, .buildSlice 22 1 #[(0, .tmp 21)], 22, "make.go:186", #[⟨5, .data⟩], none⟩) rfl (fun K hK => ?_) (Rb.AllT.nil)
            · go_simp
              try go_wp2_with fail
              refine hK.out _ _ ?_ (fun hH3 => ?_)
              · (try dsimp only); exact KS.out _ (HQ5.out.2.2.2.bel (by repeat (first | exact Bel.rf | with_reducible refine Bel.drwN ?_ _ | with_reducible refine Bel.drw ?_ | with_reducible refine Bel.al ?_ _)))
              clear hK K hH2
              try simp only [Act.put, setIfInBounds_toArray, set_cons_zero, set_cons_succ]
              refine Rb.till_ready (rs := [7]) (by kernel_rfl) (by simp) ?_
              refine Rb.AllT.cons (o := ⟨some 23, .call { callee := Callee.builtin Builtin.append, args := #[.tmp 17, .tmp 22], argTypes := #[22, 22] }, 22, "make.go:186", #[⟨1, .data⟩, ⟨6, .data⟩, ⟨5, .chain⟩], none⟩) rfl (fun K hK => ?_) (Rb.AllT.nil)
              · refine step_app _ rfl (.tmp 17) (.tmp 22) rfl (w.heap.size + 1 + 1 + 1) u i S rfl (own_bel HQ5.out.1.ou (by repeat (first | exact Bel.rf | with_reducible refine Bel.drwN ?_ _ | with_reducible refine Bel.drw ?_ | with_reducible refine Bel.al ?_ _))) ⟨x5.heap.size + 1, 0, none⟩ 1 1 [s] rfl (zi_bk (L := [s]) ((by repeat (first | (refine Bk.nq _ _ _ ?_; simp; done) | with_reducible refine Bk.drwN ?_ _ | with_reducible refine Bk.drw ?_ | with_reducible refine Bk.al ?_ _)) : Bk _ (x5.heap.size + 1) 3 (zs [s]).toArray) 1 rfl) HI1.out (by have := HQ5.out.1.sz; simp; omega) ?_; intro v7 x7 h7 hg7 ha7; obtain ⟨A7, c7, hv7, _⟩ := own_any h7; subst hv7; have HQ7 : Hid (Wq g (w.heap.size + 1 + 1 + 1) w x7 (.slice A7 (i + 1) c7) v (i + 1) i (S ++ [s]) B ∧ Bk x7 w.heap.size 28 #[.int .i64 k, .int .i64 b, .int .i64 q, .int .i64 (m : Int), .int .i64 (n : Int), .slice A nc cc] ∧ Bk x7 (w.heap.size + 1) 32 #[.slice none 0 0, .slice none 0 0] ∧ Bk x7 (w.heap.size + 1 + 1) 32 #[u, v]) := ⟨(HQ5.out.1.up (by repeat (first | exact Bel.rf | with_reducible refine Bel.drwN ?_ _ | with_reducible refine Bel.drw ?_ | with_reducible refine Bel.al ?_ _))).ax h7 hg7 ha7, bk_grw (HQ5.out.2.1.bel (by repeat (first | exact Bel.rf | with_reducible refine Bel.drwN ?_ _ | with_reducible refine Bel.drw ?_ | with_reducible refine Bel.al ?_ _))) hg7 (fun e => by have := (HQ5.out.1.ou.lt _ e).1; omega), bk_grw (HQ5.out.2.2.1.bel (by repeat (first | exact Bel.rf | with_reducible refine Bel.drwN ?_ _ | with_reducible refine Bel.drw ?_ | with_reducible refine Bel.al ?_ _))) hg7 (fun e => by have := (HQ5.out.1.ou.lt _ e).1; omega), bk_grw (HQ5.out.2.2.2.bel (by repeat (first | exact Bel.rf | with_reducible refine Bel.drwN ?_ _ | with_reducible refine Bel.drw ?_ | with_reducible refine Bel.al ?_ _))) hg7 (fun e => by have := (HQ5.out.1.ou.lt _ e).1; omega)⟩; have HX7 : Hid (Bk x7 x5.heap.size 3 #[.int .i64 3]) := bk_grw ((by repeat (first | (refine Bk.nq _ _ _ ?_; simp; done) | with_reducible refine Bk.drwN ?_ _ | with_reducible refine Bk.drw ?_ | with_reducible refine Bk.al ?_ _)) : Bk _ x5.heap.size 3 #[.int .i64 3]) hg7 (fun e => by have := (HQ5.out.1.ou.lt _ e).2; omega); clear h7 hg7 ha7
                try go_wp2_with fail
                refine hK.out _ _ ?_ (fun hH4 => ?_)
                · (try dsimp only); exact KS.out _ (HQ7.out.2.2.2.bel (by repeat (first | exact Bel.rf | with_reducible refine Bel.drwN ?_ _ | with_reducible refine Bel.drw ?_ | with_reducible refine Bel.al ?_ _)))
                clear hK K hH3
                try simp only [Act.put, setIfInBounds_toArray, set_cons_zero, set_cons_succ]
                refine Rb.till_take (i := 13) (oi := ⟨some 29, .fieldAddr 32 (.tmp 5) 0, 0, "make.go:186", #[⟨0, .phase⟩, ⟨1, .phase⟩, ⟨2, .phase⟩, ⟨3, .phase⟩, ⟨4, .phase⟩, ⟨5, .phase⟩, ⟨6, .phase⟩, ⟨7, .phase⟩, ⟨8, .phase⟩, ⟨9, .phase⟩, ⟨10, .textOnly Departure.lateStores⟩, ⟨11, .textOnly Departure.lateStores⟩, ⟨12, .textOnly Departure.lateStoresUnsure⟩], none⟩) (v := ?_) rfl (by kernel_rfl) (by kernel_rfl) (by kernel_rfl) (fun _ _ _ h => h) (by decide) opW rfl (by kernel_rfl) (by kernel_rfl) (Or.inl ⟨by kernel_rfl, ?_⟩) (by assumption) ?_
                rotate_left
                · (intro w hSw; (try dsimp only at hSw); obtain ⟨d1, d2⟩ := hSw; go_simp; try with_reducible rfl)
                try simp only [Act.put, setIfInBounds_toArray, set_cons_zero, set_cons_succ]
                refine Rb.till_ready (rs := [12]) (by kernel_rfl) (by simp) ?_
                refine Rb.AllT.cons (o := ⟨some 28, .call { callee := Callee.builtin Builtin.append, args := #[.tmp 25, .tmp 27], argTypes := #[22, 22] }, 22, "make.go:186", #[⟨9, .data⟩, ⟨11, .data⟩, ⟨7, .chain⟩], none⟩) rfl (fun K hK => ?_) (Rb.AllT.nil)
                · refine step_app _ rfl (.tmp 25) (.tmp 27) rfl (w.heap.size + 1 + 1 + 1) v i B rfl (own_bel HQ7.out.1.ov (by repeat (first | exact Bel.rf | with_reducible refine Bel.drwN ?_ _ | with_reducible refine Bel.drw ?_ | with_reducible refine Bel.al ?_ _))) ⟨x5.heap.size, 0, none⟩ 1 1 [3] rfl (zi_bk (L := [3]) (HX7.out.bel (by repeat (first | exact Bel.rf | with_reducible refine Bel.drwN ?_ _ | with_reducible refine Bel.drw ?_ | with_reducible refine Bel.al ?_ _))) 1 rfl) HI1.out (by have := HQ7.out.1.sz; simp; omega) ?_; intro v12 x12 h12 hg12 ha12; obtain ⟨A12, c12, hv12, _⟩ := own_any h12; subst hv12; have HQ12 : Hid (Wq g (w.heap.size + 1 + 1 + 1) w x12 (.slice A7 (i + 1) c7) (.slice A12 (i + 1) c12) (i + 1) (i + 1) (S ++ [s]) (B ++ [3]) ∧ Bk x12 w.heap.size 28 #[.int .i64 k, .int .i64 b, .int .i64 q, .int .i64 (m : Int), .int .i64 (n : Int), .slice A nc cc] ∧ Bk x12 (w.heap.size + 1) 32 #[.slice none 0 0, .slice none 0 0] ∧ Bk x12 (w.heap.size + 1 + 1) 32 #[u, v]) := ⟨((HQ7.out.1.up (by repeat (first | exact Bel.rf | with_reducible refine Bel.drwN ?_ _ | with_reducible refine Bel.drw ?_ | with_reducible refine Bel.al ?_ _))).sx.ax h12 hg12 ha12).sx, bk_grw (HQ7.out.2.1.bel (by repeat (first | exact Bel.rf | with_reducible refine Bel.drwN ?_ _ | with_reducible refine Bel.drw ?_ | with_reducible refine Bel.al ?_ _))) hg12 (fun e => by have := (HQ7.out.1.ov.lt _ e).1; omega), bk_grw (HQ7.out.2.2.1.bel (by repeat (first | exact Bel.rf | with_reducible refine Bel.drwN ?_ _ | with_reducible refine Bel.drw ?_ | with_reducible refine Bel.al ?_ _))) hg12 (fun e => by have := (HQ7.out.1.ov.lt _ e).1; omega), bk_grw (HQ7.out.2.2.2.bel (by repeat (first | exact Bel.rf | with_reducible refine Bel.drwN ?_ _ | with_reducible refine Bel.drw ?_ | with_reducible refine Bel.al ?_ _))) hg12 (fun e => by have := (HQ7.out.1.ov.lt _ e).1; omega)⟩; have y0 := HQ12.out.2.2.2.cell 0; have y1 := HQ12.out.2.2.2.cell 1; have z0 := HQ12.out.2.2.2.fr 0; have z1 := HQ12.out.2.2.2.fr 1; simp only [List.getElem?_toArray, List.getElem?_cons_zero, List.getElem?_cons_succ] at y0 y1; clear h12 hg12 ha12
                  try go_wp2_with fail
                  refine hK.out _ _ ?_ (fun hH5 => ?_)
                  · (try dsimp only); exact KS.out _ (HQ12.out.2.2.2.bel (by repeat (first | exact Bel.rf | with_reducible refine Bel.drwN ?_ _ | with_reducible refine Bel.drw ?_ | with_reducible refine Bel.al ?_ _)))
                  clear hK K hH4
                  try simp only [Act.put, setIfInBounds_toArray, set_cons_zero, set_cons_succ]
                  refine Rb.till_ready (rs := [14]) (by kernel_rfl) (by simp) ?_
                  refine Rb.AllT.past (o := ⟨none, .store 22 (.tmp 29) (.tmp 23), 0, "make.go:186", #[⟨13, .data⟩, ⟨7, .data⟩, ⟨12, .chain⟩, ⟨0, .phase⟩, ⟨1, .phase⟩, ⟨2, .phase⟩, ⟨3, .phase⟩, ⟨4, .phase⟩, ⟨5, .phase⟩, ⟨6, .phase⟩, ⟨7, .phase⟩, ⟨8, .phase⟩, ⟨9, .phase⟩, ⟨10, .textOnly Departure.lateStores⟩, ⟨11, .textOnly Departure.lateStores⟩, ⟨12, .textOnly Departure.lateStoresUnsure⟩], none⟩) rfl (by kernel_rfl) (fun K hK => ?_) (Rb.AllT.nil)
                  · go_simp
                    try go_wp2_with fail
                    refine hK.out _ _ trivial (fun hH6 => ?_)
                    clear hK K hH5
                    try simp only [Act.put, setIfInBounds_toArray, set_cons_zero, set_cons_succ]
                    refine Rb.till_free (i := 15) (oi := ⟨some 30, .fieldAddr 32 (.tmp 5) 1, 0, "make.go:186", #[⟨0, .phase⟩, ⟨1, .phase⟩, ⟨2, .phase⟩, ⟨3, .phase⟩, ⟨4, .phase⟩, ⟨5, .phase⟩, ⟨6, .phase⟩, ⟨7, .phase⟩, ⟨8, .phase⟩, ⟨9, .phase⟩, ⟨10, .phase⟩, ⟨11, .phase⟩, ⟨12, .phase⟩, ⟨13, .phase⟩, ⟨14, .phase⟩], none⟩) (v := ?_) rfl (by kernel_rfl) (by kernel_rfl) (by kernel_rfl) (fun _ _ _ h => h) (by decide) (Or.inl ⟨by kernel_rfl, ?_⟩) (fun h => absurd h (by decide)) ?_
                    rotate_left
                    · (intro w hSw; clear hSw; go_simp; try with_reducible rfl)
                    try simp only [Act.put, setIfInBounds_toArray, set_cons_zero, set_cons_succ]
                    refine Rb.till_ready (rs := [16]) (by kernel_rfl) (by simp) ?_
                    refine Rb.AllT.past (o := ⟨none, .store 22 (.tmp 30) (.tmp 28), 0, "make.go:186", #[⟨15, .data⟩, ⟨12, .data⟩, ⟨14, .chain⟩, ⟨0, .phase⟩, ⟨1, .phase⟩, ⟨2, .phase⟩, ⟨3, .phase⟩, ⟨4, .phase⟩, ⟨5, .phase⟩, ⟨6, .phase⟩, ⟨7, .phase⟩, ⟨8, .phase⟩, ⟨9, .phase⟩, ⟨10, .phase⟩, ⟨11, .phase⟩, ⟨12, .phase⟩, ⟨13, .phase⟩, ⟨14, .phase⟩], none⟩) rfl (by kernel_rfl) (fun K hK => ?_) (Rb.AllT.nil)
                    · go_simp
                      try go_wp2_with fail
                      refine hK.out _ _ trivial (fun hH7 => ?_)
                      clear hK K hH6
                      try simp only [Act.put, setIfInBounds_toArray, set_cons_zero, set_cons_succ]
                      refine Rb.till_done (by kernel_rfl) ?_ _
                      refine NoPanic.normal ?_
                      have HFF : Hid (Gd (i + 1) (S ++ [s]) (B ++ [3]) ∧ Wq g (w.heap.size + 1 + 1 + 1) w ((x12.setCell ⟨w.heap.size + 1 + 1, 0, none⟩ (.slice A7 (i + 1) c7)).setCell ⟨w.heap.size + 1 + 1, 1, none⟩ (.slice A12 (i + 1) c12)) (.slice A7 (i + 1) c7) (.slice A12 (i + 1) c12) (i + 1) (i + 1) (S ++ [s]) (B ++ [3]) ∧ Bk ((x12.setCell ⟨w.heap.size + 1 + 1, 0, none⟩ (.slice A7 (i + 1) c7)).setCell ⟨w.heap.size + 1 + 1, 1, none⟩ (.slice A12 (i + 1) c12)) w.heap.size 28 #[.int .i64 k, .int .i64 b, .int .i64 q, .int .i64 (m : Int), .int .i64 (n : Int), .slice A nc cc] ∧ Bk ((x12.setCell ⟨w.heap.size + 1 + 1, 0, none⟩ (.slice A7 (i + 1) c7)).setCell ⟨w.heap.size + 1 + 1, 1, none⟩ (.slice A12 (i + 1) c12)) (w.heap.size + 1) 32 #[.slice none 0 0, .slice none 0 0] ∧ Bk ((x12.setCell ⟨w.heap.size + 1 + 1, 0, none⟩ (.slice A7 (i + 1) c7)).setCell ⟨w.heap.size + 1 + 1, 1, none⟩ (.slice A12 (i + 1) c12)) (w.heap.size + 1 + 1) 32 #[.slice A7 (i + 1) c7, .slice A12 (i + 1) c12]) := ⟨gd_snoc HGD.out (by decide) (by decide) HS5.out.1 (show s < 2 ^ (3 : Int).toNat from HS5.out.2), (HQ12.out.1.st (by omega) (by omega) (by have := HGB.out; omega) _ _).st (by omega) (by omega) (by have := HGB.out; omega) _ _, (HQ12.out.2.1.far (by dsimp only; omega) _).far (by dsimp only; omega) _, (HQ12.out.2.2.1.far (by dsimp only; omega) _).far (by dsimp only; omega) _, (HQ12.out.2.2.2.st 0 _).st 1 _⟩
                      go_wp2_with fail
                      go_roundw
                      case rel => exact ⟨i + 1, _, _, _, _, _, rfl, by go_num, by omega, HFF.out.1, HFF.out.2.1, HFF.out.2.2.1, HFF.out.2.2.2.1, HFF.out.2.2.2.2⟩
                      case measure => simp [intOf]; omega
        · go_simp
          try go_wp2_with fail
          refine hK.out _ _ ?_ (fun hH1 => ?_)
          · (try dsimp only); exact KS.out _ (HQ6.out.2.2.2.bel (by repeat (first | exact Bel.rf | with_reducible refine Bel.drwN ?_ _ | with_reducible refine Bel.drw ?_ | with_reducible refine Bel.al ?_ _)))
          clear hK K hH0
          try simp only [Act.put, setIfInBounds_toArray, set_cons_zero, set_cons_succ]
          refine Rb.till_ready (rs := [5]) (by kernel_rfl) (by simp) ?_
          refine Rb.AllT.cons (o := ⟨some 21, .call { callee := Callee.value (.func 21), args := #[.tmp 18, .tmp 20], argTypes := #[23, 3] }, 3, "make.go:186", #[⟨2, .data⟩, ⟨4, .data⟩], none⟩) rfl (fun K hK => ?_) (Rb.AllT.nil)
          · go_simp
            go_at_call 21; (try simp only [wv1, wv2]); refine (n_any g 8 (by decide) (by decide) _ (HQ6.out.1.ok.bel (by repeat (first | exact Bel.rf | with_reducible refine Bel.drwN ?_ _ | with_reducible refine Bel.drw ?_ | with_reducible refine Bel.al ?_ _)))).mono ?_; rintro e x5 ⟨s, rfl, s0, s1, ho5, hc5⟩; have hcd : Ch g w6 x5 := (Ch.of_bel (by repeat (first | exact Bel.rf | with_reducible refine Bel.drwN ?_ _ | with_reducible refine Bel.drw ?_ | with_reducible refine Bel.al ?_ _))).tr hc5; have HQ5 : Hid (Wq g (w.heap.size + 1 + 1 + 1) w x5 u v i i S B ∧ Bk x5 w.heap.size 28 #[.int .i64 k, .int .i64 b, .int .i64 q, .int .i64 (m : Int), .int .i64 (n : Int), .slice A nc cc] ∧ Bk x5 (w.heap.size + 1) 32 #[.slice none 0 0, .slice none 0 0] ∧ Bk x5 (w.heap.size + 1 + 1) 32 #[u, v]) := ⟨HQ6.out.1.to ho5 hcd, hcd.bk HQ6.out.2.1 (by have := HGB.out; omega), hcd.bk HQ6.out.2.2.1 (by have := HGB.out; omega), hcd.bk HQ6.out.2.2.2 (by have := HGB.out; omega)⟩; have HS5 := Lib.hid (And.intro s0 s1); have HX5 : Hid (Bk x5 w6.heap.size 3 #[.int .i64 3]) := hc5.bk ((by repeat (first | (refine Bk.nq _ _ _ ?_; simp; done) | with_reducible refine Bk.drwN ?_ _ | with_reducible refine Bk.drw ?_ | with_reducible refine Bk.al ?_ _)) : Bk _ w6.heap.size 3 #[.int .i64 3]) (by have := HQ6.out.1.gb; have := HQ6.out.1.sz; omega); clear ho5 hc5 hcd s0 s1
            try go_wp2_with fail
            refine hK.out _ _ ?_ (fun hH2 => ?_)
            · (try dsimp only); exact KS.out _ (HQ5.out.2.2.2.bel (by repeat (first | exact Bel.rf | with_reducible refine Bel.drwN ?_ _ | with_reducible refine Bel.drw ?_ | with_reducible refine Bel.al ?_ _)))
            clear hK K hH1
            try simp only [Act.put, setIfInBounds_toArray, set_cons_zero, set_cons_succ]
            refine Rb.till_ready (rs := [6]) (by kernel_rfl) (by simp) ?_
            refine Rb.AllT.cons (o := ⟨some 22, .buildSlice 22 1 #[(0, .tmp 21)], 22, "make.go:186", #[⟨5, .data⟩], none⟩) rfl (fun K hK => ?_) (Rb.AllT.nil)
            · go_simp
              try go_wp2_with fail
              refine hK.out _ _ ?_ (fun hH3 => ?_)
              · (try dsimp only); exact KS.out _ (HQ5.out.2.2.2.bel (by repeat (first | exact Bel.rf | with_reducible refine Bel.drwN ?_ _ | with_reducible refine Bel.drw ?_ | with_reducible refine Bel.al ?_ _)))
              clear hK K hH2
              try simp only [Act.put, setIfInBounds_toArray, set_cons_zero, set_cons_succ]
              refine Rb.till_ready (rs := [7]) (by kernel_rfl) (by simp) ?_
              refine Rb.AllT.cons (o := ⟨some 23, .call { callee := Callee.builtin Builtin.append, args := #[.tmp 17, .tmp 22], argTypes := #[22, 22] }, 22, "make.go:186", #[⟨1, .data⟩, ⟨6, .data⟩, ⟨5, .chain⟩], none⟩) rfl (fun K hK => ?_) (Rb.AllT.nil)
              · refine step_app _ rfl (.tmp 17) (.tmp 22) rfl (w.heap.size + 1 + 1 + 1) u i S rfl (own_bel HQ5.out.1.ou (by repeat (first | exact Bel.rf | with_reducible refine Bel.drwN ?_ _ | with_reducible refine Bel.drw ?_ | with_reducible refine Bel.al ?_ _))) ⟨x5.heap.size, 0, none⟩ 1 1 [s] rfl (zi_bk (L := [s]) ((by repeat (first | (refine Bk.nq _ _ _ ?_; simp; done) | with_reducible refine Bk.drwN ?_ _ | with_reducible refine Bk.drw ?_ | with_reducible refine Bk.al ?_ _)) : Bk _ x5.heap.size 3 (zs [s]).toArray) 1 rfl) HI1.out (by have := HQ5.out.1.sz; simp; omega) ?_; intro v7 x7 h7 hg7 ha7; obtain ⟨A7, c7, hv7, _⟩ := own_any h7; subst hv7; have HQ7 : Hid (Wq g (w.heap.size + 1 + 1 + 1) w x7 (.slice A7 (i + 1) c7) v (i + 1) i (S ++ [s]) B ∧ Bk x7 w.heap.size 28 #[.int .i64 k, .int .i64 b, .int .i64 q, .int .i64 (m : Int), .int .i64 (n : Int), .slice A nc cc] ∧ Bk x7 (w.heap.size + 1) 32 #[.slice none 0 0, .slice none 0 0] ∧ Bk x7 (w.heap.size + 1 + 1) 32 #[u, v]) := ⟨(HQ5.out.1.up (by repeat (first | exact Bel.rf | with_reducible refine Bel.drwN ?_ _ | with_reducible refine Bel.drw ?_ | with_reducible refine Bel.al ?_ _))).ax h7 hg7 ha7, bk_grw (HQ5.out.2.1.bel (by repeat (first | exact Bel.rf | with_reducible refine Bel.drwN ?_ _ | with_reducible refine Bel.drw ?_ | with_reducible refine Bel.al ?_ _))) hg7 (fun e => by have := (HQ5.out.1.ou.lt _ e).1; omega), bk_grw (HQ5.out.2.2.1.bel (by repeat (first | exact Bel.rf | with_reducible refine Bel.drwN ?_ _ | with_reducible refine Bel.drw ?_ | with_reducible refine Bel.al ?_ _))) hg7 (fun e => by have := (HQ5.out.1.ou.lt _ e).1; omega), bk_grw (HQ5.out.2.2.2.bel (by repeat (first | exact Bel.rf | with_reducible refine Bel.drwN ?_ _ | with_reducible refine Bel.drw ?_ | with_reducible refine Bel.al ?_ _))) hg7 (fun e => by have := (HQ5.out.1.ou.lt _ e).1; omega)⟩; have HX7 : Hid (Bk x7 w6.heap.size 3 #[.int .i64 3]) := bk_grw (HX5.out.bel (by repeat (first | exact Bel.rf | with_reducible refine Bel.drwN ?_ _ | with_reducible refine Bel.drw ?_ | with_reducible refine Bel.al ?_ _))) hg7 (fun e => by have := HB6.out _ e; omega); clear h7 hg7 ha7
                try go_wp2_with fail
                refine hK.out _ _ ?_ (fun hH4 => ?_)
                · (try dsimp only); exact KS.out _ (HQ7.out.2.2.2.bel (by repeat (first | exact Bel.rf | with_reducible refine Bel.drwN ?_ _ | with_reducible refine Bel.drw ?_ | with_reducible refine Bel.al ?_ _)))
                clear hK K hH3
                try simp only [Act.put, setIfInBounds_toArray, set_cons_zero, set_cons_succ]
                refine Rb.till_take (i := 13) (oi := ⟨some 29, .fieldAddr 32 (.tmp 5) 0, 0, "make.go:186", #[⟨0, .phase⟩, ⟨1, .phase⟩, ⟨2, .phase⟩, ⟨3, .phase⟩, ⟨4, .phase⟩, ⟨5, .phase⟩, ⟨6, .phase⟩, ⟨7, .phase⟩, ⟨8, .phase⟩, ⟨9, .phase⟩, ⟨10, .textOnly Departure.lateStores⟩, ⟨11, .textOnly Departure.lateStores⟩, ⟨12, .textOnly Departure.lateStoresUnsure⟩], none⟩) (v := ?_) rfl (by kernel_rfl) (by kernel_rfl) (by kernel_rfl) (fun _ _ _ h => h) (by decide) opW rfl (by kernel_rfl) (by kernel_rfl) (Or.inl ⟨by kernel_rfl, ?_⟩) (by assumption) ?_
                rotate_left
                · (intro w hSw; (try dsimp only at hSw); obtain ⟨d1, d2⟩ := hSw; go_simp; try with_reducible rfl)
                try simp only [Act.put, setIfInBounds_toArray, set_cons_zero, set_cons_succ]
                refine Rb.till_ready (rs := [12]) (by kernel_rfl) (by simp) ?_
                refine Rb.AllT.cons (o := ⟨some 28, .call { callee := Callee.builtin Builtin.append, args := #[.tmp 25, .tmp 27], argTypes := #[22, 22] }, 22, "make.go:186", #[⟨9, .data⟩, ⟨11, .data⟩, ⟨7, .chain⟩], none⟩) rfl (fun K hK => ?_) (Rb.AllT.nil)
                · refine step_app _ rfl (.tmp 25) (.tmp 27) rfl (w.heap.size + 1 + 1 + 1) v i B rfl (own_bel HQ7.out.1.ov (by repeat (first | exact Bel.rf | with_reducible refine Bel.drwN ?_ _ | with_reducible refine Bel.drw ?_ | with_reducible refine Bel.al ?_ _))) ⟨w6.heap.size, 0, none⟩ 1 1 [3] rfl (zi_bk (L := [3]) (HX7.out.bel (by repeat (first | exact Bel.rf | with_reducible refine Bel.drwN ?_ _ | with_reducible refine Bel.drw ?_ | with_reducible refine Bel.al ?_ _))) 1 rfl) HI1.out (by have := HQ7.out.1.sz; simp; omega) ?_; intro v12 x12 h12 hg12 ha12; obtain ⟨A12, c12, hv12, _⟩ := own_any h12; subst hv12; have HQ12 : Hid (Wq g (w.heap.size + 1 + 1 + 1) w x12 (.slice A7 (i + 1) c7) (.slice A12 (i + 1) c12) (i + 1) (i + 1) (S ++ [s]) (B ++ [3]) ∧ Bk x12 w.heap.size 28 #[.int .i64 k, .int .i64 b, .int .i64 q, .int .i64 (m : Int), .int .i64 (n : Int), .slice A nc cc] ∧ Bk x12 (w.heap.size + 1) 32 #[.slice none 0 0, .slice none 0 0] ∧ Bk x12 (w.heap.size + 1 + 1) 32 #[u, v]) := ⟨((HQ7.out.1.up (by repeat (first | exact Bel.rf | with_reducible refine Bel.drwN ?_ _ | with_reducible refine Bel.drw ?_ | with_reducible refine Bel.al ?_ _))).sx.ax h12 hg12 ha12).sx, bk_grw (HQ7.out.2.1.bel (by repeat (first | exact Bel.rf | with_reducible refine Bel.drwN ?_ _ | with_reducible refine Bel.drw ?_ | with_reducible refine Bel.al ?_ _))) hg12 (fun e => by have := (HQ7.out.1.ov.lt _ e).1; omega), bk_grw (HQ7.out.2.2.1.bel (by repeat (first | exact Bel.rf | with_reducible refine Bel.drwN ?_ _ | with_reducible refine Bel.drw ?_ | with_reducible refine Bel.al ?_ _))) hg12 (fun e => by have := (HQ7.out.1.ov.lt _ e).1; omega), bk_grw (HQ7.out.2.2.2.bel (by repeat (first | exact Bel.rf | with_reducible refine Bel.drwN ?_ _ | with_reducible refine Bel.drw ?_ | with_reducible refine Bel.al ?_ _))) hg12 (fun e => by have := (HQ7.out.1.ov.lt _ e).1; omega)⟩; have y0 := HQ12.out.2.2.2.cell 0; have y1 := HQ12.out.2.2.2.cell 1; have z0 := HQ12.out.2.2.2.fr 0; have z1 := HQ12.out.2.2.2.fr 1; simp only [List.getElem?_toArray, List.getElem?_cons_zero, List.getElem?_cons_succ] at y0 y1; clear h12 hg12 ha12
                  try go_wp2_with fail
                  refine hK.out _ _ ?_ (fun hH5 => ?_)
                  · (try dsimp only); exact KS.out _ (HQ12.out.2.2.2.bel (by repeat (first | exact Bel.rf | with_reducible refine Bel.drwN ?_ _ | with_reducible refine Bel.drw ?_ | with_reducible refine Bel.al ?_ _)))
                  clear hK K hH4
                  try simp only [Act.put, setIfInBounds_toArray, set_cons_zero, set_cons_succ]
                  refine Rb.till_ready (rs := [14]) (by kernel_rfl) (by simp) ?_
                  refine Rb.AllT.past (o := ⟨none, .store 22 (.tmp 29) (.tmp 23), 0, "make.go:186", #[⟨13, .data⟩, ⟨7, .data⟩, ⟨12, .chain⟩, ⟨0, .phase⟩, ⟨1, .phase⟩, ⟨2, .phase⟩, ⟨3, .phase⟩, ⟨4, .phase⟩, ⟨5, .phase⟩, ⟨6, .phase⟩, ⟨7, .phase⟩, ⟨8, .phase⟩, ⟨9, .phase⟩, ⟨10, .textOnly Departure.lateStores⟩, ⟨11, .textOnly Departure.lateStores⟩, ⟨12, .textOnly Departure.lateStoresUnsure⟩], none⟩) rfl (by kernel_rfl) (fun K hK => ?_) (Rb.AllT.nil)
                  · go_simp
                    try go_wp2_with fail
                    refine hK.out _ _ trivial (fun hH6 => ?_)
                    clear hK K hH5
                    try simp only [Act.put, setIfInBounds_toArray, set_cons_zero, set_cons_succ]
                    refine Rb.till_free (i := 15) (oi := ⟨some 30, .fieldAddr 32 (.tmp 5) 1, 0, "make.go:186", #[⟨0, .phase⟩, ⟨1, .phase⟩, ⟨2, .phase⟩, ⟨3, .phase⟩, ⟨4, .phase⟩, ⟨5, .phase⟩, ⟨6, .phase⟩, ⟨7, .phase⟩, ⟨8, .phase⟩, ⟨9, .phase⟩, ⟨10, .phase⟩, ⟨11, .phase⟩, ⟨12, .phase⟩, ⟨13, .phase⟩, ⟨14, .phase⟩], none⟩) (v := ?_) rfl (by kernel_rfl) (by kernel_rfl) (by kernel_rfl) (fun _ _ _ h => h) (by decide) (Or.inl ⟨by kernel_rfl, ?_⟩) (fun h => absurd h (by decide)) ?_
                    rotate_left
                    · (intro w hSw; clear hSw; go_simp; try with_reducible rfl)
                    try simp only [Act.put, setIfInBounds_toArray, set_cons_zero, set_cons_succ]
                    refine Rb.till_ready (rs := [16]) (by kernel_rfl) (by simp) ?_
                    refine Rb.AllT.past (o := ⟨none, .store 22 (.tmp 30) (.tmp 28), 0, "make.go:186", #[⟨15, .data⟩, ⟨12, .data⟩, ⟨14, .chain⟩, ⟨0, .phase⟩, ⟨1, .phase⟩, ⟨2, .phase⟩, ⟨3, .phase⟩, ⟨4, .phase⟩, ⟨5, .phase⟩, ⟨6, .phase⟩, ⟨7, .phase⟩, ⟨8, .phase⟩, ⟨9, .phase⟩, ⟨10, .phase⟩, ⟨11, .phase⟩, ⟨12, .phase⟩, ⟨13, .phase⟩, ⟨14, .phase⟩], none⟩) rfl (by kernel_rfl) (fun K hK => ?_) (Rb.AllT.nil)
                    · go_simp
                      try go_wp2_with fail
                      refine hK.out _ _ trivial (fun hH7 => ?_)
                      clear hK K hH6
                      try simp only [Act.put, setIfInBounds_toArray, set_cons_zero, set_cons_succ]
                      refine Rb.till_done (by kernel_rfl) ?_ _
                      refine NoPanic.normal ?_
                      have HFF : Hid (Gd (i + 1) (S ++ [s]) (B ++ [3]) ∧ Wq g (w.heap.size + 1 + 1 + 1) w ((x12.setCell ⟨w.heap.size + 1 + 1, 0, none⟩ (.slice A7 (i + 1) c7)).setCell ⟨w.heap.size + 1 + 1, 1, none⟩ (.slice A12 (i + 1) c12)) (.slice A7 (i + 1) c7) (.slice A12 (i + 1) c12) (i + 1) (i + 1) (S ++ [s]) (B ++ [3]) ∧ Bk ((x12.setCell ⟨w.heap.size + 1 + 1, 0, none⟩ (.slice A7 (i + 1) c7)).setCell ⟨w.heap.size + 1 + 1, 1, none⟩ (.slice A12 (i + 1) c12)) w.heap.size 28 #[.int .i64 k, .int .i64 b, .int .i64 q, .int .i64 (m : Int), .int .i64 (n : Int), .slice A nc cc] ∧ Bk ((x12.setCell ⟨w.heap.size + 1 + 1, 0, none⟩ (.slice A7 (i + 1) c7)).setCell ⟨w.heap.size + 1 + 1, 1, none⟩ (.slice A12 (i + 1) c12)) (w.heap.size + 1) 32 #[.slice none 0 0, .slice none 0 0] ∧ Bk ((x12.setCell ⟨w.heap.size + 1 + 1, 0, none⟩ (.slice A7 (i + 1) c7)).setCell ⟨w.heap.size + 1 + 1, 1, none⟩ (.slice A12 (i + 1) c12)) (w.heap.size + 1 + 1) 32 #[.slice A7 (i + 1) c7, .slice A12 (i + 1) c12]) := ⟨gd_snoc HGD.out (by decide) (by decide) HS5.out.1 (show s < 2 ^ (3 : Int).toNat from HS5.out.2), (HQ12.out.1.st (by omega) (by omega) (by have := HGB.out; omega) _ _).st (by omega) (by omega) (by have := HGB.out; omega) _ _, (HQ12.out.2.1.far (by dsimp only; omega) _).far (by dsimp only; omega) _, (HQ12.out.2.2.1.far (by dsimp only; omega) _).far (by dsimp only; omega) _, (HQ12.out.2.2.2.st 0 _).st 1 _⟩
                      go_wp2_with fail
                      go_roundw
                      case rel => exact ⟨i + 1, _, _, _, _, _, rfl, by go_num, by omega, HFF.out.1, HFF.out.2.1, HFF.out.2.2.1, HFF.out.2.2.2.1, HFF.out.2.2.2.2⟩
                      case measure => simp [intOf]; omega
      · have wv1 : IntKind.i64.wrap 16 = 16 := by decide
        have wv2 : IntKind.i64.wrap (2 ^ 4) = 16 := by decide
        clear HY
        go_wp2_with fail
        refine wp_region_noPanic ?_
        refine Rb.wp_region_till (S := fun W => W.cell? (⟨w.heap.size + 1 + 1, 0, none⟩ : Addr) = some u ∧ W.cell? (⟨w.heap.size + 1 + 1, 1, none⟩ : Addr) = some v) 14 (by kernel_rfl) ?_ (fun hH0 => ?_)
        · (try dsimp only); exact KS.out _ (HQ6.out.2.2.2.bel (by repeat (first | exact Bel.rf | with_reducible refine Bel.drwN ?_ _ | with_reducible refine Bel.drw ?_ | with_reducible refine Bel.al ?_ _)))
        refine Rb.till_take (i := 0) (oi := ⟨some 16, .fieldAddr 32 (.tmp 5) 0, 0, "make.go:186", #[], none⟩) (v := ?_) rfl (by kernel_rfl) (by kernel_rfl) (by kernel_rfl) (fun _ _ _ h => h) (by decide) opW rfl (by kernel_rfl) (by kernel_rfl) (Or.inl ⟨by kernel_rfl, ?_⟩) (by assumption) ?_
        rotate_left
        · (intro w hSw; (try dsimp only at hSw); obtain ⟨d1, d2⟩ := hSw; go_simp; try with_reducible rfl)
        try simp only [Act.put, setIfInBounds_toArray, set_cons_zero, set_cons_succ]
        refine Rb.till_take (i := 1) (oi := ⟨some 17, .load 22 (.tmp 16), 22, "make.go:186", #[⟨0, .data⟩], none⟩) (v := ?_) rfl (by kernel_rfl) (by kernel_rfl) (by kernel_rfl) (fun _ _ _ h => h) (by decide) opW rfl (by kernel_rfl) (by kernel_rfl) (Or.inl ⟨by kernel_rfl, ?_⟩) (by assumption) ?_
        rotate_left
        · (intro w hSw; (try dsimp only at hSw); obtain ⟨d1, d2⟩ := hSw; go_simp; try with_reducible rfl)
        try simp only [Act.put, setIfInBounds_toArray, set_cons_zero, set_cons_succ]
        refine Rb.till_take (i := 2) (oi := ⟨some 18, .move (.tmp 0), 23, "make.go:186", #[], none⟩) (v := ?_) rfl (by kernel_rfl) (by kernel_rfl) (by kernel_rfl) (fun _ _ _ h => h) (by decide) opW rfl (by kernel_rfl) (by kernel_rfl) (Or.inl ⟨by kernel_rfl, ?_⟩) (by assumption) ?_
        rotate_left
        · (intro w hSw; (try dsimp only at hSw); obtain ⟨d1, d2⟩ := hSw; go_simp; try with_reducible rfl)
        try simp only [Act.put, setIfInBounds_toArray, set_cons_zero, set_cons_succ]
        refine Rb.till_take (i := 3) (oi := ⟨some 19, .move (.tmp 7), 3, "make.go:186", #[], none⟩) (v := ?_) rfl (by kernel_rfl) (by kernel_rfl) (by kernel_rfl) (fun _ _ _ h => h) (by decide) opW rfl (by kernel_rfl) (by kernel_rfl) (Or.inl ⟨by kernel_rfl, ?_⟩) (by assumption) ?_
        rotate_left
        · (intro w hSw; (try dsimp only at hSw); obtain ⟨d1, d2⟩ := hSw; go_simp; try with_reducible rfl)
        try simp only [Act.put, setIfInBounds_toArray, set_cons_zero, set_cons_succ]
        refine Rb.till_take (i := 4) (oi := ⟨some 20, .binOp BinOp.shl 3 (.const (.int IntKind.i64 1)) (.tmp 19) 3, 3, "make.go:186", #[⟨3, .data⟩], none⟩) (v := ?_) rfl (by kernel_rfl) (by kernel_rfl) (by kernel_rfl) (fun _ _ _ h => h) (by decide) opW rfl (by kernel_rfl) (by kernel_rfl) (Or.inl ⟨by kernel_rfl, ?_⟩) (by assumption) ?_
        rotate_left
        · (intro w hSw; (try dsimp only at hSw); obtain ⟨d1, d2⟩ := hSw; go_simp; try with_reducible rfl)
        try simp only [Act.put, setIfInBounds_toArray, set_cons_zero, set_cons_succ]
        refine Rb.till_take (i := 8) (oi := ⟨some 24, .fieldAddr 32 (.tmp 5) 1, 0, "make.go:186", #[], none⟩) (v := ?_) rfl (by kernel_rfl) (by kernel_rfl) (by kernel_rfl) (fun _ _ _ h => h) (by decide) opW rfl (by kernel_rfl) (by kernel_rfl) (Or.inl ⟨by kernel_rfl, ?_⟩) (by assumption) ?_
        rotate_left
        · (intro w hSw; (try dsimp only at hSw); obtain ⟨d1, d2⟩ := hSw; go_simp; try with_reducible rfl)
        try simp only [Act.put, setIfInBounds_toArray, set_cons_zero, set_cons_succ]
        refine Rb.till_take (i := 9) (oi := ⟨some 25, .load 22 (.tmp 24), 22, "make.go:186", #[⟨8, .data⟩], none⟩) (v := ?_) rfl (by kernel_rfl) (by kernel_rfl) (by kernel_rfl) (fun _ _ _ h => h) (by decide) opW rfl (by kernel_rfl) (by kernel_rfl) (Or.inl ⟨by kernel_rfl, ?_⟩) (by assumption) ?_
        rotate_left
        · (intro w hSw; (try dsimp only at hSw); obtain ⟨d1, d2⟩ := hSw; go_simp; try with_reducible rfl)
        try simp only [Act.put, setIfInBounds_toArray, set_cons_zero, set_cons_succ]
        refine Rb.till_free (i := 10) (oi := ⟨some 26, .move (.tmp 7), 3, "make.go:186", #[], none⟩) (v := ?_) rfl (by kernel_rfl) (by kernel_rfl) (by kernel_rfl) (fun _ _ _ h => h) (by decide) (Or.inl ⟨by kernel_rfl, ?_⟩) (fun _ => by assumption) ?_
        rotate_left
        · (intro w hSw; clear hSw; go_simp; try with_reducible rfl)
        try simp only [Act.put, setIfInBounds_toArray, set_cons_zero, set_cons_succ]
        refine Rb.till_ready (rs := [5, 11]) (by kernel_rfl) (by simp) ?_
        refine Rb.AllT.cons (o := ⟨some 21, .call { callee := Callee.value (.func 21), args := #[.tmp 18, .tmp 20], argTypes := #[23, 3] }, 3, "make.go:186", #[⟨2, .data⟩, ⟨4, .data⟩], none⟩) rfl (fun K hK => ?_) (Rb.AllT.cons (o := ⟨some 27, .buildSlice 22 1 #[(0, .tmp 26)], 22, "make.go:186", #[⟨10, .data⟩], none⟩) rfl (fun K hK => ?_) (Rb.AllT.nil))
        · go_simp
          go_at_call 21; (try simp only [wv1, wv2]); refine (n_any g 16 (by decide) (by decide) _ (HQ6.out.1.ok.bel (by repeat (first | exact Bel.rf | with_reducible refine Bel.drwN ?_ _ | with_reducible refine Bel.drw ?_ | with_reducible refine Bel.al ?_ _)))).mono ?_; rintro e x5 ⟨s, rfl, s0, s1, ho5, hc5⟩; have hcd : Ch g w6 x5 := (Ch.of_bel (by repeat (first | exact Bel.rf | with_reducible refine Bel.drwN ?_ _ | with_reducible refine Bel.drw ?_ | with_reducible refine Bel.al ?_ _))).tr hc5; have HQ5 : Hid (Wq g (w.heap.size + 1 + 1 + 1) w x5 u v i i S B ∧ Bk x5 w.heap.size 28 #[.int .i64 k, .int .i64 b, .int .i64 q, .int .i64 (m : Int), .int .i64 (n : Int), .slice A nc cc] ∧ Bk x5 (w.heap.size + 1) 32 #[.slice none 0 0, .slice none 0 0] ∧ Bk x5 (w.heap.size + 1 + 1) 32 #[u, v]) := ⟨HQ6.out.1.to ho5 hcd, hcd.bk HQ6.out.2.1 (by have := HGB.out; omega), hcd.bk HQ6.out.2.2.1 (by have := HGB.out; omega), hcd.bk HQ6.out.2.2.2 (by have := HGB.out; omega)⟩; have HS5 := Lib.hid (And.intro s0 s1); clear ho5 hc5 hcd s0 s1
          try go_wp2_with fail
          refine hK.out _ _ ?_ (fun hH1 => ?_)
          · (try dsimp only); exact KS.out _ (HQ5.out.2.2.2.bel (by repeat (first | exact Bel.rf | with_reducible refine Bel.drwN ?_ _ | with_reducible refine Bel.drw ?_ | with_reducible refine Bel.al ?_ _)))
          clear hK K hH0
          try simp only [Act.put, setIfInBounds_toArray, set_cons_zero, set_cons_succ]
          refine Rb.till_ready (rs := [6, 11]) (by kernel_rfl) (by simp) ?_
          refine Rb.AllT.cons (o := ⟨some 22, .buildSlice 22 1 #[(0, .tmp 21)], 22, "make.go:186", #[⟨5, .data⟩], none⟩) rfl (fun K hK => ?_) (Rb.AllT.cons (o := ⟨some 27, .buildSlice 22 1 #[(0, .tmp 26)], 22, "make.go:186", #[⟨10, .data⟩], none⟩) rfl (fun K hK => ?_) (Rb.AllT.nil))
          · go_simp
            try go_wp2_with fail
            refine hK.out _ _ ?_ (fun hH2 => ?_)
            · (try dsimp only); exact KS.out _ (HQ5.out.2.2.2.bel (by repeat (first | exact Bel.rf | with_reducible refine Bel.drwN ?_ _ | with_reducible refine Bel.drw ?_ | with_reducible refine Bel.al ?_ _)))
            clear hK K hH1
            try simp only [Act.put, setIfInBounds_toArray, set_cons_zero, set_cons_succ]
            refine Rb.till_ready (rs := [7, 11]) (by kernel_rfl) (by simp) ?_
            refine Rb.AllT.cons (o := ⟨some 23, .call { callee := Callee.builtin Builtin.append, args := #[.tmp 17, .tmp 22], argTypes := #[22, 22] }, 22, "make.go:186", #[⟨1, .data⟩, ⟨6, .data⟩, ⟨5, .chain⟩], none⟩) rfl (fun K hK => ?_) (Rb.AllT.cons (o := ⟨some 27, .buildSlice 22 1 #[(0, .tmp 26)], 22, "make.go:186", #[⟨10, .data⟩], none⟩) rfl (fun K hK => ?_) (Rb.AllT.nil))
            · refine step_app _ rfl (.tmp 17) (.tmp 22) rfl (w.heap.size + 1 + 1 + 1) u i S rfl (own_bel HQ5.out.1.ou (by repeat (first | exact Bel.rf | with_reducible refine Bel.drwN ?_ _ | with_reducible refine Bel.drw ?_ | with_reducible refine Bel.al ?_ _))) ⟨x5.heap.size, 0, none⟩ 1 1 [s] rfl (zi_bk (L := [s]) ((by repeat (first | (refine Bk.nq _ _ _ ?_; simp; done) | with_reducible refine Bk.drwN ?_ _ | with_reducible refine Bk.drw ?_ | with_reducible refine Bk.al ?_ _)) : Bk _ x5.heap.size 3 (zs [s]).toArray) 1 rfl) HI1.out (by have := HQ5.out.1.sz; simp; omega) ?_; intro v7 x7 h7 hg7 ha7; obtain ⟨A7, c7, hv7, _⟩ := own_any h7; subst hv7; have HQ7 : Hid (Wq g (w.heap.size + 1 + 1 + 1) w x7 (.slice A7 (i + 1) c7) v (i + 1) i (S ++ [s]) B ∧ Bk x7 w.heap.size 28 #[.int .i64 k, .int .i64 b, .int .i64 q, .int .i64 (m : Int), .int .i64 (n : Int), .slice A nc cc] ∧ Bk x7 (w.heap.size + 1) 32 #[.slice none 0 0, .slice none 0 0] ∧ Bk x7 (w.heap.size + 1 + 1) 32 #[u, v]) := ⟨(HQ5.out.1.up (by repeat (first | exact Bel.rf | with_reducible refine Bel.drwN ?_ _ | with_reducible refine Bel.drw ?_ | with_reducible refine Bel.al ?_ _))).ax h7 hg7 ha7, bk_grw (HQ5.out.2.1.bel (by repeat (first | exact Bel.rf | with_reducible refine Bel.drwN ?_ _ | with_reducible refine Bel.drw ?_ | with_reducible refine Bel.al ?_ _))) hg7 (fun e => by have := (HQ5.out.1.ou.lt _ e).1; omega), bk_grw (HQ5.out.2.2.1.bel (by repeat (first | exact Bel.rf | with_reducible refine Bel.drwN ?_ _ | with_reducible refine Bel.drw ?_ | with_reducible refine Bel.al ?_ _))) hg7 (fun e => by have := (HQ5.out.1.ou.lt _ e).1; omega), bk_grw (HQ5.out.2.2.2.bel (by repeat (first | exact Bel.rf | with_reducible refine Bel.drwN ?_ _ | with_reducible refine Bel.drw ?_ | with_reducible refine Bel.al ?_ _))) hg7 (fun e => by have := (HQ5.out.1.ou.lt _ e).1; omega)⟩; clear h7 hg7 ha7
              try go_wp2_with fail
              refine hK.out _ _ ?_ (fun hH3 => ?_)
              · (try dsimp only); exact KS.out _ (HQ7.out.2.2.2.bel (by repeat (first | exact Bel.rf | with_reducible refine Bel.drwN ?_ _ | with_reducible refine Bel.drw ?_ | with_reducible refine Bel.al ?_ _)))
              clear hK K hH2
              try simp only [Act.put, setIfInBounds_toArray, set_cons_zero, set_cons_succ]
              refine Rb.till_take (i := 13) (oi := ⟨some 29, .fieldAddr 32 (.tmp 5) 0, 0, "make.go:186", #[⟨0, .phase⟩, ⟨1, .phase⟩, ⟨2, .phase⟩, ⟨3, .phase⟩, ⟨4, .phase⟩, ⟨5, .phase⟩, ⟨6, .phase⟩, ⟨7, .phase⟩, ⟨8, .phase⟩, ⟨9, .phase⟩, ⟨10, .textOnly Departure.lateStores⟩, ⟨11, .textOnly Departure.lateStores⟩, ⟨12, .textOnly Departure.lateStoresUnsure⟩], none⟩) (v := ?_) rfl (by kernel_rfl) (by kernel_rfl) (by kernel_rfl) (fun _ _ _ h => h) (by decide) opW rfl (by kernel_rfl) (by kernel_rfl) (Or.inl ⟨by kernel_rfl, ?_⟩) (by assumption) ?_
              rotate_left
              · (intro w hSw; (try dsimp only at hSw); obtain ⟨d1, d2⟩ := hSw; go_simp; try with_reducible rfl)
              try simp only [Act.put, setIfInBounds_toArray, set_cons_zero, set_cons_succ]
              refine Rb.till_ready (rs := [11]) (by kernel_rfl) (by simp) ?_
              refine Rb.AllT.cons (o := ⟨some 27, .buildSlice 22 1 #[(0, .tmp 26)], 22, "make.go:186", #[⟨10, .data⟩], none⟩) rfl (fun K hK => ?_) (Rb.AllT.nil)
              · go_simp
                try go_wp2_with fail
                refine hK.out _ _ ?_ (fun hH4 => ?_)
                · (try dsimp only); exact KS.out _ (HQ7.out.2.2.2.bel (by repeat (first | exact Bel.rf | with_reducible refine Bel.drwN ?_ _ | with_reducible refine Bel.drw ?_ | with_reducible refine Bel.al ?_ _)))
                clear hK K hH3
                try simp only [Act.put, setIfInBounds_toArray, set_cons_zero, set_cons_succ]
                refine Rb.till_ready (rs := [12]) (by kernel_rfl) (by simp) ?_
                refine Rb.AllT.cons (o := ⟨some 28, .call { callee := Callee.builtin Builtin.append, args := #[.tmp 25, .tmp 27], argTypes := #[22, 22] }, 22, "make.go:186", #[⟨9, .data⟩, ⟨11, .data⟩, ⟨7, .chain⟩], none⟩) rfl (fun K hK => ?_) (Rb.AllT.nil)
                · refine step_app _ rfl (.tmp 25) (.tmp 27) rfl (w.heap.size + 1 + 1 + 1) v i B rfl (own_bel HQ7.out.1.ov (by repeat (first | exact Bel.rf | with_reducible refine Bel.drwN ?_ _ | with_reducible refine Bel.drw ?_ | with_reducible refine Bel.al ?_ _))) ⟨x7.heap.size, 0, none⟩ 1 1 [4] rfl (zi_bk (L := [4]) ((by repeat (first | (refine Bk.nq _ _ _ ?_; simp; done) | with_reducible refine Bk.drwN ?_ _ | with_reducible refine Bk.drw ?_ | with_reducible refine Bk.al ?_ _)) : Bk _ x7.heap.size 3 (zs [4]).toArray) 1 rfl) HI1.out (by have := HQ7.out.1.sz; simp; omega) ?_; intro v12 x12 h12 hg12 ha12; obtain ⟨A12, c12, hv12, _⟩ := own_any h12; subst hv12; have HQ12 : Hid (Wq g (w.heap.size + 1 + 1 + 1) w x12 (.slice A7 (i + 1) c7) (.slice A12 (i + 1) c12) (i + 1) (i + 1) (S ++ [s]) (B ++ [4]) ∧ Bk x12 w.heap.size 28 #[.int .i64 k, .int .i64 b, .int .i64 q, .int .i64 (m : Int), .int .i64 (n : Int), .slice A nc cc] ∧ Bk x12 (w.heap.size + 1) 32 #[.slice none 0 0, .slice none 0 0] ∧ Bk x12 (w.heap.size + 1 + 1) 32 #[u, v]) := ⟨((HQ7.out.1.up (by repeat (first | exact Bel.rf | with_reducible refine Bel.drwN ?_ _ | with_reducible refine Bel.drw ?_ | with_reducible refine Bel.al ?_ _))).sx.ax h12 hg12 ha12).sx, bk_grw (HQ7.out.2.1.bel (by repeat (first | exact Bel.rf | with_reducible refine Bel.drwN ?_ _ | with_reducible refine Bel.drw ?_ | with_reducible refine Bel.al ?_ _))) hg12 (fun e => by have := (HQ7.out.1.ov.lt _ e).1; omega), bk_grw (HQ7.out.2.2.1.bel (by repeat (first | exact Bel.rf | with_reducible refine Bel.drwN ?_ _ | with_reducible refine Bel.drw ?_ | with_reducible refine Bel.al ?_ _))) hg12 (fun e => by have := (HQ7.out.1.ov.lt _ e).1; omega), bk_grw (HQ7.out.2.2.2.bel (by repeat (first | exact Bel.rf | with_reducible refine Bel.drwN ?_ _ | with_reducible refine Bel.drw ?_ | with_reducible refine Bel.al ?_ _))) hg12 (fun e => by have := (HQ7.out.1.ov.lt _ e).1; omega)⟩; have y0 := HQ12.out.2.2.2.cell 0; have y1 := HQ12.out.2.2.2.cell 1; have z0 := HQ12.out.2.2.2.fr 0; have z1 := HQ12.out.2.2.2.fr 1; simp only [List.getElem?_toArray, List.getElem?_cons_zero, List.getElem?_cons_succ] at y0 y1; clear h12 hg12 ha12
                  try go_wp2_with fail
                  refine hK.out _ _ ?_ (fun hH5 => ?_)
                  · (try dsimp only); exact KS.out _ (HQ12.out.2.2.2.bel (by repeat (first | exact Bel.rf | with_reducible refine Bel.drwN ?_ _ | with_reducible refine Bel.drw ?_ | with_reducible refine Bel.al ?_ _)))
                  clear hK K hH4
                  try simp only [Act.put, setIfInBounds_toArray, set_cons_zero, set_cons_succ]
                  refine Rb.till_ready (rs := [14]) (by kernel_rfl) (by simp) ?_
                  refine Rb.AllT.past (o := ⟨none, .store 22 (.tmp 29) (.tmp 23), 0, "make.go:186", #[⟨13, .data⟩, ⟨7, .data⟩, ⟨12, .chain⟩, ⟨0, .phase⟩, ⟨1, .phase⟩, ⟨2, .phase⟩, ⟨3, .phase⟩, ⟨4, .phase⟩, ⟨5, .phase⟩, ⟨6, .phase⟩, ⟨7, .phase⟩, ⟨8, .phase⟩, ⟨9, .phase⟩, ⟨10, .textOnly Departure.lateStores⟩, ⟨11, .textOnly Departure.lateStores⟩, ⟨12, .textOnly Departure.lateStoresUnsure⟩], none⟩) rfl (by kernel_rfl) (fun K hK => ?_) (Rb.AllT.nil)
                  · go_simp
                    try go_wp2_with fail
                    refine hK.out _ _ trivial (fun hH6 => ?_)
                    clear hK K hH5
                    try simp only [Act.put, setIfInBounds_toArray, set_cons_zero, set_cons_succ]
                    refine Rb.till_free (i := 15) (oi := ⟨some 30, .fieldAddr 32 (.tmp 5) 1, 0, "make.go:186", #[⟨0, .phase⟩, ⟨1, .phase⟩, ⟨2, .phase⟩, ⟨3, .phase⟩, ⟨4, .phase⟩, ⟨5, .phase⟩, ⟨6, .phase⟩, ⟨7, .phase⟩, ⟨8, .phase⟩, ⟨9, .phase⟩, ⟨10, .phase⟩, ⟨11, .phase⟩, ⟨12, .phase⟩, ⟨13, .phase⟩, ⟨14, .phase⟩], none⟩) (v := ?_) rfl (by kernel_rfl) (by kernel_rfl) (by kernel_rfl) (fun _ _ _ h => h) (by decide) (Or.inl ⟨by kernel_rfl, ?_⟩) (fun h => absurd h (by decide)) ?_
                    rotate_left
                    · (intro w hSw; clear hSw; go_simp; try with_reducible rfl)
                    try simp only [Act.put, setIfInBounds_toArray, set_cons_zero, set_cons_succ]
                    refine Rb.till_ready (rs := [16]) (by kernel_rfl) (by simp) ?_
                    refine Rb.AllT.past (o := ⟨none, .store 22 (.tmp 30) (.tmp 28), 0, "make.go:186", #[⟨15, .data⟩, ⟨12, .data⟩, ⟨14, .chain⟩, ⟨0, .phase⟩, ⟨1, .phase⟩, ⟨2, .phase⟩, ⟨3, .phase⟩, ⟨4, .phase⟩, ⟨5, .phase⟩, ⟨6, .phase⟩, ⟨7, .phase⟩, ⟨8, .phase⟩, ⟨9, .phase⟩, ⟨10, .phase⟩, ⟨11, .phase⟩, ⟨12, .phase⟩, ⟨13, .phase⟩, ⟨14, .phase⟩], none⟩) rfl (by kernel_rfl) (fun K hK => ?_) (Rb.AllT.nil)
                    · go_simp
                      try go_wp2_with fail
                      refine hK.out _ _ trivial (fun hH7 => ?_)
                      clear hK K hH6
                      try simp only [Act.put, setIfInBounds_toArray, set_cons_zero, set_cons_succ]
                      refine Rb.till_done (by kernel_rfl) ?_ _
                      refine NoPanic.normal ?_
                      have HFF : Hid (Gd (i + 1) (S ++ [s]) (B ++ [4]) ∧ Wq g (w.heap.size + 1 + 1 + 1) w ((x12.setCell ⟨w.heap.size + 1 + 1, 0, none⟩ (.slice A7 (i + 1) c7)).setCell ⟨w.heap.size + 1 + 1, 1, none⟩ (.slice A12 (i + 1) c12)) (.slice A7 (i + 1) c7) (.slice A12 (i + 1) c12) (i + 1) (i + 1) (S ++ [s]) (B ++ [4]) ∧ Bk ((x12.setCell ⟨w.heap.size + 1 + 1, 0, none⟩ (.slice A7 (i + 1) c7)).setCell ⟨w.heap.size + 1 + 1, 1, none⟩ (.slice A12 (i + 1) c12)) w.heap.size 28 #[.int .i64 k, .int .i64 b, .int .i64 q, .int .i64 (m : Int), .int .i64 (n : Int), .slice A nc cc] ∧ Bk ((x12.setCell ⟨w.heap.size + 1 + 1, 0, none⟩ (.slice A7 (i + 1) c7)).setCell ⟨w.heap.size + 1 + 1, 1, none⟩ (.slice A12 (i + 1) c12)) (w.heap.size + 1) 32 #[.slice none 0 0, .slice none 0 0] ∧ Bk ((x12.setCell ⟨w.heap.size + 1 + 1, 0, none⟩ (.slice A7 (i + 1) c7)).setCell ⟨w.heap.size + 1 + 1, 1, none⟩ (.slice A12 (i + 1) c12)) (w.heap.size + 1 + 1) 32 #[.slice A7 (i + 1) c7, .slice A12 (i + 1) c12]) := ⟨gd_snoc HGD.out (by decide) (by decide) HS5.out.1 (show s < 2 ^ (4 : Int).toNat from HS5.out.2), (HQ12.out.1.st (by omega) (by omega) (by have := HGB.out; omega) _ _).st (by omega) (by omega) (by have := HGB.out; omega) _ _, (HQ12.out.2.1.far (by dsimp only; omega) _).far (by dsimp only; omega) _, (HQ12.out.2.2.1.far (by dsimp only; omega) _).far (by dsimp only; omega) _, (HQ12.out.2.2.2.st 0 _).st 1 _⟩
                      go_wp2_with fail
                      go_roundw
                      case rel => exact ⟨i + 1, _, _, _, _, _, rfl, by go_num, by omega, HFF.out.1, HFF.out.2.1, HFF.out.2.2.1, HFF.out.2.2.2.1, HFF.out.2.2.2.2⟩
                      case measure => simp [intOf]; omega
            · go_simp
              try go_wp2_with fail
              refine hK.out _ _ ?_ (fun hH3 => ?_)
              · (try dsimp only); exact KS.out _ (HQ5.out.2.2.2.bel (by repeat (first | exact Bel.rf | with_reducible refine Bel.drwN ?_ _ | with_reducible refine Bel.drw ?_ | with_reducible refine Bel.al ?_ _)))
              clear hK K hH2
              try simp only [Act.put, setIfInBounds_toArray, set_cons_zero, set_cons_succ]
              refine Rb.till_ready (rs := [7]) (by kernel_rfl) (by simp) ?_
              refine Rb.AllT.cons (o := ⟨some 23, .call { callee := Callee.builtin Builtin.append, args := #[.tmp 17, .tmp 22], argTypes := #[22, 22] }, 22, "make.go:186", #[⟨1, .data⟩, ⟨6, .data⟩, ⟨5, .chain⟩], none⟩) rfl (fun K hK => ?_) (Rb.AllT.nil)
              · refine step_app _ rfl (.tmp 17) (.tmp 22) rfl (w.heap.size + 1 + 1 + 1) u i S rfl (own_bel HQ5.out.1.ou (by repeat (first | exact Bel.rf | with_reducible refine Bel.drwN ?_ _ | with_reducible refine Bel.drw ?_ | with_reducible refine Bel.al ?_ _))) ⟨x5.heap.size, 0, none⟩ 1 1 [s] rfl (zi_bk (L := [s]) ((by repeat (first | (refine Bk.nq _ _ _ ?_; simp; done) | with_reducible refine Bk.drwN ?_ _ | with_reducible refine Bk.drw ?_ | with_reducible refine Bk.al ?_ _)) : Bk _ x5.heap.size 3 (zs [s]).toArray) 1 rfl) HI1.out (by have := HQ5.out.1.sz; simp; omega) ?_; intro v7 x7 h7 hg7 ha7; obtain ⟨A7, c7, hv7, _⟩ := own_any h7; subst hv7; have HQ7 : Hid (Wq g (w.heap.size + 1 + 1 + 1) w x7 (.slice A7 (i + 1) c7) v (i + 1) i (S ++ [s]) B ∧ Bk x7 w.heap.size 28 #[.int .i64 k, .int .i64 b, .int .i64 q, .int .i64 (m : Int), .int .i64 (n : Int), .slice A nc cc] ∧ Bk x7 (w.heap.size + 1) 32 #[.slice none 0 0, .slice none 0 0] ∧ Bk x7 (w.heap.size + 1 + 1) 32 #[u, v]) := ⟨(HQ5.out.1.up (by repeat (first | exact Bel.rf | with_reducible refine Bel.drwN ?_ _ | with_reducible refine Bel.drw ?_ | with_reducible refine Bel.al ?_ _))).ax h7 hg7 ha7, bk_grw (HQ5.out.2.1.bel (by repeat (first | exact Bel.rf | with_reducible refine Bel.drwN ?_ _ | with_reducible refine Bel.drw ?_ | with_reducible refine Bel.al ?_ _))) hg7 (fun e => by have := (HQ5.out.1.ou.lt _ e).1; omega), bk_grw (HQ5.out.2.2.1.bel (by repeat (first | exact Bel.rf | with_reducible refine Bel.drwN ?_ _ | with_reducible refine Bel.drw ?_ | with_reducible refine Bel.al ?_ _))) hg7 (fun e => by have := (HQ5.out.1.ou.lt _ e).1; omega), bk_grw (HQ5.out.2.2.2.bel (by repeat (first | exact Bel.rf | with_reducible refine Bel.drwN ?_ _ | with_reducible refine Bel.drw ?_ | with_reducible refine Bel.al ?_ _))) hg7 (fun e => by have := (HQ5.out.1.ou.lt _ e).1; omega)⟩; have HX7 : Hid (Bk x7 (x5.heap.size + 1) 3 #[.int .i64 4]) := bk_grw ((by repeat (first | (refine Bk.nq _ _ _ ?_; simp; done) | with_reducible refine Bk.drwN ?_ _ | with_reducible refine Bk.drw ?_ | with_reducible refine Bk.al ?_ _)) : Bk _ (x5.heap.size + 1) 3 #[.int .i64 4]) hg7 (fun e => by have := (HQ5.out.1.ou.lt _ e).2; omega); clear h7 hg7 ha7
                try go_wp2_with fail
                refine hK.out _ _ ?_ (fun hH4 => ?_)
                · (try dsimp only); exact KS.out _ (HQ7.out.2.2.2.bel (by repeat (first | exact Bel.rf | with_reducible refine Bel.drwN ?_ _ | with_reducible refine Bel.drw ?_ | with_reducible refine Bel.al ?_ _)))
                clear hK K hH3
                try simp only [Act.put, setIfInBounds_toArray, set_cons_zero, set_cons_succ]
                refine Rb.till_take (i := 13) (oi := ⟨some 29, .fieldAddr 32 (.tmp 5) 0, 0, "make.go:186", #[⟨0, .phase⟩, ⟨1, .phase⟩, ⟨2, .phase⟩, ⟨3, .phase⟩, ⟨4, .phase⟩, ⟨5, .phase⟩, ⟨6, .phase⟩, ⟨7, .phase⟩, ⟨8, .phase⟩, ⟨9, .phase⟩, ⟨10, .textOnly Departure.lateStores⟩, ⟨11, .textOnly Departure.lateStores⟩, ⟨12, .textOnly Departure.lateStoresUnsure⟩], none⟩) (v := ?_) rfl (by kernel_rfl) (by kernel_rfl) (by kernel_rfl) (fun _ _ _ h => h) (by decide) opW rfl (by kernel_rfl) (by kernel_rfl) (Or.inl ⟨by kernel_rfl, ?_⟩) (by assumption) ?_
                rotate_left
                · (intro w hSw; (try dsimp only at hSw); obtain ⟨d1, d2⟩ := hSw; go_simp; try with_reducible rfl)
                try simp only [Act.put, setIfInBounds_toArray, set_cons_zero, set_cons_succ]
                refine Rb.till_ready (rs := [12]) (by kernel_rfl) (by simp) ?_
                refine Rb.AllT.cons (o := ⟨some 28, .call { callee := Callee.builtin Builtin.append, args := #[.tmp 25, .tmp 27], argTypes := #[22, 22] }, 22, "make.go:186", #[⟨9, .data⟩, ⟨11, .data⟩, ⟨7, .chain⟩], none⟩) rfl (fun K hK => ?_) (Rb.AllT.nil)
                · refine step_app _ rfl (.tmp 25) (.tmp 27) rfl (w.heap.size + 1 + 1 + 1) v i B rfl (own_bel HQ7.out.1.ov (by repeat (first | exact Bel.rf | with_reducible refine Bel.drwN ?_ _ | with_reducible refine Bel.drw ?_ | with_reducible refine Bel.al ?_ _))) ⟨x5.heap.size + 1, 0, none⟩ 1 1 [4] rfl (zi_bk (L := [4]) (HX7.out.bel (by repeat (first | exact Bel.rf | with_reducible refine Bel.drwN ?_ _ | with_reducible refine Bel.drw ?_ | with_reducible refine Bel.al ?_ _))) 1 rfl) HI1.out (by have := HQ7.out.1.sz; simp; omega) ?_; intro v12 x12 h12 hg12 ha12; obtain ⟨A12, c12, hv12, _⟩ := own_any h12; subst hv12; have HQ12 : Hid (Wq g (w.heap.size + 1 + 1 + 1) w x12 (.slice A7 (i + 1) c7) (.slice A12 (i + 1) c12) (i + 1) (i + 1) (S ++ [s]) (B ++ [4]) ∧ Bk x12 w.heap.size 28 #[.int .i64 k, .int .i64 b, .int .i64 q, .int .i64 (m : Int), .int .i64 (n : Int), .slice A nc cc] ∧ Bk x12 (w.heap.size + 1) 32 #[.slice none 0 0, .slice none 0 0] ∧ Bk x12 (w.heap.size + 1 + 1) 32 #[u, v]) := ⟨((HQ7.out.1.up (by repeat (first | exact Bel.rf | with_reducible refine Bel.drwN ?_ _ | with_reducible refine Bel.drw ?_ | with_reducible refine Bel.al ?_ _))).sx.ax h12 hg12 ha12).sx, bk_grw (HQ7.out.2.1.bel (by repeat (first | exact Bel.rf | with_reducible refine Bel.drwN ?_ _ | with_reducible refine Bel.drw ?_ | with_reducible refine Bel.al ?_ _))) hg12 (fun e => by have := (HQ7.out.1.ov.lt _ e).1; omega), bk_grw (HQ7.out.2.2.1.bel (by repeat (first | exact Bel.rf | with_reducible refine Bel.drwN ?_ _ | with_reducible refine Bel.drw ?_ | with_reducible refine Bel.al ?_ _))) hg12 (fun e => by have := (HQ7.out.1.ov.lt _ e).1; omega), bk_grw (HQ7.out.2.2.2.bel (by repeat (first | exact Bel.rf | with_reducible refine Bel.drwN ?_ _ | with_reducible refine Bel.drw ?_ | with_reducible refine Bel.al ?_ _))) hg12 (fun e => by have := (HQ7.out.1.ov.lt _ e).1; omega)⟩; have y0 := HQ12.out.2.2.2.cell 0; have y1 := HQ12.out.2.2.2.cell 1; have z0 := HQ12.out.2.2.2.fr 0; have z1 := HQ12.out.2.2.2.fr 1; simp only [List.getElem?_toArray, List.getElem?_cons_zero, List.getElem?_cons_succ] at y0 y1; clear h12 hg12 ha12
                  try go_wp2_with fail
                  refine hK.out _ _ ?_ (fun hH5 => ?_)
                  · (try dsimp only); exact KS.out _ (HQ12.out.2.2.2.bel (by repeat (first | exact Bel.rf | with_reducible refine Bel.drwN ?_ _ | with_reducible refine Bel.drw ?_ | with_reducible refine Bel.al ?_ _)))
                  clear hK K hH4
                  try simp only [Act.put, setIfInBounds_toArray, set_cons_zero, set_cons_succ]
                  refine Rb.till_ready (rs := [14]) (by kernel_rfl) (by simp) ?_
                  refine Rb.AllT.past (o := ⟨none, .store 22 (.tmp 29) (.tmp 23), 0, "make.go:186", #[⟨13, .data⟩, ⟨7, .data⟩, ⟨12, .chain⟩, ⟨0, .phase⟩, ⟨1, .phase⟩, ⟨2, .phase⟩, ⟨3, .phase⟩, ⟨4, .phase⟩, ⟨5, .phase⟩, ⟨6, .phase⟩, ⟨7, .phase⟩, ⟨8, .phase⟩, ⟨9, .phase⟩, ⟨10, .textOnly Departure.lateStores⟩, ⟨11, .textOnly Departure.lateStores⟩, ⟨12, .textOnly Departure.lateStoresUnsure⟩], none⟩) rfl (by kernel_rfl) (fun K hK => ?_) (Rb.AllT.nil)
                  · go_simp
                    try go_wp2_with fail
                    refine hK.out _ _ trivial (fun hH6 => ?_)
                    clear hK K hH5
                    try simp only [Act.put, setIfInBounds_toArray, set_cons_zero, set_cons_succ]
                    refine Rb.till_free (i := 15) (oi := ⟨some 30, .fieldAddr 32 (.tmp 5) 1, 0, "make.go:186", #[⟨0, .phase⟩, ⟨1, .phase⟩, ⟨2, .phase⟩, ⟨3, .phase⟩, ⟨4, .phase⟩, ⟨5, .phase⟩, ⟨6, .phase⟩, ⟨7, .phase⟩, ⟨8, .phase⟩, ⟨9, .phase⟩, ⟨10, .phase⟩, ⟨11, .phase⟩, ⟨12, .phase⟩, ⟨13, .phase⟩, ⟨14, .phase⟩], none⟩) (v := ?_) rfl (by kernel_rfl) (by kernel_rfl) (by kernel_rfl) (fun _ _ _ h => h) (by decide) (Or.inl ⟨by kernel_rfl, ?_⟩) (fun h => absurd h (by decide)) ?_
                    rotate_left
                    · (intro w hSw; clear hSw; go_simp; try with_reducible rfl)
                    try simp only [Act.put, setIfInBounds_toArray, set_cons_zero, set_cons_succ]
                    refine Rb.till_ready (rs := [16]) (by kernel_rfl) (by simp) ?_
                    refine Rb.AllT.past (o := ⟨none, .store 22 (.tmp 30) (.tmp 28), 0, "make.go:186", #[⟨15, .data⟩, ⟨12, .data⟩, ⟨14, .chain⟩, ⟨0, .phase⟩, ⟨1, .phase⟩, ⟨2, .phase⟩, ⟨3, .phase⟩, ⟨4, .phase⟩, ⟨5, .phase⟩, ⟨6, .phase⟩, ⟨7, .phase⟩, ⟨8, .phase⟩, ⟨9, .phase⟩, ⟨10, .phase⟩, ⟨11, .phase⟩, ⟨12, .phase⟩, ⟨13, .phase⟩, ⟨14, .phase⟩], none⟩) rfl (by kernel_rfl) (fun K hK => ?_) (Rb.AllT.nil)
                    · go_simp
                      try go_wp2_with fail
                      refine hK.out _ _ trivial (fun hH7 => ?_)
                      clear hK K hH6
                      try simp only [Act.put, setIfInBounds_toArray, set_cons_zero, set_cons_succ]
                      refine Rb.till_done (by kernel_rfl) ?_ _
                      refine NoPanic.normal ?_
                      have HFF : Hid (Gd (i + 1) (S ++ [s]) (B ++ [4]) ∧ Wq g (w.heap.size + 1 + 1 + 1) w ((x12.setCell ⟨w.heap.size + 1 + 1, 0, none⟩ (.slice A7 (i + 1) c7)).setCell ⟨w.heap.size + 1 + 1, 1, none⟩ (.slice A12 (i + 1) c12)) (.slice A7 (i + 1) c7) (.slice A12 (i + 1) c12) (i + 1) (i + 1) (S ++ [s]) (B ++ [4]) ∧ Bk ((x12.setCell ⟨w.heap.size + 1 + 1, 0, none⟩ (.slice A7 (i + 1) c7)).setCell ⟨w.heap.size + 1 + 1, 1, none⟩ (.slice A12 (i + 1) c12)) w.heap.size 28 #[.int .i64 k, .int .i64 b, .int .i64 q, .int .i64 (m : Int), .int .i64 (n : Int), .slice A nc cc] ∧ Bk ((x12.setCell ⟨w.heap.size + 1 + 1, 0, none⟩ (.slice A7 (i + 1) c7)).setCell ⟨w.heap.size + 1 + 1, 1, none⟩ (.slice A12 (i + 1) c12)) (w.heap.size + 1) 32 #[.slice none 0 0, .slice none 0 0] ∧ Bk ((x12.setCell ⟨w.heap.size + 1 + 1, 0, none⟩ (.slice A7 (i + 1) c7)).setCell ⟨w.heap.size + 1 + 1, 1, none⟩ (.slice A12 (i + 1) c12)) (w.heap.size + 1 + 1) 32 #[.slice A7 (i + 1) c7, .slice A12 (i + 1) c12]) := ⟨gd_snoc HGD.out (by decide) (by decide) HS5.out.1 (show s < 2 ^ (4 : Int).toNat from HS5.out.2), (HQ12.out.1.st (by omega) (by omega) (by have := HGB.out; omega) _ _).st (by omega) (by omega) (by have := HGB.out; omega) _ _, (HQ12.out.2.1.far (by dsimp only; omega) _).far (by dsimp only; omega) _, (HQ12.out.2.2.1.far (by dsimp only; omega) _).far (by dsimp only; omega) _, (HQ12.out.2.2.2.st 0 _).st 1 _⟩
                      go_wp2_with fail
                      go_roundw
                      case rel => exact ⟨i + 1, _, _, _, _, _, rfl, by go_num, by omega, HFF.out.1, HFF.out.2.1, HFF.out.2.2.1, HFF.out.2.2.2.1, HFF.out.2.2.2.2⟩
                      case measure => simp [intOf]; omega
          · go_simp
            try go_wp2_with fail
            refine hK.out _ _ ?_ (fun hH2 => ?_)
            · (try dsimp only); exact KS.out _ (HQ5.out.2.2.2.bel (by repeat (first | exact Bel.rf | with_reducible refine Bel.drwN ?_ _ | with_reducible refine Bel.drw ?_ | with_reducible refine Bel.al ?_ _)))
            clear hK K hH1
            try simp only [Act.put, setIfInBounds_toArray, set_cons_zero, set_cons_succ]
            refine Rb.till_ready (rs := [6]) (by kernel_rfl) (by simp) ?_
            refine Rb.AllT.cons (o := ⟨some 22, .buildSlice 22 1 #[(0, .tmp 21)], 22, "make.go:186", #[⟨5, .data⟩], none⟩) rfl (fun K hK => ?_) (Rb.AllT.nil)
            · go_simp
              try go_wp2_with fail
              refine hK.out _ _ ?_ (fun hH3 => ?_)
              · (try dsimp only); exact KS.out _ (HQ5.out.2.2.2.bel (by repeat (first | exact Bel.rf | with_reducible refine Bel.drwN ?_ _ | with_reducible refine Bel.drw ?_ | with_reducible refine Bel.al ?_ _)))
              clear hK K hH2
              try simp only [Act.put, setIfInBounds_toArray, set_cons_zero, set_cons_succ]
              refine Rb.till_ready (rs := [7]) (by kernel_rfl) (by simp) ?_
              refine Rb.AllT.cons (o := ⟨some 23, .call { callee := Callee.builtin Builtin.append, args := #[.tmp 17, .tmp 22], argTypes := #[22, 22] }, 22, "make.go:186", #[⟨1, .data⟩, ⟨6, .data⟩, ⟨5, .chain⟩], none⟩) rfl (fun K hK => ?_) (Rb.AllT.nil)
              · refine step_app _ rfl (.tmp 17) (.tmp 22) rfl (w.heap.size + 1 + 1 + 1) u i S rfl (own_bel HQ5.out.1.ou (by repeat (first | exact Bel.rf | with_reducible refine Bel.drwN ?_ _ | with_reducible refine Bel.drw ?_ | with_reducible refine Bel.al ?_ _))) ⟨x5.heap.size + 1, 0, none⟩ 1 1 [s] rfl (zi_bk (L := [s]) ((by repeat (first | (refine Bk.nq _ _ _ ?_; simp; done) | with_reducible refine Bk.drwN ?_ _ | with_reducible refine Bk.drw ?_ | with_reducible refine Bk.al ?_ _)) : Bk _ (x5.heap.size + 1) 3 (zs [s]).toArray) 1 rfl) HI1.out (by have := HQ5.out.1.sz; simp; omega) ?_; intro v7 x7 h7 hg7 ha7; obtain ⟨A7, c7, hv7, _⟩ := own_any h7; subst hv7; have HQ7 : Hid (Wq g (w.heap.size + 1 + 1 + 1) w x7 (.slice A7 (i + 1) c7) v (i + 1) i (S ++ [s]) B ∧ Bk x7 w.heap.size 28 #[.int .i64 k, .int .i64 b, .int .i64 q, .int .i64 (m : Int), .int .i64 (n : Int), .slice A nc cc] ∧ Bk x7 (w.heap.size + 1) 32 #[.slice none 0 0, .slice none 0 0] ∧ Bk x7 (w.heap.size + 1 + 1) 32 #[u, v]) := ⟨(HQ5.out.1.up (by repeat (first | exact Bel.rf | with_reducible refine Bel.drwN ?_ _ | with_reducible refine Bel.drw ?_ | with_reducible refine Bel.al ?_ _))).ax h7 hg7 ha7, bk_grw (HQ5.out.2.1.bel (by repeat (first | exact Bel.rf | with_reducible refine Bel.drwN ?_ _ | with_reducible refine Bel.drw ?_ | with_reducible refine Bel.al ?_ _))) hg7 (fun e => by have := (HQ5.out.1.ou.lt _ e).1; omega), bk_grw (HQ5.out.2.2.1.bel (by repeat (first | exact Bel.rf | with_reducible refine Bel.drwN ?_ _ | with_reducible refine Bel.drw ?_ | with_reducible refine Bel.al ?_ _))) hg7 (fun e => by have := (HQ5.out.1.ou.lt _ e).1; omega), bk_grw (HQ5.out.2.2.2.bel (by repeat (first | exact Bel.rf | with_reducible refine Bel.drwN ?_ _ | with_reducible refine Bel.drw ?_ | with_reducible refine Bel.al ?_ _))) hg7 (fun e => by have := (HQ5.out.1.ou.lt _ e).1; omega)⟩; have HX7 : Hid (Bk x7 x5.heap.size 3 #[.int .i64 4]) := bk_grw ((by repeat (first | (refine Bk.nq _ _ _ ?_; simp; done) | with_reducible refine Bk.drwN ?_ _ | with_reducible refine Bk.drw ?_ | with_reducible refine Bk.al ?_ _)) : Bk _ x5.heap.size 3 #[.int .i64 4]) hg7 (fun e => by have := (HQ5.out.1.ou.lt _ e).2; omega); clear h7 hg7 ha7
                try go_wp2_with fail
                refine hK.out _ _ ?_ (fun hH4 => ?_)
                · (try dsimp only); exact KS.out _ (HQ7.out.2.2.2.bel (by repeat (first | exact Bel.rf | with_reducible refine Bel.drwN ?_ _ | with_reducible refine Bel.drw ?_ | with_reducible refine Bel.al ?_ _)))
                clear hK K hH3
                try simp only [Act.put, setIfInBounds_toArray, set_cons_zero, set_cons_succ]
                refine Rb.till_take (i := 13) (oi := ⟨some 29, .fieldAddr 32 (.tmp 5) 0, 0, "make.go:186", #[⟨0, .phase⟩, ⟨1, .phase⟩, ⟨2, .phase⟩, ⟨3, .phase⟩, ⟨4, .phase⟩, ⟨5, .phase⟩, ⟨6, .phase⟩, ⟨7, .phase⟩, ⟨8, .phase⟩, ⟨9, .phase⟩, ⟨10, .textOnly Departure.lateStores⟩, ⟨11, .textOnly Departure.lateStores⟩, ⟨12, .textOnly Departure.lateStoresUnsure⟩], none⟩) (v := ?_) rfl (by kernel_rfl) (by kernel_rfl) (by kernel_rfl) (fun _ _ _ h => h) (by decide) opW rfl (by kernel_rfl) (by kernel_rfl) (Or.inl ⟨by kernel_rfl, ?_⟩) (by assumption) ?_
                rotate_left
                · (intro w hSw; (try dsimp only at hSw); obtain ⟨d1, d2⟩ := hSw; go_simp; try with_reducible rfl)
                try simp only [Act.put, setIfInBounds_toArray, set_cons_zero, set_cons_succ]
                refine Rb.till_ready (rs := [12]) (by kernel_rfl) (by simp) ?_
                refine Rb.AllT.cons (o := ⟨some 28, .call { callee := Callee.builtin Builtin.append, args := #[.tmp 25, .tmp 27], argTypes := #[22, 22] }, 22, "make.go:186", #[⟨9, .data⟩, ⟨11, .data⟩, ⟨7, .chain⟩], none⟩) rfl (fun K hK => ?_) (Rb.AllT.nil)
                · refine step_app _ rfl (.tmp 25) (.tmp 27) rfl (w.heap.size + 1 + 1 + 1) v i B rfl (own_bel HQ7.out.1.ov (by repeat (first | exact Bel.rf | with_reducible refine Bel.drwN ?_ _ | with_reducible refine Bel.drw ?_ | with_reducible refine Bel.al ?_ _))) ⟨x5.heap.size, 0, none⟩ 1 1 [4] rfl (zi_bk (L := [4]) (HX7.out.bel (by repeat (first | exact Bel.rf | with_reducible refine Bel.drwN ?_ _ | with_reducible refine Bel.drw ?_ | with_reducible refine Bel.al ?_ _))) 1 rfl) HI1.out (by have := HQ7.out.1.sz; simp; omega) ?_; intro v12 x12 h12 hg12 ha12; obtain ⟨A12, c12, hv12, _⟩ := own_any h12; subst hv12; have HQ12 : Hid (Wq g (w.heap.size + 1 + 1 + 1) w x12 (.slice A7 (i + 1) c7) (.slice A12 (i + 1) c12) (i + 1) (i + 1) (S ++ [s]) (B ++ [4]) ∧ Bk x12 w.heap.size 28 #[.int .i64 k, .int .i64 b, .int .i64 q, .int .i64 (m : Int), .int .i64 (n : Int), .slice A nc cc] ∧ Bk x12 (w.heap.size + 1) 32 #[.slice none 0 0, .slice none 0 0] ∧ Bk x12 (w.heap.size + 1 + 1) 32 #[u, v]) := ⟨((HQ7.out.1.up (by repeat (first | exact Bel.rf | with_reducible refine Bel.drwN ?_ _ | with_reducible refine Bel.drw ?_ | with_reducible refine Bel.al ?_ _))).sx.ax h12 hg12 ha12).sx, bk_grw (HQ7.out.2.1.bel (by repeat (first | exact Bel.rf | with_reducible refine Bel.drwN ?_ _ | with_reducible refine Bel.drw ?_ | with_reducible refine Bel.al ?_ _))) hg12 (fun e => by have := (HQ7.out.1.ov.lt _ e).1; omega), bk_grw (HQ7.out.2.2.1.bel (by repeat (first | exact Bel.rf | with_reducible refine Bel.drwN ?_ _ | with_reducible refine Bel.drw ?_ | with_reducible refine Bel.al ?_ _))) hg12 (fun e => by have := (HQ7.out.1.ov.lt _ e).1; omega), bk_grw (HQ7.out.2.2.2.bel (by repeat (first | exact Bel.rf | with_reducible refine Bel.drwN ?_ _ | with_reducible refine Bel.drw ?_ | with_reducible refine Bel.al ?_ _))) hg12 (fun e => by have := (HQ7.out.1.ov.lt _ e).1; omega)⟩; have y0 := HQ12.out.2.2.2.cell 0; have y1 := HQ12.out.2.2.2.cell 1; have z0 := HQ12.out.2.2.2.fr 0; have z1 := HQ12.out.2.2.2.fr 1; simp only [List.getElem?_toArray, List.getElem?_cons_zero, List.getElem?_cons_succ] at y0 y1; clear h12 hg12 ha12
                  try go_wp2_with fail
                  refine hK.out _ _ ?_ (fun hH5 => ?_)
                  · (try dsimp only); exact KS.out _ (HQ12.out.2.2.2.bel (by repeat (first | exact Bel.rf | with_reducible refine Bel.drwN ?_ _ | with_reducible refine Bel.drw ?_ | with_reducible refine Bel.al ?_ _)))
                  clear hK K hH4
                  try simp only [Act.put, setIfInBounds_toArray, set_cons_zero, set_cons_succ]
                  refine Rb.till_ready (rs := [14]) (by kernel_rfl) (by simp) ?_
                  refine Rb.AllT.past (o := ⟨none, .store 22 (.tmp 29) (.tmp 23), 0, "make.go:186", #[⟨13, .data⟩, ⟨7, .data⟩, ⟨12, .chain⟩, ⟨0, .phase⟩, ⟨1, .phase⟩, ⟨2, .phase⟩, ⟨3, .phase⟩, ⟨4, .phase⟩, ⟨5, .phase⟩, ⟨6, .phase⟩, ⟨7, .phase⟩, ⟨8, .phase⟩, ⟨9, .phase⟩, ⟨10, .textOnly Departure.lateStores⟩, ⟨11, .textOnly Departure.lateStores⟩, ⟨12, .textOnly Departure.lateStoresUnsure⟩], none⟩) rfl (by kernel_rfl) (fun K hK => ?_) (Rb.AllT.nil)
                  · go_simp
                    try go_wp2_with fail
                    refine hK.out _ _ trivial (fun hH6 => ?_)
                    clear hK K hH5
                    try simp only [Act.put, setIfInBounds_toArray, set_cons_zero, set_cons_succ]
                    refine Rb.till_free (i := 15) (oi := ⟨some 30, .fieldAddr 32 (.tmp 5) 1, 0, "make.go:186", #[⟨0, .phase⟩, ⟨1, .phase⟩, ⟨2, .phase⟩, ⟨3, .phase⟩, ⟨4, .phase⟩, ⟨5, .phase⟩, ⟨6, .phase⟩, ⟨7, .phase⟩, ⟨8, .phase⟩, ⟨9, .phase⟩, ⟨10, .phase⟩, ⟨11, .phase⟩, ⟨12, .phase⟩, ⟨13, .phase⟩, ⟨14, .phase⟩], none⟩) (v := ?_) rfl (by kernel_rfl) (by kernel_rfl) (by kernel_rfl) (fun _ _ _ h => h) (by decide) (Or.inl ⟨by kernel_rfl, ?_⟩) (fun h => absurd h (by decide)) ?_
                    rotate_left
                    · (intro w hSw; clear hSw; go_simp; try with_reducible rfl)
                    try simp only [Act.put, setIfInBounds_toArray, set_cons_zero, set_cons_succ]
                    refine Rb.till_ready (rs := [16]) (by kernel_rfl) (by simp) ?_
                    refine Rb.AllT.past (o := ⟨none, .store 22 (.tmp 30) (.tmp 28), 0, "make.go:186", #[⟨15, .data⟩, ⟨12, .data⟩, ⟨14, .chain⟩, ⟨0, .phase⟩, ⟨1, .phase⟩, ⟨2, .phase⟩, ⟨3, .phase⟩, ⟨4, .phase⟩, ⟨5, .phase⟩, ⟨6, .phase⟩, ⟨7, .phase⟩, ⟨8, .phase⟩, ⟨9, .phase⟩, ⟨10, .phase⟩, ⟨11, .phase⟩, ⟨12, .phase⟩, ⟨13, .phase⟩, ⟨14, .phase⟩], none⟩) rfl (by kernel_rfl) (fun K hK => ?_) (Rb.AllT.nil)
                    · go_simp
                      try go_wp2_with fail
                      refine hK.out _ _ trivial (fun hH7 => ?_)
                      clear hK K hH6
                      try simp only [Act.put, setIfInBounds_toArray, set_cons_zero, set_cons_succ]
                      refine Rb.till_done (by kernel_rfl) ?_ _
                      refine NoPanic.normal ?_
                      have HFF : Hid (Gd (i + 1) (S ++ [s]) (B ++ [4]) ∧ Wq g (w.heap.size + 1 + 1 + 1) w ((x12.setCell ⟨w.heap.size + 1 + 1, 0, none⟩ (.slice A7 (i + 1) c7)).setCell ⟨w.heap.size + 1 + 1, 1, none⟩ (.slice A12 (i + 1) c12)) (.slice A7 (i + 1) c7) (.slice A12 (i + 1) c12) (i + 1) (i + 1) (S ++ [s]) (B ++ [4]) ∧ Bk ((x12.setCell ⟨w.heap.size + 1 + 1, 0, none⟩ (.slice A7 (i + 1) c7)).setCell ⟨w.heap.size + 1 + 1, 1, none⟩ (.slice A12 (i + 1) c12)) w.heap.size 28 #[.int .i64 k, .int .i64 b, .int .i64 q, .int .i64 (m : Int), .int .i64 (n : Int), .slice A nc cc] ∧ Bk ((x12.setCell ⟨w.heap.size + 1 + 1, 0, none⟩ (.slice A7 (i + 1) c7)).setCell ⟨w.heap.size + 1 + 1, 1, none⟩ (.slice A12 (i + 1) c12)) (w.heap.size + 1) 32 #[.slice none 0 0, .slice none 0 0] ∧ Bk ((x12.setCell ⟨w.heap.size + 1 + 1, 0, none⟩ (.slice A7 (i + 1) c7)).setCell ⟨w.heap.size + 1 + 1, 1, none⟩ (.slice A12 (i + 1) c12)) (w.heap.size + 1 + 1) 32 #[.slice A7 (i + 1) c7, .slice A12 (i + 1) c12]) := ⟨gd_snoc HGD.out (by decide) (by decide) HS5.out.1 (show s < 2 ^ (4 : Int).toNat from HS5.out.2), (HQ12.out.1.st (by omega) (by omega) (by have := HGB.out; omega) _ _).st (by omega) (by omega) (by have := HGB.out; omega) _ _, (HQ12.out.2.1.far (by dsimp only; omega) _).far (by dsimp only; omega) _, (HQ12.out.2.2.1.far (by dsimp only; omega) _).far (by dsimp only; omega) _, (HQ12.out.2.2.2.st 0 _).st 1 _⟩
                      go_wp2_with fail
                      go_roundw
                      case rel => exact ⟨i + 1, _, _, _, _, _, rfl, by go_num, by omega, HFF.out.1, HFF.out.2.1, HFF.out.2.2.1, HFF.out.2.2.2.1, HFF.out.2.2.2.2⟩
                      case measure => simp [intOf]; omega
        · go_simp
          try go_wp2_with fail
          refine hK.out _ _ ?_ (fun hH1 => ?_)
          · (try dsimp only); exact KS.out _ (HQ6.out.2.2.2.bel (by repeat (first | exact Bel.rf | with_reducible refine Bel.drwN ?_ _ | with_reducible refine Bel.drw ?_ | with_reducible refine Bel.al ?_ _)))
          clear hK K hH0
          try simp only [Act.put, setIfInBounds_toArray, set_cons_zero, set_cons_succ]
          refine Rb.till_ready (rs := [5]) (by kernel_rfl) (by simp) ?_
          refine Rb.AllT.cons (o := ⟨some 21, .call { callee := Callee.value (.func 21), args := #[.tmp 18, .tmp 20], argTypes := #[23, 3] }, 3, "make.go:186", #[⟨2, .data⟩, ⟨4, .data⟩], none⟩) rfl (fun K hK => ?_) (Rb.AllT.nil)
          · go_simp
            go_at_call 21; (try simp only [wv1, wv2]); refine (n_any g 16 (by decide) (by decide) _ (HQ6.out.1.ok.bel (by repeat (first | exact Bel.rf | with_reducible refine Bel.drwN ?_ _ | with_reducible refine Bel.drw ?_ | with_reducible refine Bel.al ?_ _)))).mono ?_; rintro e x5 ⟨s, rfl, s0, s1, ho5, hc5⟩; have hcd : Ch g w6 x5 := (Ch.of_bel (by repeat (first | exact Bel.rf | with_reducible refine Bel.drwN ?_ _ | with_reducible refine Bel.drw ?_ | with_reducible refine Bel.al ?_ _))).tr hc5; have HQ5 : Hid (Wq g (w.heap.size + 1 + 1 + 1) w x5 u v i i S B ∧ Bk x5 w.heap.size 28 #[.int .i64 k, .int .i64 b, .int .i64 q, .int .i64 (m : Int), .int .i64 (n : Int), .slice A nc cc] ∧ Bk x5 (w.heap.size + 1) 32 #[.slice none 0 0, .slice none 0 0] ∧ Bk x5 (w.heap.size + 1 + 1) 32 #[u, v]) := ⟨HQ6.out.1.to ho5 hcd, hcd.bk HQ6.out.2.1 (by have := HGB.out; omega), hcd.bk HQ6.out.2.2.1 (by have := HGB.out; omega), hcd.bk HQ6.out.2.2.2 (by have := HGB.out; omega)⟩; have HS5 := Lib.hid (And.intro s0 s1); have HX5 : Hid (Bk x5 w6.heap.size 3 #[.int .i64 4]) := hc5.bk ((by repeat (first | (refine Bk.nq _ _ _ ?_; simp; done) | with_reducible refine Bk.drwN ?_ _ | with_reducible refine Bk.drw ?_ | with_reducible refine Bk.al ?_ _)) : Bk _ w6.heap.size 3 #[.int .i64 4]) (by have := HQ6.out.1.gb; have := HQ6.out.1.sz; omega); clear ho5 hc5 hcd s0 s1
            try go_wp2_with fail
            refine hK.out _ _ ?_ (fun hH2 => ?_)
            · (try dsimp only); exact KS.out _ (HQ5.out.2.2.2.bel (by repeat (first | exact Bel.rf | with_reducible refine Bel.drwN ?_ _ | with_reducible refine Bel.drw ?_ | with_reducible refine Bel.al ?_ _)))
            clear hK K hH1
            try simp only [Act.put, setIfInBounds_toArray, set_cons_zero, set_cons_succ]
            refine Rb.till_ready (rs := [6]) (by kernel_rfl) (by simp) ?_
            refine Rb.AllT.cons (o := ⟨some 22, .buildSlice 22 1 #[(0, .tmp 21)], 22, "make.go:186", #[⟨5, .data⟩], none⟩) rfl (fun K hK => ?_) (Rb.AllT.nil)
            · go_simp
              try go_wp2_with fail
              refine hK.out _ _ ?_ (fun hH3 => ?_)
              · (try dsimp only); exact KS.out _ (HQ5.out.2.2.2.bel (by repeat (first | exact Bel.rf | with_reducible refine Bel.drwN ?_ _ | with_reducible refine Bel.drw ?_ | with_reducible refine Bel.al ?_ _)))
              clear hK K hH2
              try simp only [Act.put, setIfInBounds_toArray, set_cons_zero, set_cons_succ]
              refine Rb.till_ready (rs := [7]) (by kernel_rfl) (by simp) ?_
              refine Rb.AllT.cons (o := ⟨some 23, .call { callee := Callee.builtin Builtin.append, args := #[.tmp 17, .tmp 22], argTypes := #[22, 22] }, 22, "make.go:186", #[⟨1, .data⟩, ⟨6, .data⟩, ⟨5, .chain⟩], none⟩) rfl (fun K hK => ?_) (Rb.AllT.nil)
              · refine step_app _ rfl (.tmp 17) (.tmp 22) rfl (w.heap.size + 1 + 1 + 1) u i S rfl (own_bel HQ5.out.1.ou (by repeat (first | exact Bel.rf | with_reducible refine Bel.drwN ?_ _ | with_reducible refine Bel.drw ?_ | with_reducible refine Bel.al ?_ _))) ⟨x5.heap.size, 0, none⟩ 1 1 [s] rfl (zi_bk (L := [s]) ((by repeat (first | (refine Bk.nq _ _ _ ?_; simp; done) | with_reducible refine Bk.drwN ?_ _ | with_reducible refine Bk.drw ?_ | with_reducible refine Bk.al ?_ _)) : Bk _ x5.heap.size 3 (zs [s]).toArray) 1 rfl) HI1.out (by have := HQ5.out.1.sz; simp; omega) ?_; intro v7 x7 h7 hg7 ha7; obtain ⟨A7, c7, hv7, _⟩ := own_any h7; subst hv7; have HQ7 : Hid (Wq g (w.heap.size + 1 + 1 + 1) w x7 (.slice A7 (i + 1) c7) v (i + 1) i (S ++ [s]) B ∧ Bk x7 w.heap.size 28 #[.int .i64 k, .int .i64 b, .int .i64 q, .int .i64 (m : Int), .int .i64 (n : Int), .slice A nc cc] ∧ Bk x7 (w.heap.size + 1) 32 #[.slice none 0 0, .slice none 0 0] ∧ Bk x7 (w.heap.size + 1 + 1) 32 #[u, v]) := ⟨(HQ5.out.1.up (by repeat (first | exact Bel.rf | with_reducible refine Bel.drwN ?_ _ | with_reducible refine Bel.drw ?_ | with_reducible refine Bel.al ?_ _))).ax h7 hg7 ha7, bk_grw (HQ5.out.2.1.bel (by repeat (first | exact Bel.rf | with_reducible refine Bel.drwN ?_ _ | with_reducible refine Bel.drw ?_ | with_reducible refine Bel.al ?_ _))) hg7 (fun e => by have := (HQ5.out.1.ou.lt _ e).1; omega), bk_grw (HQ5.out.2.2.1.bel (by repeat (first | exact Bel.rf | with_reducible refine Bel.drwN ?_ _ | with_reducible refine Bel.drw ?_ | with_reducible refine Bel.al ?_ _))) hg7 (fun e => by have := (HQ5.out.1.ou.lt _ e).1; omega), bk_grw (HQ5.out.2.2.2.bel (by repeat (first | exact Bel.rf | with_reducible refine Bel.drwN ?_ _ | with_reducible refine Bel.drw ?_ | with_reducible refine Bel.al ?_ _))) hg7 (fun e => by have := (HQ5.out.1.ou.lt _ e).1; omega)⟩; have HX7 : Hid (Bk x7 w6.heap.size 3 #[.int .i64 4]) := bk_grw (HX5.out.bel (by repeat (first | exact Bel.rf | with_reducible refine Bel.drwN ?_ _ | with_reducible refine Bel.drw ?_ | with_reducible refine Bel.al ?_ _))) hg7 (fun e => by have := HB6.out _ e; omega); clear h7 hg7 ha7
                try go_wp2_with fail
                refine hK.out _ _ ?_ (fun hH4 => ?_)
                · (try dsimp only); exact KS.out _ (HQ7.out.2.2.2.bel (by repeat (first | exact Bel.rf | with_reducible refine Bel.drwN ?_ _ | with_reducible refine Bel.drw ?_ | with_reducible refine Bel.al ?_ _)))
                clear hK K hH3
                try simp only [Act.put, setIfInBounds_toArray, set_cons_zero, set_cons_succ]
                refine Rb.till_take (i := 13) (oi := ⟨some 29, .fieldAddr 32 (.tmp 5) 0, 0, "make.go:186", #[⟨0, .phase⟩, ⟨1, .phase⟩, ⟨2, .phase⟩, ⟨3, .phase⟩, ⟨4, .phase⟩, ⟨5, .phase⟩, ⟨6, .phase⟩, ⟨7, .phase⟩, ⟨8, .phase⟩, ⟨9, .phase⟩, ⟨10, .textOnly Departure.lateStores⟩, ⟨11, .textOnly Departure.lateStores⟩, ⟨12, .textOnly Departure.lateStoresUnsure⟩], none⟩) (v := ?_) rfl (by kernel_rfl) (by kernel_rfl) (by kernel_rfl) (fun _ _ _ h => h) (by decide) opW rfl (by kernel_rfl) (by kernel_rfl) (Or.inl ⟨by kernel_rfl, ?_⟩) (by assumption) ?_
                rotate_left
                · (intro w hSw; (try dsimp only at hSw); obtain ⟨d1, d2⟩ := hSw; go_simp; try with_reducible rfl)
                try simp only [Act.put, setIfInBounds_toArray, set_cons_zero, set_cons_succ]
                refine Rb.till_ready (rs := [12]) (by kernel_rfl) (by simp) ?_
                refine Rb.AllT.cons (o := ⟨some 28, .call { callee := Callee.builtin Builtin.append, args := #[.tmp 25, .tmp 27], argTypes := #[22, 22] }, 22, "make.go:186", #[⟨9, .data⟩, ⟨11, .data⟩, ⟨7, .chain⟩], none⟩) rfl (fun K hK => ?_) (Rb.AllT.nil)
                · refine step_app _ rfl (.tmp 25) (.tmp 27) rfl (w.heap.size + 1 + 1 + 1) v i B rfl (own_bel HQ7.out.1.ov (by repeat (first | exact Bel.rf | with_reducible refine Bel.drwN ?_ _ | with_reducible refine Bel.drw ?_ | with_reducible refine Bel.al ?_ _))) ⟨w6.heap.size, 0, none⟩ 1 1 [4] rfl (zi_bk (L := [4]) (HX7.out.bel (by repeat (first | exact Bel.rf | with_reducible refine Bel.drwN ?_ _ | with_reducible refine Bel.drw ?_ | with_reducible refine Bel.al ?_ _))) 1 rfl) HI1.out (by have := HQ7.out.1.sz; simp; omega) ?_; intro v12 x12 h12 hg12 ha12; obtain ⟨A12, c12, hv12, _⟩ := own_any h12; subst hv12; have HQ12 : Hid (Wq g (w.heap.size + 1 + 1 + 1) w x12 (.slice A7 (i + 1) c7) (.slice A12 (i + 1) c12) (i + 1) (i + 1) (S ++ [s]) (B ++ [4]) ∧ Bk x12 w.heap.size 28 #[.int .i64 k, .int .i64 b, .int .i64 q, .int .i64 (m : Int), .int .i64 (n : Int), .slice A nc cc] ∧ Bk x12 (w.heap.size + 1) 32 #[.slice none 0 0, .slice none 0 0] ∧ Bk x12 (w.heap.size + 1 + 1) 32 #[u, v]) := ⟨((HQ7.out.1.up (by repeat (first | exact Bel.rf | with_reducible refine Bel.drwN ?_ _ | with_reducible refine Bel.drw ?_ | with_reducible refine Bel.al ?_ _))).sx.ax h12 hg12 ha12).sx, bk_grw (HQ7.out.2.1.bel (by repeat (first | exact Bel.rf | with_reducible refine Bel.drwN ?_ _ | with_reducible refine Bel.drw ?_ | with_reducible refine Bel.al ?_ _))) hg12 (fun e => by have := (HQ7.out.1.ov.lt _ e).1; omega), bk_grw (HQ7.out.2.2.1.bel (by repeat (first | exact Bel.rf | with_reducible refine Bel.drwN ?_ _ | with_reducible refine Bel.drw ?_ | with_reducible refine Bel.al ?_ _))) hg12 (fun e => by have := (HQ7.out.1.ov.lt _ e).1; omega), bk_grw (HQ7.out.2.2.2.bel (by repeat (first | exact Bel.rf | with_reducible refine Bel.drwN ?_ _ | with_reducible refine Bel.drw ?_ | with_reducible refine Bel.al ?_ _))) hg12 (fun e => by have := (HQ7.out.1.ov.lt _ e).1; omega)⟩; have y0 := HQ12.out.2.2.2.cell 0; have y1 := HQ12.out.2.2.2.cell 1; have z0 := HQ12.out.2.2.2.fr 0; have z1 := HQ12.out.2.2.2.fr 1; simp only [List.getElem?_toArray, List.getElem?_cons_zero, List.getElem?_cons_succ] at y0 y1; clear h12 hg12 ha12
                  try go_wp2_with fail
                  refine hK.out _ _ ?_ (fun hH5 => ?_)
                  · (try dsimp only); exact KS.out _ (HQ12.out.2.2.2.bel (by repeat (first | exact Bel.rf | with_reducible refine Bel.drwN ?_ _ | with_reducible refine Bel.drw ?_ | with_reducible refine Bel.al ?_ _)))
                  clear hK K hH4
                  try simp only [Act.put, setIfInBounds_toArray, set_cons_zero, set_cons_succ]
                  refine Rb.till_ready (rs := [14]) (by kernel_rfl) (by simp) ?_
                  refine Rb.AllT.past (o := ⟨none, .store 22 (.tmp 29) (.tmp 23), 0, "make.go:186", #[⟨13, .data⟩, ⟨7, .data⟩, ⟨12, .chain⟩, ⟨0, .phase⟩, ⟨1, .phase⟩, ⟨2, .phase⟩, ⟨3, .phase⟩, ⟨4, .phase⟩, ⟨5, .phase⟩, ⟨6, .phase⟩, ⟨7, .phase⟩, ⟨8, .phase⟩, ⟨9, .phase⟩, ⟨10, .textOnly Departure.lateStores⟩, ⟨11, .textOnly Departure.lateStores⟩, ⟨12, .textOnly Departure.lateStoresUnsure⟩], none⟩) rfl (by kernel_rfl) (fun K hK => ?_) (Rb.AllT.nil)
                  · go_simp
                    try go_wp2_with fail
                    refine hK.out _ _ trivial (fun hH6 => ?_)
                    clear hK K hH5
                    try simp only [Act.put, setIfInBounds_toArray, set_cons_zero, set_cons_succ]
                    refine Rb.till_free (i := 15) (oi := ⟨some 30, .fieldAddr 32 (.tmp 5) 1, 0, "make.go:186", #[⟨0, .phase⟩, ⟨1, .phase⟩, ⟨2, .phase⟩, ⟨3, .phase⟩, ⟨4, .phase⟩, ⟨5, .phase⟩, ⟨6, .phase⟩, ⟨7, .phase⟩, ⟨8, .phase⟩, ⟨9, .phase⟩, ⟨10, .phase⟩, ⟨11, .phase⟩, ⟨12, .phase⟩, ⟨13, .phase⟩, ⟨14, .phase⟩], none⟩) (v := ?_) rfl (by kernel_rfl) (by kernel_rfl) (by kernel_rfl) (fun _ _ _ h => h) (by decide) (Or.inl ⟨by kernel_rfl, ?_⟩) (fun h => absurd h (by decide)) ?_
                    rotate_left
                    · (intro w hSw; clear hSw; go_simp; try with_reducible rfl)
                    try simp only [Act.put, setIfInBounds_toArray, set_cons_zero, set_cons_succ]
                    refine Rb.till_ready (rs := [16]) (by kernel_rfl) (by simp) ?_
                    refine Rb.AllT.past (o := ⟨none, .store 22 (.tmp 30) (.tmp 28), 0, "make.go:186", #[⟨15, .data⟩, ⟨12, .data⟩, ⟨14, .chain⟩, ⟨0, .phase⟩, ⟨1, .phase⟩, ⟨2, .phase⟩, ⟨3, .phase⟩, ⟨4, .phase⟩, ⟨5, .phase⟩, ⟨6, .phase⟩, ⟨7, .phase⟩, ⟨8, .phase⟩, ⟨9, .phase⟩, ⟨10, .phase⟩, ⟨11, .phase⟩, ⟨12, .phase⟩, ⟨13, .phase⟩, ⟨14, .phase⟩], none⟩) rfl (by kernel_rfl) (fun K hK => ?_) (Rb.AllT.nil)
                    · go_simp
                      try go_wp2_with fail
                      refine hK.out _ _ trivial (fun hH7 => ?_)
                      clear hK K hH6
                      try simp only [Act.put, setIfInBounds_toArray, set_cons_zero, set_cons_succ]
                      refine Rb.till_done (by kernel_rfl) ?_ _
                      refine NoPanic.normal ?_
                      have HFF : Hid (Gd (i + 1) (S ++ [s]) (B ++ [4]) ∧ Wq g (w.heap.size + 1 + 1 + 1) w ((x12.setCell ⟨w.heap.size + 1 + 1, 0, none⟩ (.slice A7 (i + 1) c7)).setCell ⟨w.heap.size + 1 + 1, 1, none⟩ (.slice A12 (i + 1) c12)) (.slice A7 (i + 1) c7) (.slice A12 (i + 1) c12) (i + 1) (i + 1) (S ++ [s]) (B ++ [4]) ∧ Bk ((x12.setCell ⟨w.heap.size + 1 + 1, 0, none⟩ (.slice A7 (i + 1) c7)).setCell ⟨w.heap.size + 1 + 1, 1, none⟩ (.slice A12 (i + 1) c12)) w.heap.size 28 #[.int .i64 k, .int .i64 b, .int .i64 q, .int .i64 (m : Int), .int .i64 (n : Int), .slice A nc cc] ∧ Bk ((x12.setCell ⟨w.heap.size + 1 + 1, 0, none⟩ (.slice A7 (i + 1) c7)).setCell ⟨w.heap.size + 1 + 1, 1, none⟩ (.slice A12 (i + 1) c12)) (w.heap.size + 1) 32 #[.slice none 0 0, .slice none 0 0] ∧ Bk ((x12.setCell ⟨w.heap.size + 1 + 1, 0, none⟩ (.slice A7 (i + 1) c7)).setCell ⟨w.heap.size + 1 + 1, 1, none⟩ (.slice A12 (i + 1) c12)) (w.heap.size + 1 + 1) 32 #[.slice A7 (i + 1) c7, .slice A12 (i + 1) c12]) := ⟨gd_snoc HGD.out (by decide) (by decide) HS5.out.1 (show s < 2 ^ (4 : Int).toNat from HS5.out.2), (HQ12.out.1.st (by omega) (by omega) (by have := HGB.out; omega) _ _).st (by omega) (by omega) (by have := HGB.out; omega) _ _, (HQ12.out.2.1.far (by dsimp only; omega) _).far (by dsimp only; omega) _, (HQ12.out.2.2.1.far (by dsimp only; omega) _).far (by dsimp only; omega) _, (HQ12.out.2.2.2.st 0 _).st 1 _⟩
                      go_wp2_with fail
                      go_roundw
                      case rel => exact ⟨i + 1, _, _, _, _, _, rfl, by go_num, by omega, HFF.out.1, HFF.out.2.1, HFF.out.2.2.1, HFF.out.2.2.2.1, HFF.out.2.2.2.2⟩
                      case measure => simp [intOf]; omega
    · obtain rfl : i = n := by omega
      obtain ⟨A1, c1, hu, z1⟩ := own_zx HQ.out.ou HGD.out.1
      obtain ⟨A2, c2, hv, z2⟩ := own_zx HQ.out.ov HGD.out.2.1
      subst hu
      subst hv
      have r0 := HK.out.2.1.cell 0
      have r1 := HK.out.2.1.cell 1
      have e0 := HK.out.2.1.fr 0
      have e1 := HK.out.2.1.fr 1
      have u0 := HK.out.2.2.cell 0
      have u1 := HK.out.2.2.cell 1
      simp only [List.getElem?_toArray, List.getElem?_cons_zero, List.getElem?_cons_succ] at r0 r1 u0 u1
      have HF : Hid (Wq g (w.heap.size + 1 + 1 + 1) w ((wr.setCell ⟨w.heap.size + 1, 0, none⟩ (.slice A1 i c1)).setCell ⟨w.heap.size + 1, 1, none⟩ (.slice A2 i c2)) (.slice A1 i c1) (.slice A2 i c2) i i S B ∧ Bk ((wr.setCell ⟨w.heap.size + 1, 0, none⟩ (.slice A1 i c1)).setCell ⟨w.heap.size + 1, 1, none⟩ (.slice A2 i c2)) (w.heap.size + 1) 32 #[.slice A1 i c1, .slice A2 i c2]) := ⟨(HQ.out.st (by omega) (by omega) (by have := HGB.out; omega) _ _).st (by omega) (by omega) (by have := HGB.out; omega) _ _, (HK.out.2.1.st 0 _).st 1 _⟩
      obtain ⟨A3, c3, hu3, z3⟩ := own_zx HF.out.1.ou HGD.out.1
      obtain ⟨A4, c4, hv4, z4⟩ := own_zx HF.out.1.ov HGD.out.2.1
      cases hu3
      cases hv4
      have HZ3 := Lib.hid (And.intro z3 z4)
      clear z1 z2 z3 z4
      go_wp2
      exact bodyPost_ret (v := Wx i A1 A2 c1 c2) (results_w Try.results15 _ _ (w.heap.size + 1) _ _ rfl (HF.out.2.bel (by repeat (first | exact Bel.rf | with_reducible refine Bel.drwN ?_ _ | with_reducible refine Bel.drw ?_ | with_reducible refine Bel.al ?_ _)))) rfl ⟨A1, A2, c1, c2, S, B, rfl, HGD.out, HZ3.out.1.bel (by repeat (first | exact Bel.rf | with_reducible refine Bel.drwN ?_ _ | with_reducible refine Bel.drw ?_ | with_reducible refine Bel.al ?_ _)), HZ3.out.2.bel (by repeat (first | exact Bel.rf | with_reducible refine Bel.drwN ?_ _ | with_reducible refine Bel.drw ?_ | with_reducible refine Bel.al ?_ _)), HF.out.1.ok.bel (by repeat (first | exact Bel.rf | with_reducible refine Bel.drwN ?_ _ | with_reducible refine Bel.drw ?_ | with_reducible refine Bel.al ?_ _)), HF.out.1.ch.tr (Ch.of_bel (by repeat (first | exact Bel.rf | with_reducible refine Bel.drwN ?_ _ | with_reducible refine Bel.drw ?_ | with_reducible refine Bel.al ?_ _))), own_fz HF.out.1.ou (by omega), own_fz HF.out.1.ov (by omega)⟩
end Go.Proofs.Ytgdhgeongdenpaa.Wd
