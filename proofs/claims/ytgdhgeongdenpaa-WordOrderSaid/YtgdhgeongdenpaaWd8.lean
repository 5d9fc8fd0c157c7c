/- slices.Clone, word.longer. -/
import Derived.Test.YtgdhgeongdenpaaWd7
import Derived.Test.YtgdhgeongdenpaaWdX
namespace Go.Proofs.Ytgdhgeongdenpaa.Wd
open Go.ChangeShapes Go.WideShapes Go.RowKit Wo Sr Wi Ms
set_option linter.unusedVariables false
set_option linter.unusedSimpArgs false
/-- a row that lies in no elder block -/
def Fz (w : World) (A : Option Addr) (n : Nat) : Prop := 0 < n → ∀ ad, A = some ad → w.heap.size ≤ ad.block
theorem Fz.ne {w : World} {A : Option Addr} {n g : Nat} (h : Fz w A n) (h0 : 0 < n) (hg : g < w.heap.size) : ∀ ad, A = some ad → ad.block ≠ g := fun ad e => by have := h h0 ad e; omega
theorem own_fz {w w0 : World} {base k c : Nat} {A : Option Addr} {L : List Int} (h : w.ownsRow base 3 1 (.slice A k c) k (zs L)) (hb : w0.heap.size ≤ base) : Fz w0 A k := fun h0 ad e => by
  obtain ⟨r, c', e', _, hr⟩ := row_form h h0
  injection e' with e1
  rw [e] at e1
  injection e1 with e1
  subst e1
  exact Nat.le_trans hb hr
/-- a new row with these numbers -/
def SomeCl (n : Nat) (L : List Int) (w : World) (e : Ending) (w' : World) : Prop := ∃ h c, e = .returned (.slice (some ⟨h, 0, none⟩) n c) ∧ w'.ownsRow w.heap.size 3 1 (.slice (some ⟨h, 0, none⟩) n c) n (zs L) ∧ Bel w w'
set_option maxHeartbeats 8000000 in
set_option maxRecDepth 100000 in
theorem clone_ok (A : Option Addr) (c n : Nat) (L : List Int) (n1 : 1 ≤ n) (hn : n ≤ 1000) (w : World) (hz : Zi w A n L) :
    Calls Try.prog 97 #[.slice A n c] w (SomeCl n L w) := by
  obtain ⟨ad, e, _, _⟩ := hz.2 n1
  subst e
  have HZ : Hid (Zi (w.alloc (.cells #[] 3)) (some ad) n L) := hz.bel (Bel.rf.al _)
  have en : ∀ (w : World) (a : Option Addr) (n c n' c' : Nat), (binOp .eql 22 (.slice a n c) (.slice none n' c')).run Try.prog w = .ok (.bool a.isNone) w := fun w a n c n' c' => Lib.run_eql_slice_nil w _ _ a n c n' c' Try.underlying22
  have HO := Lib.hid (own_made (base := w.heap.size) w w.heap.size rfl (Nat.le_refl _))
  have HL := Lib.hid hz.1
  clear hz
  go_enter Try.func97, Try.ntmps97
  go_wp2_with (at_builtin; refine list_app _ rfl (.tmp 5) (.tmp 6) rfl w.heap.size (.slice (some ⟨w.heap.size, 0, none⟩) 0 0) 0 [] rfl HO.out ad n c L rfl HZ.out (by omega) (by simp) ?_; intro v' w2 h2 h3 h4; rw [Nat.zero_add, List.nil_append] at h2; obtain ⟨h, k2, rfl, _⟩ := row_form h2 n1; have hb2 : Bel w w2 := bel_grown (Bel.rf.al _) h3 (fun q e => by cases e; exact Nat.le_refl _))
  go_ret
  exact ⟨h, k2, rfl, h2, hb2⟩
theorem results_w {fn : Func} {p : Tmp} (h : fn.results = #[.cell p 32]) (tmps : Array Value) (w : World) (g : Nat) (a b : Value)
    (hp : tmps.getD p undef = .pointer (some ⟨g, 0, none⟩)) (hg : Bk w g 32 #[a, b]) : (results fn tmps).run Try.prog w = .ok (.agg #[a, b]) w := by
  have hp' : tmps[p]?.getD undef = .pointer (some ⟨g, 0, none⟩) := by simpa using hp
  have hl := run_loadVar_row (P := Try.prog) w g 32 32 #[a, b] (0, 0) _ hg Try.underlying32 rfl (by kernel_rfl)
  simp [results, h, hp', asAddr, hl]
/-- a new word -/
def SomeW (n : Nat) (S B : List Int) (w : World) (e : Ending) (w' : World) : Prop := ∃ sA bA sc bc, e = .returned (Wx n sA bA sc bc) ∧ Zi w' sA n S ∧ Zi w' bA n B ∧ Bel w w'
set_option maxHeartbeats 8000000 in
set_option maxRecDepth 100000 in
theorem longer_ok (sA bA : Option Addr) (n sc bc : Nat) (S B : List Int) (n1 : 1 ≤ n) (n8 : n ≤ 8) (hv : Wv n S B) (p : Nat) (hp : p < n) (bit : Int) (hbit : bit = 0 ∨ bit = 1) (w : World) (hS : Zi w sA n S) (hB : Zi w bA n B) :
    Calls Try.prog 59 #[Wx n sA bA sc bc, .int .i64 (p : Int), .int .i64 bit] w (SomeW n (S.set p (2 * S.getD p 0 + bit)) (B.set p (B.getD p 0 + 1)) w) := by
  have CS : Hid (∀ W, Bel w W → Calls Try.prog 97 #[.slice sA n sc] W (SomeCl n S W)) := fun W hW => clone_ok sA sc n S n1 (by omega) W (hS.bel hW)
  have CB : Hid (∀ W, Bel w W → Calls Try.prog 97 #[.slice bA n bc] W (SomeCl n B W)) := fun W hW => clone_ok bA bc n B n1 (by omega) W (hB.bel hW)
  have HB1 : Hid (Bk ((w.alloc (.cells #[.slice sA n sc, .slice bA n bc] 32)).alloc (.cells #[.slice none 0 0, .slice none 0 0] 32)) w.heap.size 32 #[.slice sA n sc, .slice bA n bc]) := (Bk.nw _ _ _).al _
  have HR1 : Hid (Bk ((w.alloc (.cells #[.slice sA n sc, .slice bA n bc] 32)).alloc (.cells #[.slice none 0 0, .slice none 0 0] 32)) (w.heap.size + 1) 32 #[.slice none 0 0, .slice none 0 0]) := Bk.nq _ _ _ (by simp)
  have HW0 : Hid (Bel w ((w.alloc (.cells #[.slice sA n sc, .slice bA n bc] 32)).alloc (.cells #[.slice none 0 0, .slice none 0 0] 32))) := (Bel.rf.al _).al _
  obtain ⟨b0, b4, s0, s1⟩ := hv.2.2 p hp
  have HLS := Lib.hid hv.1
  have HLB := Lib.hid hv.2.1
  clear hv hS hB
  unfold Wx
  go_enter Try.func59, Try.ntmps59
  go_upto_region 1 with fail
  obtain ⟨W0, hW0⟩ : ∃ W, (w.alloc (.cells #[.slice sA n sc, .slice bA n bc] 32)).alloc (.cells #[.slice none 0 0, .slice none 0 0] 32) = W := ⟨_, rfl⟩
  rw [hW0] at HB1 HR1 HW0 ⊢
  have hsz0 : W0.heap.size = w.heap.size + 1 + 1 := by rw [← hW0]; simp
  have HSZ0 := Lib.hid hsz0
  have q0 := HB1.out.cell 0
  have q1 := HB1.out.cell 1
  simp only [List.getElem?_toArray, List.getElem?_cons_zero, List.getElem?_cons_succ] at q0 q1
  have KS : Hid (∀ W, Bel W0 W → W.cell? (⟨w.heap.size, 0, none⟩ : Addr) = some (.slice sA n sc) ∧ W.cell? (⟨w.heap.size, 1, none⟩ : Addr) = some (.slice bA n bc)) := fun W hW => ⟨hW.kp q0, hW.kp q1⟩
  clear hW0 hsz0 q0 q1
  go_cut [7] (fun s7 wx => ∃ (q h1 h2 c1 c2 : Nat) (V : World), V = wx ∧ s7 = .pointer (some ⟨q, 0, none⟩) ∧ Bk wx q 32 #[.slice (some ⟨h1, 0, none⟩) n c1, .slice (some ⟨h2, 0, none⟩) n c2] ∧ wx.ownsRow W0.heap.size 3 1 (.slice (some ⟨h1, 0, none⟩) n c1) n (zs S) ∧ wx.ownsRow W0.heap.size 3 1 (.slice (some ⟨h2, 0, none⟩) n c2) n (zs B) ∧ h1 ≠ h2 ∧ q ≠ h1 ∧ q ≠ h2 ∧ W0.heap.size ≤ q ∧ Bel W0 wx)
  case first =>
    refine wp_region_noPanic ?_
    refine wp_region_held_drew (S := fun W => W.cell? (⟨w.heap.size, 0, none⟩ : Addr) = some (.slice sA n sc) ∧ W.cell? (⟨w.heap.size, 1, none⟩ : Addr) = some (.slice bA n bc)) (by kernel_rfl) ?_ (fun hH0 => ?_)
    · (try dsimp only); exact KS.out _ (by repeat (first | exact Bel.rf | (with_reducible refine Bel.drwN ?_ _) | (with_reducible refine Bel.drw ?_) | (with_reducible refine Bel.al ?_ _) | ((with_reducible refine Bel.st2 ?_ ?_ _); (first | exact Nat.le_refl _ | (simp; done) | (simp; omega)))))
    refine wpAnyH_take (i := 0) (oi := ⟨some 8, .fieldAddr 32 (.tmp 3) 0, 0, "word.go:135", #[], none⟩) (v := ?_) rfl (by kernel_rfl) (by kernel_rfl) (by kernel_rfl) (fun _ _ _ h => h) (Or.inl ⟨by first | kernel_rfl | rfl, ?_⟩) (by assumption) ?_
    rotate_left
    · (intro w hSw; (try dsimp only at hSw); obtain ⟨d1, d2⟩ := hSw; go_simp; try with_reducible rfl)
    try simp only [Act.put, List.setIfInBounds_toArray, List.set_cons_zero, List.set_cons_succ]
    refine wpAnyH_take (i := 1) (oi := ⟨some 9, .load 22 (.tmp 8), 22, "word.go:135", #[⟨0, .data⟩], none⟩) (v := ?_) rfl (by kernel_rfl) (by kernel_rfl) (by kernel_rfl) (fun _ _ _ h => h) (Or.inl ⟨by first | kernel_rfl | rfl, ?_⟩) (by assumption) ?_
    rotate_left
    · (intro w hSw; (try dsimp only at hSw); obtain ⟨d1, d2⟩ := hSw; go_simp; try with_reducible rfl)
    try simp only [Act.put, List.setIfInBounds_toArray, List.set_cons_zero, List.set_cons_succ]
    refine wpAnyH_take (i := 3) (oi := ⟨some 11, .fieldAddr 32 (.tmp 3) 1, 0, "word.go:135", #[], none⟩) (v := ?_) rfl (by kernel_rfl) (by kernel_rfl) (by kernel_rfl) (fun _ _ _ h => h) (Or.inl ⟨by first | kernel_rfl | rfl, ?_⟩) (by assumption) ?_
    rotate_left
    · (intro w hSw; (try dsimp only at hSw); obtain ⟨d1, d2⟩ := hSw; go_simp; try with_reducible rfl)
    try simp only [Act.put, List.setIfInBounds_toArray, List.set_cons_zero, List.set_cons_succ]
    refine wpAnyH_take (i := 4) (oi := ⟨some 12, .load 22 (.tmp 11), 22, "word.go:135", #[⟨3, .data⟩], none⟩) (v := ?_) rfl (by kernel_rfl) (by kernel_rfl) (by kernel_rfl) (fun _ _ _ h => h) (Or.inl ⟨by first | kernel_rfl | rfl, ?_⟩) (by assumption) ?_
    rotate_left
    · (intro w hSw; (try dsimp only at hSw); obtain ⟨d1, d2⟩ := hSw; go_simp; try with_reducible rfl)
    try simp only [Act.put, List.setIfInBounds_toArray, List.set_cons_zero, List.set_cons_succ]
    refine wpAnyH_ready (rs := [2, 7]) (by kernel_rfl) (by simp) ?_
    refine AllReadyH.cons (o := ⟨some 10, .call { callee := Callee.value (.func 97), args := #[.tmp 9], argTypes := #[22] }, 22, "word.go:135", #[⟨1, .data⟩], none⟩) rfl (fun K hK => ?_) (AllReadyH.cons (o := ⟨some 7, .alloc 32, 0, "word.go:135", #[], none⟩) rfl (fun K hK => ?_) (AllReadyH.nil))
    · go_simp
      go_at_call 97; refine (CS.out _ (HW0.out.tr (by repeat (first | exact Bel.rf | (with_reducible refine Bel.drwN ?_ _) | (with_reducible refine Bel.drw ?_) | (with_reducible refine Bel.al ?_ _))))).mono ?_; rintro e x1 ⟨h1, k1, rfl, ho1, hb1⟩
      try go_wp2_with fail
      refine hK.out _ _ ?_ (fun hH1 => ?_)
      · (try dsimp only); exact KS.out _ (by repeat (first | exact Bel.rf | (with_reducible refine Bel.drwN ?_ _) | (with_reducible refine Bel.drw ?_) | (with_reducible refine Bel.al ?_ _) | ((with_reducible refine Bel.st2 ?_ ?_ _); (first | exact Nat.le_refl _ | (simp; done) | (simp; omega) | (have := hb1.size; simp at *; omega))) | (refine Bel.tr ?_ hb1)))
      clear hK K hH0
      try simp only [Act.put, List.setIfInBounds_toArray, List.set_cons_zero, List.set_cons_succ]
      refine wpAnyH_ready (rs := [5, 7]) (by kernel_rfl) (by simp) ?_
      refine AllReadyH.cons (o := ⟨some 13, .call { callee := Callee.value (.func 97), args := #[.tmp 12], argTypes := #[22] }, 22, "word.go:135", #[⟨4, .data⟩, ⟨2, .chain⟩], none⟩) rfl (fun K hK => ?_) (AllReadyH.cons (o := ⟨some 7, .alloc 32, 0, "word.go:135", #[], none⟩) rfl (fun K hK => ?_) (AllReadyH.nil))
      · go_simp
        go_at_call 97; refine (CB.out _ (HW0.out.tr (by repeat (first | exact Bel.rf | (with_reducible refine Bel.drwN ?_ _) | (with_reducible refine Bel.drw ?_) | (with_reducible refine Bel.al ?_ _) | ((with_reducible refine Bel.st2 ?_ ?_ _); (first | exact Nat.le_refl _ | (simp; done) | (simp; omega) | (have := hb1.size; simp at *; omega))) | (refine Bel.tr ?_ hb1))))).mono ?_; rintro e x2 ⟨h2, k2, rfl, ho2, hb2⟩
        try go_wp2_with fail
        refine hK.out _ _ ?_ (fun hH2 => ?_)
        · (try dsimp only); exact KS.out _ (by repeat (first | exact Bel.rf | (with_reducible refine Bel.drwN ?_ _) | (with_reducible refine Bel.drw ?_) | (with_reducible refine Bel.al ?_ _) | ((with_reducible refine Bel.st2 ?_ ?_ _); (first | exact Nat.le_refl _ | (simp; done) | (simp; omega) | (have := hb1.size; simp at *; omega))) | (refine Bel.tr ?_ hb2) | (refine Bel.tr ?_ hb1)))
        clear hK K hH1
        try simp only [Act.put, List.setIfInBounds_toArray, List.set_cons_zero, List.set_cons_succ]
        refine wpAnyH_take (i := 6) (oi := ⟨some 14, .build 32 #[(0, .tmp 10), (1, .tmp 13)], 32, "word.go:135", #[⟨2, .data⟩, ⟨5, .data⟩], none⟩) (v := ?_) rfl (by kernel_rfl) (by kernel_rfl) (by kernel_rfl) (fun _ _ _ h => h) (Or.inl ⟨by first | kernel_rfl | rfl, ?_⟩) (by assumption) ?_
        rotate_left
        · (intro w hSw; (try dsimp only at hSw); obtain ⟨d1, d2⟩ := hSw; go_simp; try with_reducible rfl)
        try simp only [Act.put, List.setIfInBounds_toArray, List.set_cons_zero, List.set_cons_succ]
        refine wpAnyH_ready (rs := [7]) (by kernel_rfl) (by simp) ?_
        refine AllReadyH.cons (o := ⟨some 7, .alloc 32, 0, "word.go:135", #[], none⟩) rfl (fun K hK => ?_) (AllReadyH.nil)
        · go_simp
          try go_wp2_with fail
          refine hK.out _ _ ?_ (fun hH3 => ?_)
          · (try dsimp only); exact KS.out _ (by repeat (first | exact Bel.rf | (with_reducible refine Bel.drwN ?_ _) | (with_reducible refine Bel.drw ?_) | (with_reducible refine Bel.al ?_ _) | ((with_reducible refine Bel.st2 ?_ ?_ _); (first | exact Nat.le_refl _ | (simp; done) | (simp; omega) | (have := hb1.size; simp at *; omega))) | (refine Bel.tr ?_ hb2) | (refine Bel.tr ?_ hb1)))
          clear hK K hH2
          try simp only [Act.put, List.setIfInBounds_toArray, List.set_cons_zero, List.set_cons_succ]
          refine wpAnyH_ready (rs := [8]) (by kernel_rfl) (by simp) ?_
          refine AllReadyH.cons (o := ⟨none, .store 32 (.tmp 7) (.tmp 14), 0, "word.go:135", #[⟨7, .data⟩, ⟨6, .data⟩, ⟨5, .chain⟩, ⟨0, .phase⟩, ⟨1, .phase⟩, ⟨2, .phase⟩, ⟨3, .phase⟩, ⟨4, .phase⟩, ⟨5, .phase⟩, ⟨6, .phase⟩, ⟨7, .phase⟩], none⟩) rfl (fun K hK => ?_) (AllReadyH.nil)
          · go_simp
            try go_wp2_with fail
            refine hK.out _ _ ?_ (fun hH4 => ?_)
            · (try dsimp only); exact KS.out _ (by repeat (first | exact Bel.rf | (with_reducible refine Bel.drwN ?_ _) | (with_reducible refine Bel.drw ?_) | (with_reducible refine Bel.al ?_ _) | ((with_reducible refine Bel.st2 ?_ ?_ _); (first | exact Nat.le_refl _ | (simp; done) | (simp; omega) | (have := hb1.size; simp at *; omega))) | (refine Bel.tr ?_ hb2) | (refine Bel.tr ?_ hb1)))
            clear hK K hH3
            try simp only [Act.put, List.setIfInBounds_toArray, List.set_cons_zero, List.set_cons_succ]
            refine wpAnyH_done (by kernel_rfl) ?_ _
            refine NoPanic.normal ?_
            go_wp2_with fail
            go_meet
            have L1 := ho1.lt h1 rfl
            have L2 := ho2.lt h2 rfl
            have S1 := hb1.size
            have S2 := hb2.size
            (try simp only [World.size_alloc, World.size_drew] at L1)
            (try simp only [World.size_alloc, World.size_drew] at L2)
            (try simp only [World.size_alloc, World.size_drew] at S1)
            (try simp only [World.size_alloc, World.size_drew] at S2)
            exact ⟨x2.heap.size, h1, h2, k1, k2, _, rfl, rfl, (by repeat (first | (refine Bk.nq _ _ _ ?_; simp; done) | (with_reducible refine Bk.drwN ?_ _) | (with_reducible refine Bk.drw ?_) | (with_reducible refine Bk.al ?_ _))), own_lowd (own_bel ho1 (by repeat (first | exact Bel.rf | (with_reducible refine Bel.drwN ?_ _) | (with_reducible refine Bel.drw ?_) | (with_reducible refine Bel.al ?_ _) | ((with_reducible refine Bel.st2 ?_ ?_ _); (first | exact Nat.le_refl _ | (simp; done) | (simp; omega) | (have := hb1.size; simp at *; omega))) | (refine Bel.tr ?_ hb2) | (refine Bel.tr ?_ hb1)))) (by first | omega | (simp; done) | (simp; omega)), own_lowd (own_bel ho2 (by repeat (first | exact Bel.rf | (with_reducible refine Bel.drwN ?_ _) | (with_reducible refine Bel.drw ?_) | (with_reducible refine Bel.al ?_ _) | ((with_reducible refine Bel.st2 ?_ ?_ _); (first | exact Nat.le_refl _ | (simp; done) | (simp; omega) | (have := hb1.size; simp at *; omega))) | (refine Bel.tr ?_ hb2) | (refine Bel.tr ?_ hb1)))) (by first | omega | (simp; done) | (simp; omega)), by omega, by omega, by omega, by omega, (by repeat (first | exact Bel.rf | (with_reducible refine Bel.drwN ?_ _) | (with_reducible refine Bel.drw ?_) | (with_reducible refine Bel.al ?_ _) | ((with_reducible refine Bel.st2 ?_ ?_ _); (first | exact Nat.le_refl _ | (simp; done) | (simp; omega) | (have := hb1.size; simp at *; omega))) | (refine Bel.tr ?_ hb2) | (refine Bel.tr ?_ hb1)))⟩
      · go_simp
        try go_wp2_with fail
        refine hK.out _ _ ?_ (fun hH2 => ?_)
        · (try dsimp only); exact KS.out _ (by repeat (first | exact Bel.rf | (with_reducible refine Bel.drwN ?_ _) | (with_reducible refine Bel.drw ?_) | (with_reducible refine Bel.al ?_ _) | ((with_reducible refine Bel.st2 ?_ ?_ _); (first | exact Nat.le_refl _ | (simp; done) | (simp; omega) | (have := hb1.size; simp at *; omega))) | (refine Bel.tr ?_ hb1)))
        clear hK K hH1
        try simp only [Act.put, List.setIfInBounds_toArray, List.set_cons_zero, List.set_cons_succ]
        refine wpAnyH_ready (rs := [5]) (by kernel_rfl) (by simp) ?_
        refine AllReadyH.cons (o := ⟨some 13, .call { callee := Callee.value (.func 97), args := #[.tmp 12], argTypes := #[22] }, 22, "word.go:135", #[⟨4, .data⟩, ⟨2, .chain⟩], none⟩) rfl (fun K hK => ?_) (AllReadyH.nil)
        · go_simp
          go_at_call 97; refine (CB.out _ (HW0.out.tr (by repeat (first | exact Bel.rf | (with_reducible refine Bel.drwN ?_ _) | (with_reducible refine Bel.drw ?_) | (with_reducible refine Bel.al ?_ _) | ((with_reducible refine Bel.st2 ?_ ?_ _); (first | exact Nat.le_refl _ | (simp; done) | (simp; omega) | (have := hb1.size; simp at *; omega))) | (refine Bel.tr ?_ hb1))))).mono ?_; rintro e x2 ⟨h2, k2, rfl, ho2, hb2⟩; have HQ2 : Bk x2 x1.heap.size 32 #[.slice none 0 0, .slice none 0 0] := ((by repeat (first | (refine Bk.nq _ _ _ ?_; simp; done) | (with_reducible refine Bk.drwN ?_ _) | (with_reducible refine Bk.drw ?_) | (with_reducible refine Bk.al ?_ _))) : Bk _ x1.heap.size 32 #[.slice none 0 0, .slice none 0 0]).bel hb2; have y0 := HQ2.cell 0; have y1 := HQ2.cell 1; have z0 := HQ2.fr 0; have z1 := HQ2.fr 1; simp only [List.getElem?_toArray, List.getElem?_cons_zero, List.getElem?_cons_succ] at y0 y1
          try go_wp2_with fail
          refine hK.out _ _ ?_ (fun hH3 => ?_)
          · (try dsimp only); exact KS.out _ (by repeat (first | exact Bel.rf | (with_reducible refine Bel.drwN ?_ _) | (with_reducible refine Bel.drw ?_) | (with_reducible refine Bel.al ?_ _) | ((with_reducible refine Bel.st2 ?_ ?_ _); (first | exact Nat.le_refl _ | (simp; done) | (simp; omega) | (have := hb1.size; simp at *; omega))) | (refine Bel.tr ?_ hb2) | (refine Bel.tr ?_ hb1)))
          clear hK K hH2
          try simp only [Act.put, List.setIfInBounds_toArray, List.set_cons_zero, List.set_cons_succ]
          refine wpAnyH_take (i := 6) (oi := ⟨some 14, .build 32 #[(0, .tmp 10), (1, .tmp 13)], 32, "word.go:135", #[⟨2, .data⟩, ⟨5, .data⟩], none⟩) (v := ?_) rfl (by kernel_rfl) (by kernel_rfl) (by kernel_rfl) (fun _ _ _ h => h) (Or.inl ⟨by first | kernel_rfl | rfl, ?_⟩) (by assumption) ?_
          rotate_left
          · (intro w hSw; (try dsimp only at hSw); obtain ⟨d1, d2⟩ := hSw; go_simp; try with_reducible rfl)
          try simp only [Act.put, List.setIfInBounds_toArray, List.set_cons_zero, List.set_cons_succ]
          refine wpAnyH_ready (rs := [8]) (by kernel_rfl) (by simp) ?_
          refine AllReadyH.cons (o := ⟨none, .store 32 (.tmp 7) (.tmp 14), 0, "word.go:135", #[⟨7, .data⟩, ⟨6, .data⟩, ⟨5, .chain⟩, ⟨0, .phase⟩, ⟨1, .phase⟩, ⟨2, .phase⟩, ⟨3, .phase⟩, ⟨4, .phase⟩, ⟨5, .phase⟩, ⟨6, .phase⟩, ⟨7, .phase⟩], none⟩) rfl (fun K hK => ?_) (AllReadyH.nil)
          · go_simp
            try go_wp2_with fail
            refine hK.out _ _ ?_ (fun hH4 => ?_)
            · (try dsimp only); exact KS.out _ (by repeat (first | exact Bel.rf | (with_reducible refine Bel.drwN ?_ _) | (with_reducible refine Bel.drw ?_) | (with_reducible refine Bel.al ?_ _) | ((with_reducible refine Bel.st2 ?_ ?_ _); (first | exact Nat.le_refl _ | (simp; done) | (simp; omega) | (have := hb1.size; simp at *; omega))) | (refine Bel.tr ?_ hb2) | (refine Bel.tr ?_ hb1)))
            clear hK K hH3
            try simp only [Act.put, List.setIfInBounds_toArray, List.set_cons_zero, List.set_cons_succ]
            refine wpAnyH_done (by kernel_rfl) ?_ _
            refine NoPanic.normal ?_
            go_wp2_with fail
            go_meet
            have L1 := ho1.lt h1 rfl
            have L2 := ho2.lt h2 rfl
            have S1 := hb1.size
            have S2 := hb2.size
            (try simp only [World.size_alloc, World.size_drew] at L1)
            (try simp only [World.size_alloc, World.size_drew] at L2)
            (try simp only [World.size_alloc, World.size_drew] at S1)
            (try simp only [World.size_alloc, World.size_drew] at S2)
            exact ⟨x1.heap.size, h1, h2, k1, k2, _, rfl, rfl, (HQ2.st 0 _).st 1 _, own_lowd (World.ownsRow.kept (own_bel ho1 (by repeat (first | exact Bel.rf | (with_reducible refine Bel.drwN ?_ _) | (with_reducible refine Bel.drw ?_) | (with_reducible refine Bel.al ?_ _) | ((with_reducible refine Bel.st2 ?_ ?_ _); (first | exact Nat.le_refl _ | (simp; done) | (simp; omega) | (have := hb1.size; simp at *; omega))) | (refine Bel.tr ?_ hb2) | (refine Bel.tr ?_ hb1)))) (((Ch.rf (g := x1.heap.size)).st 0 _).st 1 _) (.inr (fun e => by simp [Value.ownBlock] at e; omega))) (by first | omega | (simp; done) | (simp; omega)), own_lowd (World.ownsRow.kept (own_bel ho2 (by repeat (first | exact Bel.rf | (with_reducible refine Bel.drwN ?_ _) | (with_reducible refine Bel.drw ?_) | (with_reducible refine Bel.al ?_ _) | ((with_reducible refine Bel.st2 ?_ ?_ _); (first | exact Nat.le_refl _ | (simp; done) | (simp; omega) | (have := hb1.size; simp at *; omega))) | (refine Bel.tr ?_ hb2) | (refine Bel.tr ?_ hb1)))) (((Ch.rf (g := x1.heap.size)).st 0 _).st 1 _) (.inr (fun e => by simp [Value.ownBlock] at e; omega))) (by first | omega | (simp; done) | (simp; omega)), by omega, by omega, by omega, by omega, Bel.st2 (by first | exact Nat.le_refl _ | omega) (Bel.st2 (by first | exact Nat.le_refl _ | omega) (by repeat (first | exact Bel.rf | (with_reducible refine Bel.drwN ?_ _) | (with_reducible refine Bel.drw ?_) | (with_reducible refine Bel.al ?_ _) | ((with_reducible refine Bel.st2 ?_ ?_ _); (first | exact Nat.le_refl _ | (simp; done) | (simp; omega) | (have := hb1.size; simp at *; omega))) | (refine Bel.tr ?_ hb2) | (refine Bel.tr ?_ hb1))) _) _⟩
    · go_simp
      try go_wp2_with fail
      refine hK.out _ _ ?_ (fun hH1 => ?_)
      · (try dsimp only); exact KS.out _ (by repeat (first | exact Bel.rf | (with_reducible refine Bel.drwN ?_ _) | (with_reducible refine Bel.drw ?_) | (with_reducible refine Bel.al ?_ _) | ((with_reducible refine Bel.st2 ?_ ?_ _); (first | exact Nat.le_refl _ | (simp; done) | (simp; omega)))))
      clear hK K hH0
      try simp only [Act.put, List.setIfInBounds_toArray, List.set_cons_zero, List.set_cons_succ]
      refine wpAnyH_ready (rs := [2]) (by kernel_rfl) (by simp) ?_
      refine AllReadyH.cons (o := ⟨some 10, .call { callee := Callee.value (.func 97), args := #[.tmp 9], argTypes := #[22] }, 22, "word.go:135", #[⟨1, .data⟩], none⟩) rfl (fun K hK => ?_) (AllReadyH.nil)
      · go_simp
        go_at_call 97; refine (CS.out _ (HW0.out.tr (by repeat (first | exact Bel.rf | (with_reducible refine Bel.drwN ?_ _) | (with_reducible refine Bel.drw ?_) | (with_reducible refine Bel.al ?_ _))))).mono ?_; rintro e x1 ⟨h1, k1, rfl, ho1, hb1⟩; have HQ1 : Bk x1 W0.heap.size 32 #[.slice none 0 0, .slice none 0 0] := ((by repeat (first | (refine Bk.nq _ _ _ ?_; simp; done) | (with_reducible refine Bk.drwN ?_ _) | (with_reducible refine Bk.drw ?_) | (with_reducible refine Bk.al ?_ _))) : Bk _ W0.heap.size 32 #[.slice none 0 0, .slice none 0 0]).bel hb1
        try go_wp2_with fail
        refine hK.out _ _ ?_ (fun hH2 => ?_)
        · (try dsimp only); exact KS.out _ (by repeat (first | exact Bel.rf | (with_reducible refine Bel.drwN ?_ _) | (with_reducible refine Bel.drw ?_) | (with_reducible refine Bel.al ?_ _) | ((with_reducible refine Bel.st2 ?_ ?_ _); (first | exact Nat.le_refl _ | (simp; done) | (simp; omega) | (have := hb1.size; simp at *; omega))) | (refine Bel.tr ?_ hb1)))
        clear hK K hH1
        try simp only [Act.put, List.setIfInBounds_toArray, List.set_cons_zero, List.set_cons_succ]
        refine wpAnyH_ready (rs := [5]) (by kernel_rfl) (by simp) ?_
        refine AllReadyH.cons (o := ⟨some 13, .call { callee := Callee.value (.func 97), args := #[.tmp 12], argTypes := #[22] }, 22, "word.go:135", #[⟨4, .data⟩, ⟨2, .chain⟩], none⟩) rfl (fun K hK => ?_) (AllReadyH.nil)
        · go_simp
          go_at_call 97; refine (CB.out _ (HW0.out.tr (by repeat (first | exact Bel.rf | (with_reducible refine Bel.drwN ?_ _) | (with_reducible refine Bel.drw ?_) | (with_reducible refine Bel.al ?_ _) | ((with_reducible refine Bel.st2 ?_ ?_ _); (first | exact Nat.le_refl _ | (simp; done) | (simp; omega) | (have := hb1.size; simp at *; omega))) | (refine Bel.tr ?_ hb1))))).mono ?_; rintro e x2 ⟨h2, k2, rfl, ho2, hb2⟩; have HQ2 : Bk x2 W0.heap.size 32 #[.slice none 0 0, .slice none 0 0] := (HQ1.bel (by repeat (first | exact Bel.rf | (with_reducible refine Bel.drwN ?_ _) | (with_reducible refine Bel.drw ?_) | (with_reducible refine Bel.al ?_ _)))).bel hb2; have y0 := HQ2.cell 0; have y1 := HQ2.cell 1; have z0 := HQ2.fr 0; have z1 := HQ2.fr 1; simp only [List.getElem?_toArray, List.getElem?_cons_zero, List.getElem?_cons_succ] at y0 y1
          try go_wp2_with fail
          refine hK.out _ _ ?_ (fun hH3 => ?_)
          · (try dsimp only); exact KS.out _ (by repeat (first | exact Bel.rf | (with_reducible refine Bel.drwN ?_ _) | (with_reducible refine Bel.drw ?_) | (with_reducible refine Bel.al ?_ _) | ((with_reducible refine Bel.st2 ?_ ?_ _); (first | exact Nat.le_refl _ | (simp; done) | (simp; omega) | (have := hb1.size; simp at *; omega))) | (refine Bel.tr ?_ hb2) | (refine Bel.tr ?_ hb1)))
          clear hK K hH2
          try simp only [Act.put, List.setIfInBounds_toArray, List.set_cons_zero, List.set_cons_succ]
          refine wpAnyH_take (i := 6) (oi := ⟨some 14, .build 32 #[(0, .tmp 10), (1, .tmp 13)], 32, "word.go:135", #[⟨2, .data⟩, ⟨5, .data⟩], none⟩) (v := ?_) rfl (by kernel_rfl) (by kernel_rfl) (by kernel_rfl) (fun _ _ _ h => h) (Or.inl ⟨by first | kernel_rfl | rfl, ?_⟩) (by assumption) ?_
          rotate_left
          · (intro w hSw; (try dsimp only at hSw); obtain ⟨d1, d2⟩ := hSw; go_simp; try with_reducible rfl)
          try simp only [Act.put, List.setIfInBounds_toArray, List.set_cons_zero, List.set_cons_succ]
          refine wpAnyH_ready (rs := [8]) (by kernel_rfl) (by simp) ?_
          refine AllReadyH.cons (o := ⟨none, .store 32 (.tmp 7) (.tmp 14), 0, "word.go:135", #[⟨7, .data⟩, ⟨6, .data⟩, ⟨5, .chain⟩, ⟨0, .phase⟩, ⟨1, .phase⟩, ⟨2, .phase⟩, ⟨3, .phase⟩, ⟨4, .phase⟩, ⟨5, .phase⟩, ⟨6, .phase⟩, ⟨7, .phase⟩], none⟩) rfl (fun K hK => ?_) (AllReadyH.nil)
          · go_simp
            try go_wp2_with fail
            refine hK.out _ _ ?_ (fun hH4 => ?_)
            · (try dsimp only); exact KS.out _ (by repeat (first | exact Bel.rf | (with_reducible refine Bel.drwN ?_ _) | (with_reducible refine Bel.drw ?_) | (with_reducible refine Bel.al ?_ _) | ((with_reducible refine Bel.st2 ?_ ?_ _); (first | exact Nat.le_refl _ | (simp; done) | (simp; omega) | (have := hb1.size; simp at *; omega))) | (refine Bel.tr ?_ hb2) | (refine Bel.tr ?_ hb1)))
            clear hK K hH3
            try simp only [Act.put, List.setIfInBounds_toArray, List.set_cons_zero, List.set_cons_succ]
            refine wpAnyH_done (by kernel_rfl) ?_ _
            refine NoPanic.normal ?_
            go_wp2_with fail
            go_meet
            have L1 := ho1.lt h1 rfl
            have L2 := ho2.lt h2 rfl
            have S1 := hb1.size
            have S2 := hb2.size
            (try simp only [World.size_alloc, World.size_drew] at L1)
            (try simp only [World.size_alloc, World.size_drew] at L2)
            (try simp only [World.size_alloc, World.size_drew] at S1)
            (try simp only [World.size_alloc, World.size_drew] at S2)
            exact ⟨W0.heap.size, h1, h2, k1, k2, _, rfl, rfl, (HQ2.st 0 _).st 1 _, own_lowd (World.ownsRow.kept (own_bel ho1 (by repeat (first | exact Bel.rf | (with_reducible refine Bel.drwN ?_ _) | (with_reducible refine Bel.drw ?_) | (with_reducible refine Bel.al ?_ _) | ((with_reducible refine Bel.st2 ?_ ?_ _); (first | exact Nat.le_refl _ | (simp; done) | (simp; omega) | (have := hb1.size; simp at *; omega))) | (refine Bel.tr ?_ hb2) | (refine Bel.tr ?_ hb1)))) (((Ch.rf (g := W0.heap.size)).st 0 _).st 1 _) (.inr (fun e => by simp [Value.ownBlock] at e; omega))) (by first | omega | (simp; done) | (simp; omega)), own_lowd (World.ownsRow.kept (own_bel ho2 (by repeat (first | exact Bel.rf | (with_reducible refine Bel.drwN ?_ _) | (with_reducible refine Bel.drw ?_) | (with_reducible refine Bel.al ?_ _) | ((with_reducible refine Bel.st2 ?_ ?_ _); (first | exact Nat.le_refl _ | (simp; done) | (simp; omega) | (have := hb1.size; simp at *; omega))) | (refine Bel.tr ?_ hb2) | (refine Bel.tr ?_ hb1)))) (((Ch.rf (g := W0.heap.size)).st 0 _).st 1 _) (.inr (fun e => by simp [Value.ownBlock] at e; omega))) (by first | omega | (simp; done) | (simp; omega)), by omega, by omega, by omega, by omega, Bel.st2 (by first | exact Nat.le_refl _ | omega) (Bel.st2 (by first | exact Nat.le_refl _ | omega) (by repeat (first | exact Bel.rf | (with_reducible refine Bel.drwN ?_ _) | (with_reducible refine Bel.drw ?_) | (with_reducible refine Bel.al ?_ _) | ((with_reducible refine Bel.st2 ?_ ?_ _); (first | exact Nat.le_refl _ | (simp; done) | (simp; omega) | (have := hb1.size; simp at *; omega))) | (refine Bel.tr ?_ hb2) | (refine Bel.tr ?_ hb1))) _) _⟩
  case rest =>
    obtain ⟨q, h1, h2, c1, c2, wx, hwx, rfl, hk, ho1, ho2, hne, hq1, hq2, hq0, hbx⟩ := hcut
    subst hwx
    have HK := Lib.hid hk
    have HO1 := Lib.hid ho1
    have HO2 := Lib.hid ho2
    have HBX := Lib.hid hbx
    have HNE := Lib.hid (And.intro hne (And.intro hq1 (And.intro hq2 hq0)))
    have zs1 := own_zi ho1 HLS.out
    have zs2 := own_zi ho2 HLB.out
    have x1 := zs1.at p hp
    have x2 := zs2.at p hp
    have f1 := own_fr ho1 p
    have f2 := own_fr ho2 p
    have k0 := hk.cell 0
    have k1 := hk.cell 1
    simp only [List.getElem?_toArray, List.getElem?_cons_zero, List.getElem?_cons_succ] at k0 k1
    obtain ⟨s, hs⟩ : ∃ x, S.getD p 0 = x := ⟨_, rfl⟩
    obtain ⟨y, hy⟩ : ∃ x, B.getD p 0 = x := ⟨_, rfl⟩
    have HSY := Lib.hid (And.intro hs hy)
    rw [hs] at x1 s0 s1
    rw [hy] at x2 b0 b4 s1
    have pi : (p : Int) < (n : Int) := by omega
    have pi0 : (0 : Int) ≤ (p : Int) := by omega
    have sle : s ≤ 16 := by
      have hb5 : y = 0 ∨ y = 1 ∨ y = 2 ∨ y = 3 ∨ y = 4 := by omega
      rcases hb5 with rfl | rfl | rfl | rfl | rfl
      · have : s < 1 := s1; omega
      · have : s < 2 := s1; omega
      · have : s < 4 := s1; omega
      · have : s < 8 := s1; omega
      · have : s < 16 := s1; omega
    have w21 : IntKind.i64.wrap (2 * s) = 2 * s := IntWalk.i64_in _ (by omega)
    have w22 : IntKind.i64.wrap (2 * s + bit) = 2 * s + bit := IntWalk.i64_in _ (by rcases hbit with rfl | rfl <;> omega)
    have nh1 : ¬ h1 = h2 := hne
    have nh2 : ¬ h2 = h1 := fun e => hne e.symm
    have nq1 : ¬ q = h1 := hq1
    have nq2 : ¬ q = h2 := hq2
    have L1 := (ho1.lt h1 rfl).1
    have L2 := (ho2.lt h2 rfl).1
    have hsz := HSZ0.out
    have hkr := HR1.out.bel hbx
    have r0 := hkr.cell 0
    have r1 := hkr.cell 1
    have e0 := hkr.fr 0
    have e1 := hkr.fr 1
    simp only [List.getElem?_toArray, List.getElem?_cons_zero, List.getElem?_cons_succ] at r0 r1
    have nr1 : ¬ w.heap.size + 1 = h1 := by omega
    have nr2 : ¬ w.heap.size + 1 = h2 := by omega
    have nr3 : ¬ w.heap.size + 1 = q := by omega
    have nr4 : ¬ h1 = w.heap.size + 1 := by omega
    have nr5 : ¬ h2 = w.heap.size + 1 := by omega
    have lr : w.heap.size + 1 < wx.heap.size := hkr.lt
    have lh1 : h1 < wx.heap.size := (ho1.lt h1 rfl).2
    have lh2 : h2 < wx.heap.size := (ho2.lt h2 rfl).2
    have HF : Hid (Bk ((((wx.setCell ⟨h1, p, none⟩ (.int .i64 (2 * s + bit))).setCell ⟨h2, p, none⟩ (.int .i64 (y + 1))).setCell ⟨w.heap.size + 1, 0, none⟩ (.slice (some ⟨h1, 0, none⟩) n c1)).setCell ⟨w.heap.size + 1, 1, none⟩ (.slice (some ⟨h2, 0, none⟩) n c2)) (w.heap.size + 1) 32 #[.slice (some ⟨h1, 0, none⟩) n c1, .slice (some ⟨h2, 0, none⟩) n c2] ∧ Zi ((((wx.setCell ⟨h1, p, none⟩ (.int .i64 (2 * s + bit))).setCell ⟨h2, p, none⟩ (.int .i64 (y + 1))).setCell ⟨w.heap.size + 1, 0, none⟩ (.slice (some ⟨h1, 0, none⟩) n c1)).setCell ⟨w.heap.size + 1, 1, none⟩ (.slice (some ⟨h2, 0, none⟩) n c2)) (some ⟨h1, 0, none⟩) n (S.set p (2 * s + bit)) ∧ Zi ((((wx.setCell ⟨h1, p, none⟩ (.int .i64 (2 * s + bit))).setCell ⟨h2, p, none⟩ (.int .i64 (y + 1))).setCell ⟨w.heap.size + 1, 0, none⟩ (.slice (some ⟨h1, 0, none⟩) n c1)).setCell ⟨w.heap.size + 1, 1, none⟩ (.slice (some ⟨h2, 0, none⟩) n c2)) (some ⟨h2, 0, none⟩) n (B.set p (y + 1)) ∧ Bel w ((((wx.setCell ⟨h1, p, none⟩ (.int .i64 (2 * s + bit))).setCell ⟨h2, p, none⟩ (.int .i64 (y + 1))).setCell ⟨w.heap.size + 1, 0, none⟩ (.slice (some ⟨h1, 0, none⟩) n c1)).setCell ⟨w.heap.size + 1, 1, none⟩ (.slice (some ⟨h2, 0, none⟩) n c2))) := by
      have oa := own_set (t := p) ho1 (2 * s + bit)
      have oa2 := World.ownsRow.kept oa ((Ch.rf (g := h2)).st p (.int .i64 (y + 1))) (.inr (fun e => by simp [Value.ownBlock] at e; omega))
      have oa3 := own_ch oa2 (((Ch.rf (g := w.heap.size + 1)).st 0 (.slice (some ⟨h1, 0, none⟩) n c1)).st 1 (.slice (some ⟨h2, 0, none⟩) n c2)) (by omega)
      have ob := World.ownsRow.kept ho2 ((Ch.rf (g := h1)).st p (.int .i64 (2 * s + bit))) (.inr (fun e => by simp [Value.ownBlock] at e; omega))
      have ob2 := own_set (t := p) ob (y + 1)
      have ob3 := own_ch ob2 (((Ch.rf (g := w.heap.size + 1)).st 0 (.slice (some ⟨h1, 0, none⟩) n c1)).st 1 (.slice (some ⟨h2, 0, none⟩) n c2)) (by omega)
      refine ⟨(((hkr.far (by show w.heap.size + 1 ≠ h1; omega) _).far (by show w.heap.size + 1 ≠ h2; omega) _).st 0 _).st 1 _, own_zi oa3 (by rw [List.length_set]; exact HLS.out), own_zi ob3 (by rw [List.length_set]; exact HLB.out), ?_⟩
      exact Bel.st2 (by show w.heap.size ≤ w.heap.size + 1; omega) (Bel.st2 (by show w.heap.size ≤ w.heap.size + 1; omega) (Bel.st2 (by show w.heap.size ≤ h2; omega) (Bel.st2 (by show w.heap.size ≤ h1; omega) (HW0.out.tr hbx) _) _) _) _
    have HKR := Lib.hid hkr
    have HLL := Lib.hid (And.intro L1 L2)
    clear s1 hk ho1 ho2 hbx zs1 zs2 hs hy hne hq1 hq2 hq0 L1 L2 hsz hkr
    go_wp2
    go_region_law (fail)
    all_goals
      go_wp2_with fail
      exact bodyPost_ret (v := Wx n (some ⟨h1, 0, none⟩) (some ⟨h2, 0, none⟩) c1 c2) (results_w Try.results59 _ _ (w.heap.size + 1) _ _ rfl (HF.out.1.bel (by repeat (first | exact Bel.rf | (with_reducible refine Bel.drwN ?_ _) | (with_reducible refine Bel.drw ?_) | (with_reducible refine Bel.al ?_ _))))) rfl ⟨some ⟨h1, 0, none⟩, some ⟨h2, 0, none⟩, c1, c2, rfl, by rw [HSY.out.1]; exact HF.out.2.1.bel (by repeat (first | exact Bel.rf | (with_reducible refine Bel.drwN ?_ _) | (with_reducible refine Bel.drw ?_) | (with_reducible refine Bel.al ?_ _))), by rw [HSY.out.2]; exact HF.out.2.2.1.bel (by repeat (first | exact Bel.rf | (with_reducible refine Bel.drwN ?_ _) | (with_reducible refine Bel.drw ?_) | (with_reducible refine Bel.al ?_ _))), HF.out.2.2.2.tr (by repeat (first | exact Bel.rf | (with_reducible refine Bel.drwN ?_ _) | (with_reducible refine Bel.drw ?_) | (with_reducible refine Bel.al ?_ _)))⟩
end Go.Proofs.Ytgdhgeongdenpaa.Wd
