/- word.Of. -/
import Derived.Test.YtgdhgeongdenpaaWd11
import Derived.Test.YtgdhgeongdenpaaRepW
import Derived.Test.YtgdhgeongdenpaaWd8
namespace Go.Proofs.Ytgdhgeongdenpaa.Wd
open Go.ChangeShapes Go.WideShapes Go.RowKit Wo Sr Wi Ms Pc Nr Rt Sg
set_option linter.unusedVariables false
set_option linter.unusedSimpArgs false
theorem step_make {P : Program} (w : World) {ops : Array Oper} {o : Oper} {a : Act} {K : Act → World → Prop} {Q : Exit → Act → World → Prop} {E : Prop} (hg : o.guard = none) (l c : Operand) (t : TypeId) (hop : o.op = Op.makeSlice t l c)
    (e : TypeId) (i : TypeInfo) (z : Value) (size : Nat) (h1 : P.underlying t = some (.slice e)) (h2 : P.info? e = some i) (h3 : i.zero = some z) (h4 : i.size = size)
    (kl kc : IntKind) (L C : Int) (m n : Nat) (hl : a.eval l = .int kl L) (hc : a.eval c = .int kc C) (hL : L = (m : Int)) (hC : C = (n : Int)) (hmn : m ≤ n) (b2 : i.bytes * n ≤ 281474976710656) (b3 : n ≤ 4611686018427387904)
    (hK : K (a.put o.dst (.slice (some ⟨w.heap.size, 0, none⟩) m n)) (w.alloc (.cells (madeCells z.cells (n * size)) e))) :
    if Region.wanted o (yielded ops a.tmps) = true then Oper.wp P o a w K Q else E := by
  have hw : Region.wanted o (yielded ops a.tmps) = true := by simp [Region.wanted, hg]
  rw [if_pos hw]
  have hb' : (i.bytes : Int) * (n : Int) ≤ 281474976710656 := by
    have h : ((i.bytes * n : Nat) : Int) ≤ 281474976710656 := by omega
    rwa [Int.natCast_mul] at h
  have hr := run_make (P := P) w t e i z h1 h2 h3 kl kc m n (by omega) (by omega) hb' (by omega)
  simp only [Int.toNat_natCast] at hr
  subst hL
  subst hC
  subst h4
  unfold Oper.wp
  simp [execOp, hop, hl, hc, hr, Result.andThen]
  exact hK
theorem results_wt {fn : Func} {p q : Tmp} (h : fn.results = #[.cell p 32, .tmp q]) (tmps : Array Value) (w : World) (g : Nat) (a b c : Value)
    (hp : tmps.getD p undef = .pointer (some ⟨g, 0, none⟩)) (hq : tmps.getD q undef = c) (hg : Bk w g 32 #[a, b]) : (results fn tmps).run Try.prog w = .ok (.tuple #[.agg #[a, b], c]) w := by
  have hp' : tmps[p]?.getD undef = .pointer (some ⟨g, 0, none⟩) := by simpa using hp
  have hq' : tmps[q]?.getD undef = c := by simpa using hq
  have hl := run_loadVar_row (P := Try.prog) w g 32 32 #[a, b] (0, 0) _ hg Try.underlying32 rfl (by kernel_rfl)
  simp [results, h, hp', hq', asAddr, hl]
/-- the symbols of a window -/
def sys (k : Int) (C X : List Int) (m n : Nat) : List Int := (cds k X m n).map fun c => (sym C c : Int)
theorem sys_len (k : Int) (C X : List Int) (m n : Nat) : (sys k C X m n).length = n := by simp [sys, cds_len]
theorem sys_at (k : Int) (C X : List Int) (m n p : Nat) (h : p < n) : (sys k C X m n).getD p 0 = (sym C (cdl k X m n p) : Int) := by
  unfold sys
  rw [List.getD_eq_getElem?_getD, List.getElem?_map, List.getElem?_eq_getElem (by rw [cds_len]; exact h)]
  have := cds_at k X m n p h
  rw [List.getD_eq_getElem?_getD, List.getElem?_eq_getElem (by rw [cds_len]; exact h)] at this
  simp at this ⊢
  rw [this]
theorem sys_wv {C : List Int} (hC : Cv C) (k : Int) (X : List Int) (m n : Nat) : Wv n (sys k C X m n) (List.replicate n 4) := by
  refine ⟨sys_len _ _ _ _ _, by simp, fun p hp => ?_⟩
  have h4 : (List.replicate n (4 : Int)).getD p 0 = 4 := by rw [List.getD_eq_getElem?_getD, List.getElem?_replicate, if_pos hp]; rfl
  rw [h4, sys_at _ _ _ _ _ _ hp]
  have h1 := sym_le C (cdl k X m n p)
  have h2 := hC.1
  refine ⟨by decide, by decide, by omega, ?_⟩
  show (sym C (cdl k X m n p) : Int) < 16
  omega
/-- a new full word -/
def SomeOf (n : Nat) (S : List Int) (w : World) (e : Ending) (w' : World) : Prop := ∃ sA bA sc bc, e = .returned (.tuple #[Wx n sA bA sc bc, .int .i64 0]) ∧ Zi w' sA n S ∧ Zi w' bA n (List.replicate n 4) ∧ Bel w w' ∧ Fz w sA n ∧ Fz w bA n
set_option maxHeartbeats 8000000 in
set_option maxRecDepth 100000 in
theorem of_ok (k b g : Int) (m n : Nat) (A : Option Addr) (nc cc : Nat) (C : List Int) (hx c : Nat) (X : List Int) (hs : Sv k b g m n C) (hX : Sam X) (mc : m ≤ c) (w : World) (hz : Zi w A nc C) (hzx : Zi w (some ⟨hx, 0, none⟩) m X) :
    Calls Try.prog 13 #[Sx k b g m n A nc cc, .slice (some ⟨hx, 0, none⟩) m c] w (SomeOf n (sys k C X m n) w) := by
  obtain ⟨i0, hi0, hz0, hz1, hz2⟩ := info_parts info_int
  have HI := Lib.hid (And.intro hi0 (And.intro hz0 (And.intro hz1 hz2)))
  clear hi0 hz0 hz1 hz2
  have CO : Hid (∀ W, Bel w W → Calls Try.prog 14 #[.agg #[.int .i64 k, .int .i64 b, .int .i64 g, .int .i64 (m : Int), .int .i64 (n : Int), .slice A nc cc], .slice (some ⟨hx, 0, none⟩) m c] W (SomeCo n (cds k X m n) W)) := fun W hW => coords_ok k b g m n A nc cc C hx c X hs hX mc W (hz.bel hW) (hzx.bel hW)
  have hcl : nc = C.length := hz.1.symm
  have BS : Hid (∀ (x : Int) (W : World), Zi W A nc C → Calls Try.prog 43 #[.slice A nc cc, .int .i64 x] W (SomeBs C nc x W)) := fun x W hW => bsearch_ok A cc nc C x (by have := hs.cv.1; omega) (fun h1 h2 => cv_lt hs.cv h1 (by omega)) W hW
  have HCV := Lib.hid hs.cv
  have HZ := Lib.hid hz
  have n1 := hs.n1
  have n8 := hs.n8
  have ni : (n : Int) ≤ 8 := by omega
  have ni1 : 1 ≤ (n : Int) := by omega
  have RP : Hid (∀ (q : Nat) (W : World), W.cell? ⟨q, 0, none⟩ = some (.int .i64 4) → Calls Try.prog 42 #[.slice (some ⟨q, 0, none⟩) 1 1, .int .i64 (n : Int)] W (SomeRep 4 n W)) := fun q W hW => repeat_any q 4 n (by omega) W hW
  have HB0 : Hid (Bk ((w.alloc (.cells #[.int .i64 k, .int .i64 b, .int .i64 g, .int .i64 (m : Int), .int .i64 (n : Int), .slice A nc cc] 28)).alloc (.cells #[.slice none 0 0, .slice none 0 0] 32)) w.heap.size 28 #[.int .i64 k, .int .i64 b, .int .i64 g, .int .i64 (m : Int), .int .i64 (n : Int), .slice A nc cc]) := (Bk.nw _ _ _).al _
  have HR0 : Hid (Bk ((w.alloc (.cells #[.int .i64 k, .int .i64 b, .int .i64 g, .int .i64 (m : Int), .int .i64 (n : Int), .slice A nc cc] 28)).alloc (.cells #[.slice none 0 0, .slice none 0 0] 32)) (w.heap.size + 1) 32 #[.slice none 0 0, .slice none 0 0]) := Bk.nq _ _ _ (by simp)
  have HW0 : Hid (Bel w ((w.alloc (.cells #[.int .i64 k, .int .i64 b, .int .i64 g, .int .i64 (m : Int), .int .i64 (n : Int), .slice A nc cc] 28)).alloc (.cells #[.slice none 0 0, .slice none 0 0] 32))) := (Bel.rf.al _).al _
  obtain ⟨L, hL⟩ : ∃ L, cds k X m n = L := ⟨_, rfl⟩
  have HLL : Hid (L.length = n) := by show _ = _; rw [← hL]; exact cds_len _ _ _ _
  have HLE := Lib.hid hL
  rw [hL] at CO
  have HCL := Lib.hid hcl
  clear hs hX hz hzx hL hcl
  unfold Sx
  go_enter Try.func13, Try.ntmps13
  go_wp2_with fail
  go_at_call 14
  refine (CO.out _ (by repeat (first | exact Bel.rf | (with_reducible refine Bel.drwN ?_ _) | (with_reducible refine Bel.drw ?_) | (with_reducible refine Bel.al ?_ _)))).mono ?_
  rintro e w1 ⟨hco, rfl, hc0, hck, hb1⟩
  have HW1 : Hid (Bel w w1) := HW0.out.tr (Bel.tr (by repeat (first | exact Bel.rf | (with_reducible refine Bel.drwN ?_ _) | (with_reducible refine Bel.drw ?_) | (with_reducible refine Bel.al ?_ _))) hb1)
  have HK1 := Lib.hid ((HB0.out.bel (by repeat (first | exact Bel.rf | (with_reducible refine Bel.drwN ?_ _) | (with_reducible refine Bel.drw ?_) | (with_reducible refine Bel.al ?_ _)))).bel hb1)
  have HR1 := Lib.hid ((HR0.out.bel (by repeat (first | exact Bel.rf | (with_reducible refine Bel.drwN ?_ _) | (with_reducible refine Bel.drw ?_) | (with_reducible refine Bel.al ?_ _)))).bel hb1)
  have HC1 := Lib.hid hck
  have q4 := HK1.out.cell 4
  simp only [List.getElem?_toArray, List.getElem?_cons_zero, List.getElem?_cons_succ] at q4
  have KS : Hid (∀ W, Bel w1 W → W.cell? (⟨w.heap.size, 4, none⟩ : Addr) = some (.int .i64 (n : Int))) := fun W hW => hW.kp q4
  clear hb1 hck hc0 q4
  go_upto_region 4 with fail
  go_cut [8] (fun s8 wx => ∃ (q sA bA : Nat) (V : World), V = wx ∧ s8 = .pointer (some ⟨q, 0, none⟩) ∧ Bk wx q 32 #[.slice (some ⟨sA, 0, none⟩) n n, .slice (some ⟨bA, 0, none⟩) n n] ∧ Bk wx sA 3 (zs (List.replicate n 0)).toArray ∧ Zi wx (some ⟨bA, 0, none⟩) n (List.replicate n 4) ∧ q ≠ sA ∧ bA ≠ sA ∧ w1.heap.size ≤ sA ∧ w1.heap.size ≤ q ∧ w1.heap.size ≤ bA ∧ Bel w1 wx)
  case first =>
    refine wp_region_noPanic ?_
    refine wp_region_held_drew (S := fun W => W.cell? (⟨w.heap.size, 4, none⟩ : Addr) = some (.int .i64 (n : Int))) (by kernel_rfl) ?_ (fun hH0 => ?_)
    · (try dsimp only); exact KS.out _ (by repeat (first | exact Bel.rf | (with_reducible refine Bel.drwN ?_ _) | (with_reducible refine Bel.drw ?_) | (with_reducible refine Bel.al ?_ _) | ((with_reducible refine Bel.st2 ?_ ?_ _); (first | exact Nat.le_refl _ | exact Nat.le_add_right _ _ | (simp; done) | (simp; omega)))))
    refine wpAnyH_take (i := 0) (oi := ⟨some 23, .fieldAddr 28 (.tmp 2) 2, 0, "word.go:74", #[], none⟩) (v := ?_) rfl (by kernel_rfl) (by kernel_rfl) (by kernel_rfl) (fun _ _ _ h => h) (Or.inl ⟨by first | kernel_rfl | rfl, ?_⟩) (by assumption) ?_
    rotate_left
    · (intro w hSw; (try dsimp only at hSw); go_simp; try with_reducible rfl)
    try simp only [Act.put, List.setIfInBounds_toArray, List.set_cons_zero, List.set_cons_succ]
    refine wpAnyH_take (i := 1) (oi := ⟨some 24, .load 3 (.tmp 23), 3, "word.go:74", #[⟨0, .data⟩], none⟩) (v := ?_) rfl (by kernel_rfl) (by kernel_rfl) (by kernel_rfl) (fun _ _ _ h => h) (Or.inl ⟨by first | kernel_rfl | rfl, ?_⟩) (by assumption) ?_
    rotate_left
    · (intro w hSw; (try dsimp only at hSw); go_simp; try with_reducible rfl)
    try simp only [Act.put, List.setIfInBounds_toArray, List.set_cons_zero, List.set_cons_succ]
    refine wpAnyH_take (i := 4) (oi := ⟨some 27, .fieldAddr 28 (.tmp 2) 2, 0, "word.go:74", #[], none⟩) (v := ?_) rfl (by kernel_rfl) (by kernel_rfl) (by kernel_rfl) (fun _ _ _ h => h) (Or.inl ⟨by first | kernel_rfl | rfl, ?_⟩) (by assumption) ?_
    rotate_left
    · (intro w hSw; (try dsimp only at hSw); go_simp; try with_reducible rfl)
    try simp only [Act.put, List.setIfInBounds_toArray, List.set_cons_zero, List.set_cons_succ]
    refine wpAnyH_take (i := 5) (oi := ⟨some 28, .load 3 (.tmp 27), 3, "word.go:74", #[⟨4, .data⟩], none⟩) (v := ?_) rfl (by kernel_rfl) (by kernel_rfl) (by kernel_rfl) (fun _ _ _ h => h) (Or.inl ⟨by first | kernel_rfl | rfl, ?_⟩) (by assumption) ?_
    rotate_left
    · (intro w hSw; (try dsimp only at hSw); go_simp; try with_reducible rfl)
    try simp only [Act.put, List.setIfInBounds_toArray, List.set_cons_zero, List.set_cons_succ]
    refine wpAnyH_ready (rs := [2, 3, 8]) (by kernel_rfl) (by simp) ?_
    refine AllReadyH.cons (o := ⟨some 25, .makeSlice 22 (.tmp 24) (.tmp 24), 22, "word.go:74", #[⟨1, .data⟩, ⟨1, .data⟩], none⟩) rfl (fun K hK => ?_) (AllReadyH.cons (o := ⟨some 26, .buildSlice 22 1 #[(0, .const (.int IntKind.i64 4))], 22, "word.go:74", #[], none⟩) rfl (fun K hK => ?_) (AllReadyH.cons (o := ⟨some 8, .alloc 32, 0, "word.go:74", #[], none⟩) rfl (fun K hK => ?_) (AllReadyH.nil)))
    · refine step_make _ rfl (.tmp 24) (.tmp 24) 22 rfl 3 i0 (.int .i64 0) 1 Try.underlying22 HI.out.1 HI.out.2.1 HI.out.2.2.1 .i64 .i64 _ _ n n rfl rfl rfl rfl (by omega) (by rw [HI.out.2.2.2]; omega) (by omega) ?_; rw [made_i64]
      try go_wp2_with fail
      refine hK.out _ _ ?_ (fun hH1 => ?_)
      · (try dsimp only); exact KS.out _ (by repeat (first | exact Bel.rf | (with_reducible refine Bel.drwN ?_ _) | (with_reducible refine Bel.drw ?_) | (with_reducible refine Bel.al ?_ _) | ((with_reducible refine Bel.st2 ?_ ?_ _); (first | exact Nat.le_refl _ | exact Nat.le_add_right _ _ | (simp; done) | (simp; omega)))))
      clear hK K hH0
      try simp only [Act.put, List.setIfInBounds_toArray, List.set_cons_zero, List.set_cons_succ]
      refine wpAnyH_ready (rs := [3, 8]) (by kernel_rfl) (by simp) ?_
      refine AllReadyH.cons (o := ⟨some 26, .buildSlice 22 1 #[(0, .const (.int IntKind.i64 4))], 22, "word.go:74", #[], none⟩) rfl (fun K hK => ?_) (AllReadyH.cons (o := ⟨some 8, .alloc 32, 0, "word.go:74", #[], none⟩) rfl (fun K hK => ?_) (AllReadyH.nil))
      · go_simp
        try go_wp2_with fail
        refine hK.out _ _ ?_ (fun hH2 => ?_)
        · (try dsimp only); exact KS.out _ (by repeat (first | exact Bel.rf | (with_reducible refine Bel.drwN ?_ _) | (with_reducible refine Bel.drw ?_) | (with_reducible refine Bel.al ?_ _) | ((with_reducible refine Bel.st2 ?_ ?_ _); (first | exact Nat.le_refl _ | exact Nat.le_add_right _ _ | (simp; done) | (simp; omega)))))
        clear hK K hH1
        try simp only [Act.put, List.setIfInBounds_toArray, List.set_cons_zero, List.set_cons_succ]
        refine wpAnyH_ready (rs := [6, 8]) (by kernel_rfl) (by simp) ?_
        refine AllReadyH.cons (o := ⟨some 29, .call { callee := Callee.value (.func 42), args := #[.tmp 26, .tmp 28], argTypes := #[22, 3] }, 22, "word.go:74", #[⟨3, .data⟩, ⟨5, .data⟩], none⟩) rfl (fun K hK => ?_) (AllReadyH.cons (o := ⟨some 8, .alloc 32, 0, "word.go:74", #[], none⟩) rfl (fun K hK => ?_) (AllReadyH.nil))
        · go_simp
          go_at_call 42; refine (RP.out (w1.heap.size + 1) _ (((by repeat (first | (refine Bk.nq _ _ _ ?_; simp; done) | (with_reducible refine Bk.drwN ?_ _) | (with_reducible refine Bk.drw ?_) | (with_reducible refine Bk.al ?_ _))) : Bk _ (w1.heap.size + 1) 3 #[.int .i64 4]).cell 0)).mono ?_; rintro e x2 ⟨bA, rfl, hba, hbz, hb2⟩; have HS2 : Bk x2 w1.heap.size 3 (zs (List.replicate n 0)).toArray := ((by repeat (first | (refine Bk.nq _ _ _ ?_; simp; done) | (with_reducible refine Bk.drwN ?_ _) | (with_reducible refine Bk.drw ?_) | (with_reducible refine Bk.al ?_ _))) : Bk _ w1.heap.size 3 (zs (List.replicate n 0)).toArray).bel hb2
          try go_wp2_with fail
          refine hK.out _ _ ?_ (fun hH3 => ?_)
          · (try dsimp only); exact KS.out _ (by repeat (first | exact Bel.rf | (with_reducible refine Bel.drwN ?_ _) | (with_reducible refine Bel.drw ?_) | (with_reducible refine Bel.al ?_ _) | ((with_reducible refine Bel.st2 ?_ ?_ _); (first | exact Nat.le_refl _ | exact Nat.le_add_right _ _ | (simp; done) | (simp; omega) | (have := hb2.size; simp at *; omega))) | (refine Bel.tr ?_ hb2)))
          clear hK K hH2
          try simp only [Act.put, List.setIfInBounds_toArray, List.set_cons_zero, List.set_cons_succ]
          refine wpAnyH_take (i := 7) (oi := ⟨some 30, .build 32 #[(0, .tmp 25), (1, .tmp 29)], 32, "word.go:74", #[⟨2, .data⟩, ⟨6, .data⟩], none⟩) (v := ?_) rfl (by kernel_rfl) (by kernel_rfl) (by kernel_rfl) (fun _ _ _ h => h) (Or.inl ⟨by first | kernel_rfl | rfl, ?_⟩) (by assumption) ?_
          rotate_left
          · (intro w hSw; (try dsimp only at hSw); go_simp; try with_reducible rfl)
          try simp only [Act.put, List.setIfInBounds_toArray, List.set_cons_zero, List.set_cons_succ]
          refine wpAnyH_ready (rs := [8]) (by kernel_rfl) (by simp) ?_
          refine AllReadyH.cons (o := ⟨some 8, .alloc 32, 0, "word.go:74", #[], none⟩) rfl (fun K hK => ?_) (AllReadyH.nil)
          · go_simp
            try go_wp2_with fail
            refine hK.out _ _ ?_ (fun hH4 => ?_)
            · (try dsimp only); exact KS.out _ (by repeat (first | exact Bel.rf | (with_reducible refine Bel.drwN ?_ _) | (with_reducible refine Bel.drw ?_) | (with_reducible refine Bel.al ?_ _) | ((with_reducible refine Bel.st2 ?_ ?_ _); (first | exact Nat.le_refl _ | exact Nat.le_add_right _ _ | (simp; done) | (simp; omega) | (have := hb2.size; simp at *; omega))) | (refine Bel.tr ?_ hb2)))
            clear hK K hH3
            try simp only [Act.put, List.setIfInBounds_toArray, List.set_cons_zero, List.set_cons_succ]
            refine wpAnyH_ready (rs := [9]) (by kernel_rfl) (by simp) ?_
            refine AllReadyH.cons (o := ⟨none, .store 32 (.tmp 8) (.tmp 30), 0, "word.go:74", #[⟨8, .data⟩, ⟨7, .data⟩, ⟨6, .chain⟩, ⟨0, .phase⟩, ⟨1, .phase⟩, ⟨2, .phase⟩, ⟨3, .phase⟩, ⟨4, .phase⟩, ⟨5, .phase⟩, ⟨6, .phase⟩, ⟨7, .phase⟩, ⟨8, .phase⟩], none⟩) rfl (fun K hK => ?_) (AllReadyH.nil)
            · go_simp
              try go_wp2_with fail
              refine hK.out _ _ ?_ (fun hH5 => ?_)
              · (try dsimp only); exact KS.out _ (by repeat (first | exact Bel.rf | (with_reducible refine Bel.drwN ?_ _) | (with_reducible refine Bel.drw ?_) | (with_reducible refine Bel.al ?_ _) | ((with_reducible refine Bel.st2 ?_ ?_ _); (first | exact Nat.le_refl _ | exact Nat.le_add_right _ _ | (simp; done) | (simp; omega) | (have := hb2.size; simp at *; omega))) | (refine Bel.tr ?_ hb2)))
              clear hK K hH4
              try simp only [Act.put, List.setIfInBounds_toArray, List.set_cons_zero, List.set_cons_succ]
              refine wpAnyH_done (by kernel_rfl) ?_ _
              refine NoPanic.normal ?_
              go_wp2_with fail
              go_meet
              have S2 := hb2.size
              (try simp only [World.size_alloc, World.size_drew] at S2 hba)
              obtain ⟨_, e9, hlb, _⟩ := hbz.2 (by omega)
              cases e9
              have hlb2 : bA < x2.heap.size := hlb
              exact ⟨x2.heap.size, w1.heap.size, bA, _, rfl, rfl, (by repeat (first | (refine Bk.nq _ _ _ ?_; simp; done) | (with_reducible refine Bk.drwN ?_ _) | (with_reducible refine Bk.drw ?_) | (with_reducible refine Bk.al ?_ _))), HS2.al _, hbz.bel (by repeat (first | exact Bel.rf | (with_reducible refine Bel.drwN ?_ _) | (with_reducible refine Bel.drw ?_) | (with_reducible refine Bel.al ?_ _) | ((with_reducible refine Bel.st2 ?_ ?_ _); (first | exact Nat.le_refl _ | exact Nat.le_add_right _ _ | (simp; done) | (simp; omega) | (have := hb2.size; simp at *; omega))))), by omega, by omega, by omega, by omega, by omega, (by repeat (first | exact Bel.rf | (with_reducible refine Bel.drwN ?_ _) | (with_reducible refine Bel.drw ?_) | (with_reducible refine Bel.al ?_ _) | ((with_reducible refine Bel.st2 ?_ ?_ _); (first | exact Nat.le_refl _ | exact Nat.le_add_right _ _ | (simp; done) | (simp; omega) | (have := hb2.size; simp at *; omega))) | (refine Bel.tr ?_ hb2)))⟩
        · go_simp
          try go_wp2_with fail
          refine hK.out _ _ ?_ (fun hH3 => ?_)
          · (try dsimp only); exact KS.out _ (by repeat (first | exact Bel.rf | (with_reducible refine Bel.drwN ?_ _) | (with_reducible refine Bel.drw ?_) | (with_reducible refine Bel.al ?_ _) | ((with_reducible refine Bel.st2 ?_ ?_ _); (first | exact Nat.le_refl _ | exact Nat.le_add_right _ _ | (simp; done) | (simp; omega)))))
          clear hK K hH2
          try simp only [Act.put, List.setIfInBounds_toArray, List.set_cons_zero, List.set_cons_succ]
          refine wpAnyH_ready (rs := [6]) (by kernel_rfl) (by simp) ?_
          refine AllReadyH.cons (o := ⟨some 29, .call { callee := Callee.value (.func 42), args := #[.tmp 26, .tmp 28], argTypes := #[22, 3] }, 22, "word.go:74", #[⟨3, .data⟩, ⟨5, .data⟩], none⟩) rfl (fun K hK => ?_) (AllReadyH.nil)
          · go_simp
            go_at_call 42; refine (RP.out (w1.heap.size + 1) _ (((by repeat (first | (refine Bk.nq _ _ _ ?_; simp; done) | (with_reducible refine Bk.drwN ?_ _) | (with_reducible refine Bk.drw ?_) | (with_reducible refine Bk.al ?_ _))) : Bk _ (w1.heap.size + 1) 3 #[.int .i64 4]).cell 0)).mono ?_; rintro e x2 ⟨bA, rfl, hba, hbz, hb2⟩; have HQ2 : Bk x2 (w1.heap.size + 1 + 1) 32 #[.slice none 0 0, .slice none 0 0] := ((by repeat (first | (refine Bk.nq _ _ _ ?_; simp; done) | (with_reducible refine Bk.drwN ?_ _) | (with_reducible refine Bk.drw ?_) | (with_reducible refine Bk.al ?_ _))) : Bk _ (w1.heap.size + 1 + 1) 32 #[.slice none 0 0, .slice none 0 0]).bel hb2; have y0 := HQ2.cell 0; have y1 := HQ2.cell 1; have z0 := HQ2.fr 0; have z1 := HQ2.fr 1; simp only [List.getElem?_toArray, List.getElem?_cons_zero, List.getElem?_cons_succ] at y0 y1; have zb0 : ∀ o, (x2.alloc o).frozen? (⟨(w1.heap.size + 1 + 1), 0, none⟩ : Addr) = false := fun o => (HQ2.al o).fr 0; have zb1 : ∀ o, (x2.alloc o).frozen? (⟨(w1.heap.size + 1 + 1), 1, none⟩ : Addr) = false := fun o => (HQ2.al o).fr 1; have yb0 : ∀ o, (x2.alloc o).cell? (⟨(w1.heap.size + 1 + 1), 0, none⟩ : Addr) = some (.slice none 0 0) := fun o => (HQ2.al o).cell 0; have yb1 : ∀ o, (x2.alloc o).cell? (⟨(w1.heap.size + 1 + 1), 1, none⟩ : Addr) = some (.slice none 0 0) := fun o => (HQ2.al o).cell 1; have HS2 : Bk x2 w1.heap.size 3 (zs (List.replicate n 0)).toArray := ((by repeat (first | (refine Bk.nq _ _ _ ?_; simp; done) | (with_reducible refine Bk.drwN ?_ _) | (with_reducible refine Bk.drw ?_) | (with_reducible refine Bk.al ?_ _))) : Bk _ w1.heap.size 3 (zs (List.replicate n 0)).toArray).bel hb2
            try go_wp2_with fail
            refine hK.out _ _ ?_ (fun hH4 => ?_)
            · (try dsimp only); exact KS.out _ (by repeat (first | exact Bel.rf | (with_reducible refine Bel.drwN ?_ _) | (with_reducible refine Bel.drw ?_) | (with_reducible refine Bel.al ?_ _) | ((with_reducible refine Bel.st2 ?_ ?_ _); (first | exact Nat.le_refl _ | exact Nat.le_add_right _ _ | (simp; done) | (simp; omega) | (have := hb2.size; simp at *; omega))) | (refine Bel.tr ?_ hb2)))
            clear hK K hH3
            try simp only [Act.put, List.setIfInBounds_toArray, List.set_cons_zero, List.set_cons_succ]
            refine wpAnyH_take (i := 7) (oi := ⟨some 30, .build 32 #[(0, .tmp 25), (1, .tmp 29)], 32, "word.go:74", #[⟨2, .data⟩, ⟨6, .data⟩], none⟩) (v := ?_) rfl (by kernel_rfl) (by kernel_rfl) (by kernel_rfl) (fun _ _ _ h => h) (Or.inl ⟨by first | kernel_rfl | rfl, ?_⟩) (by assumption) ?_
            rotate_left
            · (intro w hSw; (try dsimp only at hSw); go_simp; try with_reducible rfl)
            try simp only [Act.put, List.setIfInBounds_toArray, List.set_cons_zero, List.set_cons_succ]
            refine wpAnyH_ready (rs := [9]) (by kernel_rfl) (by simp) ?_
            refine AllReadyH.cons (o := ⟨none, .store 32 (.tmp 8) (.tmp 30), 0, "word.go:74", #[⟨8, .data⟩, ⟨7, .data⟩, ⟨6, .chain⟩, ⟨0, .phase⟩, ⟨1, .phase⟩, ⟨2, .phase⟩, ⟨3, .phase⟩, ⟨4, .phase⟩, ⟨5, .phase⟩, ⟨6, .phase⟩, ⟨7, .phase⟩, ⟨8, .phase⟩], none⟩) rfl (fun K hK => ?_) (AllReadyH.nil)
            · go_simp
              try go_wp2_with fail
              refine hK.out _ _ ?_ (fun hH5 => ?_)
              · (try dsimp only); exact KS.out _ (by repeat (first | exact Bel.rf | (with_reducible refine Bel.drwN ?_ _) | (with_reducible refine Bel.drw ?_) | (with_reducible refine Bel.al ?_ _) | ((with_reducible refine Bel.st2 ?_ ?_ _); (first | exact Nat.le_refl _ | exact Nat.le_add_right _ _ | (simp; done) | (simp; omega) | (have := hb2.size; simp at *; omega))) | (refine Bel.tr ?_ hb2)))
              clear hK K hH4
              try simp only [Act.put, List.setIfInBounds_toArray, List.set_cons_zero, List.set_cons_succ]
              refine wpAnyH_done (by kernel_rfl) ?_ _
              refine NoPanic.normal ?_
              go_wp2_with fail
              go_meet
              have S2 := hb2.size
              (try simp only [World.size_alloc, World.size_drew] at S2 hba)
              obtain ⟨_, e9, hlb, _⟩ := hbz.2 (by omega)
              cases e9
              have hlb2 : bA < x2.heap.size := hlb
              exact ⟨w1.heap.size + 1 + 1, w1.heap.size, bA, _, rfl, rfl, ((HQ2).st 0 _).st 1 _, (HS2.far (by show w1.heap.size ≠ (w1.heap.size + 1 + 1); omega) _).far (by show w1.heap.size ≠ (w1.heap.size + 1 + 1); omega) _, (hbz.bel Bel.rf).ch (((Ch.rf (g := (w1.heap.size + 1 + 1))).st 0 _).st 1 _) (fun ad e => by cases e; show bA ≠ (w1.heap.size + 1 + 1); omega), by omega, by omega, by omega, by omega, by omega, (by repeat (first | exact Bel.rf | (with_reducible refine Bel.drwN ?_ _) | (with_reducible refine Bel.drw ?_) | (with_reducible refine Bel.al ?_ _) | ((with_reducible refine Bel.st2 ?_ ?_ _); (first | exact Nat.le_refl _ | exact Nat.le_add_right _ _ | (simp; done) | (simp; omega) | (have := hb2.size; simp at *; omega))) | (refine Bel.tr ?_ hb2)))⟩
      · go_simp
        try go_wp2_with fail
        refine hK.out _ _ ?_ (fun hH2 => ?_)
        · (try dsimp only); exact KS.out _ (by repeat (first | exact Bel.rf | (with_reducible refine Bel.drwN ?_ _) | (with_reducible refine Bel.drw ?_) | (with_reducible refine Bel.al ?_ _) | ((with_reducible refine Bel.st2 ?_ ?_ _); (first | exact Nat.le_refl _ | exact Nat.le_add_right _ _ | (simp; done) | (simp; omega)))))
        clear hK K hH1
        try simp only [Act.put, List.setIfInBounds_toArray, List.set_cons_zero, List.set_cons_succ]
        refine wpAnyH_ready (rs := [3]) (by kernel_rfl) (by simp) ?_
        refine AllReadyH.cons (o := ⟨some 26, .buildSlice 22 1 #[(0, .const (.int IntKind.i64 4))], 22, "word.go:74", #[], none⟩) rfl (fun K hK => ?_) (AllReadyH.nil)
        · go_simp
          try go_wp2_with fail
          refine hK.out _ _ ?_ (fun hH3 => ?_)
          · (try dsimp only); exact KS.out _ (by repeat (first | exact Bel.rf | (with_reducible refine Bel.drwN ?_ _) | (with_reducible refine Bel.drw ?_) | (with_reducible refine Bel.al ?_ _) | ((with_reducible refine Bel.st2 ?_ ?_ _); (first | exact Nat.le_refl _ | exact Nat.le_add_right _ _ | (simp; done) | (simp; omega)))))
          clear hK K hH2
          try simp only [Act.put, List.setIfInBounds_toArray, List.set_cons_zero, List.set_cons_succ]
          refine wpAnyH_ready (rs := [6]) (by kernel_rfl) (by simp) ?_
          refine AllReadyH.cons (o := ⟨some 29, .call { callee := Callee.value (.func 42), args := #[.tmp 26, .tmp 28], argTypes := #[22, 3] }, 22, "word.go:74", #[⟨3, .data⟩, ⟨5, .data⟩], none⟩) rfl (fun K hK => ?_) (AllReadyH.nil)
          · go_simp
            go_at_call 42; refine (RP.out (w1.heap.size + 1 + 1) _ (((by repeat (first | (refine Bk.nq _ _ _ ?_; simp; done) | (with_reducible refine Bk.drwN ?_ _) | (with_reducible refine Bk.drw ?_) | (with_reducible refine Bk.al ?_ _))) : Bk _ (w1.heap.size + 1 + 1) 3 #[.int .i64 4]).cell 0)).mono ?_; rintro e x2 ⟨bA, rfl, hba, hbz, hb2⟩; have HQ2 : Bk x2 (w1.heap.size + 1) 32 #[.slice none 0 0, .slice none 0 0] := ((by repeat (first | (refine Bk.nq _ _ _ ?_; simp; done) | (with_reducible refine Bk.drwN ?_ _) | (with_reducible refine Bk.drw ?_) | (with_reducible refine Bk.al ?_ _))) : Bk _ (w1.heap.size + 1) 32 #[.slice none 0 0, .slice none 0 0]).bel hb2; have y0 := HQ2.cell 0; have y1 := HQ2.cell 1; have z0 := HQ2.fr 0; have z1 := HQ2.fr 1; simp only [List.getElem?_toArray, List.getElem?_cons_zero, List.getElem?_cons_succ] at y0 y1; have zb0 : ∀ o, (x2.alloc o).frozen? (⟨(w1.heap.size + 1), 0, none⟩ : Addr) = false := fun o => (HQ2.al o).fr 0; have zb1 : ∀ o, (x2.alloc o).frozen? (⟨(w1.heap.size + 1), 1, none⟩ : Addr) = false := fun o => (HQ2.al o).fr 1; have yb0 : ∀ o, (x2.alloc o).cell? (⟨(w1.heap.size + 1), 0, none⟩ : Addr) = some (.slice none 0 0) := fun o => (HQ2.al o).cell 0; have yb1 : ∀ o, (x2.alloc o).cell? (⟨(w1.heap.size + 1), 1, none⟩ : Addr) = some (.slice none 0 0) := fun o => (HQ2.al o).cell 1; have HS2 : Bk x2 w1.heap.size 3 (zs (List.replicate n 0)).toArray := ((by repeat (first | (refine Bk.nq _ _ _ ?_; simp; done) | (with_reducible refine Bk.drwN ?_ _) | (with_reducible refine Bk.drw ?_) | (with_reducible refine Bk.al ?_ _))) : Bk _ w1.heap.size 3 (zs (List.replicate n 0)).toArray).bel hb2
            try go_wp2_with fail
            refine hK.out _ _ ?_ (fun hH4 => ?_)
            · (try dsimp only); exact KS.out _ (by repeat (first | exact Bel.rf | (with_reducible refine Bel.drwN ?_ _) | (with_reducible refine Bel.drw ?_) | (with_reducible refine Bel.al ?_ _) | ((with_reducible refine Bel.st2 ?_ ?_ _); (first | exact Nat.le_refl _ | exact Nat.le_add_right _ _ | (simp; done) | (simp; omega) | (have := hb2.size; simp at *; omega))) | (refine Bel.tr ?_ hb2)))
            clear hK K hH3
            try simp only [Act.put, List.setIfInBounds_toArray, List.set_cons_zero, List.set_cons_succ]
            refine wpAnyH_take (i := 7) (oi := ⟨some 30, .build 32 #[(0, .tmp 25), (1, .tmp 29)], 32, "word.go:74", #[⟨2, .data⟩, ⟨6, .data⟩], none⟩) (v := ?_) rfl (by kernel_rfl) (by kernel_rfl) (by kernel_rfl) (fun _ _ _ h => h) (Or.inl ⟨by first | kernel_rfl | rfl, ?_⟩) (by assumption) ?_
            rotate_left
            · (intro w hSw; (try dsimp only at hSw); go_simp; try with_reducible rfl)
            try simp only [Act.put, List.setIfInBounds_toArray, List.set_cons_zero, List.set_cons_succ]
            refine wpAnyH_ready (rs := [9]) (by kernel_rfl) (by simp) ?_
            refine AllReadyH.cons (o := ⟨none, .store 32 (.tmp 8) (.tmp 30), 0, "word.go:74", #[⟨8, .data⟩, ⟨7, .data⟩, ⟨6, .chain⟩, ⟨0, .phase⟩, ⟨1, .phase⟩, ⟨2, .phase⟩, ⟨3, .phase⟩, ⟨4, .phase⟩, ⟨5, .phase⟩, ⟨6, .phase⟩, ⟨7, .phase⟩, ⟨8, .phase⟩], none⟩) rfl (fun K hK => ?_) (AllReadyH.nil)
            · go_simp
              try go_wp2_with fail
              refine hK.out _ _ ?_ (fun hH5 => ?_)
              · (try dsimp only); exact KS.out _ (by repeat (first | exact Bel.rf | (with_reducible refine Bel.drwN ?_ _) | (with_reducible refine Bel.drw ?_) | (with_reducible refine Bel.al ?_ _) | ((with_reducible refine Bel.st2 ?_ ?_ _); (first | exact Nat.le_refl _ | exact Nat.le_add_right _ _ | (simp; done) | (simp; omega) | (have := hb2.size; simp at *; omega))) | (refine Bel.tr ?_ hb2)))
              clear hK K hH4
              try simp only [Act.put, List.setIfInBounds_toArray, List.set_cons_zero, List.set_cons_succ]
              refine wpAnyH_done (by kernel_rfl) ?_ _
              refine NoPanic.normal ?_
              go_wp2_with fail
              go_meet
              have S2 := hb2.size
              (try simp only [World.size_alloc, World.size_drew] at S2 hba)
              obtain ⟨_, e9, hlb, _⟩ := hbz.2 (by omega)
              cases e9
              have hlb2 : bA < x2.heap.size := hlb
              exact ⟨w1.heap.size + 1, w1.heap.size, bA, _, rfl, rfl, ((HQ2).st 0 _).st 1 _, (HS2.far (by show w1.heap.size ≠ (w1.heap.size + 1); omega) _).far (by show w1.heap.size ≠ (w1.heap.size + 1); omega) _, (hbz.bel Bel.rf).ch (((Ch.rf (g := (w1.heap.size + 1))).st 0 _).st 1 _) (fun ad e => by cases e; show bA ≠ (w1.heap.size + 1); omega), by omega, by omega, by omega, by omega, by omega, (by repeat (first | exact Bel.rf | (with_reducible refine Bel.drwN ?_ _) | (with_reducible refine Bel.drw ?_) | (with_reducible refine Bel.al ?_ _) | ((with_reducible refine Bel.st2 ?_ ?_ _); (first | exact Nat.le_refl _ | exact Nat.le_add_right _ _ | (simp; done) | (simp; omega) | (have := hb2.size; simp at *; omega))) | (refine Bel.tr ?_ hb2)))⟩
    · go_simp
      try go_wp2_with fail
      refine hK.out _ _ ?_ (fun hH1 => ?_)
      · (try dsimp only); exact KS.out _ (by repeat (first | exact Bel.rf | (with_reducible refine Bel.drwN ?_ _) | (with_reducible refine Bel.drw ?_) | (with_reducible refine Bel.al ?_ _) | ((with_reducible refine Bel.st2 ?_ ?_ _); (first | exact Nat.le_refl _ | exact Nat.le_add_right _ _ | (simp; done) | (simp; omega)))))
      clear hK K hH0
      try simp only [Act.put, List.setIfInBounds_toArray, List.set_cons_zero, List.set_cons_succ]
      refine wpAnyH_ready (rs := [2, 6, 8]) (by kernel_rfl) (by simp) ?_
      refine AllReadyH.cons (o := ⟨some 25, .makeSlice 22 (.tmp 24) (.tmp 24), 22, "word.go:74", #[⟨1, .data⟩, ⟨1, .data⟩], none⟩) rfl (fun K hK => ?_) (AllReadyH.cons (o := ⟨some 29, .call { callee := Callee.value (.func 42), args := #[.tmp 26, .tmp 28], argTypes := #[22, 3] }, 22, "word.go:74", #[⟨3, .data⟩, ⟨5, .data⟩], none⟩) rfl (fun K hK => ?_) (AllReadyH.cons (o := ⟨some 8, .alloc 32, 0, "word.go:74", #[], none⟩) rfl (fun K hK => ?_) (AllReadyH.nil)))
      · refine step_make _ rfl (.tmp 24) (.tmp 24) 22 rfl 3 i0 (.int .i64 0) 1 Try.underlying22 HI.out.1 HI.out.2.1 HI.out.2.2.1 .i64 .i64 _ _ n n rfl rfl rfl rfl (by omega) (by rw [HI.out.2.2.2]; omega) (by omega) ?_; rw [made_i64]
        try go_wp2_with fail
        refine hK.out _ _ ?_ (fun hH2 => ?_)
        · (try dsimp only); exact KS.out _ (by repeat (first | exact Bel.rf | (with_reducible refine Bel.drwN ?_ _) | (with_reducible refine Bel.drw ?_) | (with_reducible refine Bel.al ?_ _) | ((with_reducible refine Bel.st2 ?_ ?_ _); (first | exact Nat.le_refl _ | exact Nat.le_add_right _ _ | (simp; done) | (simp; omega)))))
        clear hK K hH1
        try simp only [Act.put, List.setIfInBounds_toArray, List.set_cons_zero, List.set_cons_succ]
        refine wpAnyH_ready (rs := [6, 8]) (by kernel_rfl) (by simp) ?_
        refine AllReadyH.cons (o := ⟨some 29, .call { callee := Callee.value (.func 42), args := #[.tmp 26, .tmp 28], argTypes := #[22, 3] }, 22, "word.go:74", #[⟨3, .data⟩, ⟨5, .data⟩], none⟩) rfl (fun K hK => ?_) (AllReadyH.cons (o := ⟨some 8, .alloc 32, 0, "word.go:74", #[], none⟩) rfl (fun K hK => ?_) (AllReadyH.nil))
        · go_simp
          go_at_call 42; refine (RP.out w1.heap.size _ (((by repeat (first | (refine Bk.nq _ _ _ ?_; simp; done) | (with_reducible refine Bk.drwN ?_ _) | (with_reducible refine Bk.drw ?_) | (with_reducible refine Bk.al ?_ _))) : Bk _ w1.heap.size 3 #[.int .i64 4]).cell 0)).mono ?_; rintro e x2 ⟨bA, rfl, hba, hbz, hb2⟩; have HS2 : Bk x2 (w1.heap.size + 1) 3 (zs (List.replicate n 0)).toArray := ((by repeat (first | (refine Bk.nq _ _ _ ?_; simp; done) | (with_reducible refine Bk.drwN ?_ _) | (with_reducible refine Bk.drw ?_) | (with_reducible refine Bk.al ?_ _))) : Bk _ (w1.heap.size + 1) 3 (zs (List.replicate n 0)).toArray).bel hb2
          try go_wp2_with fail
          refine hK.out _ _ ?_ (fun hH3 => ?_)
          · (try dsimp only); exact KS.out _ (by repeat (first | exact Bel.rf | (with_reducible refine Bel.drwN ?_ _) | (with_reducible refine Bel.drw ?_) | (with_reducible refine Bel.al ?_ _) | ((with_reducible refine Bel.st2 ?_ ?_ _); (first | exact Nat.le_refl _ | exact Nat.le_add_right _ _ | (simp; done) | (simp; omega) | (have := hb2.size; simp at *; omega))) | (refine Bel.tr ?_ hb2)))
          clear hK K hH2
          try simp only [Act.put, List.setIfInBounds_toArray, List.set_cons_zero, List.set_cons_succ]
          refine wpAnyH_take (i := 7) (oi := ⟨some 30, .build 32 #[(0, .tmp 25), (1, .tmp 29)], 32, "word.go:74", #[⟨2, .data⟩, ⟨6, .data⟩], none⟩) (v := ?_) rfl (by kernel_rfl) (by kernel_rfl) (by kernel_rfl) (fun _ _ _ h => h) (Or.inl ⟨by first | kernel_rfl | rfl, ?_⟩) (by assumption) ?_
          rotate_left
          · (intro w hSw; (try dsimp only at hSw); go_simp; try with_reducible rfl)
          try simp only [Act.put, List.setIfInBounds_toArray, List.set_cons_zero, List.set_cons_succ]
          refine wpAnyH_ready (rs := [8]) (by kernel_rfl) (by simp) ?_
          refine AllReadyH.cons (o := ⟨some 8, .alloc 32, 0, "word.go:74", #[], none⟩) rfl (fun K hK => ?_) (AllReadyH.nil)
          · go_simp
            try go_wp2_with fail
            refine hK.out _ _ ?_ (fun hH4 => ?_)
            · (try dsimp only); exact KS.out _ (by repeat (first | exact Bel.rf | (with_reducible refine Bel.drwN ?_ _) | (with_reducible refine Bel.drw ?_) | (with_reducible refine Bel.al ?_ _) | ((with_reducible refine Bel.st2 ?_ ?_ _); (first | exact Nat.le_refl _ | exact Nat.le_add_right _ _ | (simp; done) | (simp; omega) | (have := hb2.size; simp at *; omega))) | (refine Bel.tr ?_ hb2)))
            clear hK K hH3
            try simp only [Act.put, List.setIfInBounds_toArray, List.set_cons_zero, List.set_cons_succ]
            refine wpAnyH_ready (rs := [9]) (by kernel_rfl) (by simp) ?_
            refine AllReadyH.cons (o := ⟨none, .store 32 (.tmp 8) (.tmp 30), 0, "word.go:74", #[⟨8, .data⟩, ⟨7, .data⟩, ⟨6, .chain⟩, ⟨0, .phase⟩, ⟨1, .phase⟩, ⟨2, .phase⟩, ⟨3, .phase⟩, ⟨4, .phase⟩, ⟨5, .phase⟩, ⟨6, .phase⟩, ⟨7, .phase⟩, ⟨8, .phase⟩], none⟩) rfl (fun K hK => ?_) (AllReadyH.nil)
            · go_simp
              try go_wp2_with fail
              refine hK.out _ _ ?_ (fun hH5 => ?_)
              · (try dsimp only); exact KS.out _ (by repeat (first | exact Bel.rf | (with_reducible refine Bel.drwN ?_ _) | (with_reducible refine Bel.drw ?_) | (with_reducible refine Bel.al ?_ _) | ((with_reducible refine Bel.st2 ?_ ?_ _); (first | exact Nat.le_refl _ | exact Nat.le_add_right _ _ | (simp; done) | (simp; omega) | (have := hb2.size; simp at *; omega))) | (refine Bel.tr ?_ hb2)))
              clear hK K hH4
              try simp only [Act.put, List.setIfInBounds_toArray, List.set_cons_zero, List.set_cons_succ]
              refine wpAnyH_done (by kernel_rfl) ?_ _
              refine NoPanic.normal ?_
              go_wp2_with fail
              go_meet
              have S2 := hb2.size
              (try simp only [World.size_alloc, World.size_drew] at S2 hba)
              obtain ⟨_, e9, hlb, _⟩ := hbz.2 (by omega)
              cases e9
              have hlb2 : bA < x2.heap.size := hlb
              exact ⟨x2.heap.size, w1.heap.size + 1, bA, _, rfl, rfl, (by repeat (first | (refine Bk.nq _ _ _ ?_; simp; done) | (with_reducible refine Bk.drwN ?_ _) | (with_reducible refine Bk.drw ?_) | (with_reducible refine Bk.al ?_ _))), HS2.al _, hbz.bel (by repeat (first | exact Bel.rf | (with_reducible refine Bel.drwN ?_ _) | (with_reducible refine Bel.drw ?_) | (with_reducible refine Bel.al ?_ _) | ((with_reducible refine Bel.st2 ?_ ?_ _); (first | exact Nat.le_refl _ | exact Nat.le_add_right _ _ | (simp; done) | (simp; omega) | (have := hb2.size; simp at *; omega))))), by omega, by omega, by omega, by omega, by omega, (by repeat (first | exact Bel.rf | (with_reducible refine Bel.drwN ?_ _) | (with_reducible refine Bel.drw ?_) | (with_reducible refine Bel.al ?_ _) | ((with_reducible refine Bel.st2 ?_ ?_ _); (first | exact Nat.le_refl _ | exact Nat.le_add_right _ _ | (simp; done) | (simp; omega) | (have := hb2.size; simp at *; omega))) | (refine Bel.tr ?_ hb2)))⟩
        · go_simp
          try go_wp2_with fail
          refine hK.out _ _ ?_ (fun hH3 => ?_)
          · (try dsimp only); exact KS.out _ (by repeat (first | exact Bel.rf | (with_reducible refine Bel.drwN ?_ _) | (with_reducible refine Bel.drw ?_) | (with_reducible refine Bel.al ?_ _) | ((with_reducible refine Bel.st2 ?_ ?_ _); (first | exact Nat.le_refl _ | exact Nat.le_add_right _ _ | (simp; done) | (simp; omega)))))
          clear hK K hH2
          try simp only [Act.put, List.setIfInBounds_toArray, List.set_cons_zero, List.set_cons_succ]
          refine wpAnyH_ready (rs := [6]) (by kernel_rfl) (by simp) ?_
          refine AllReadyH.cons (o := ⟨some 29, .call { callee := Callee.value (.func 42), args := #[.tmp 26, .tmp 28], argTypes := #[22, 3] }, 22, "word.go:74", #[⟨3, .data⟩, ⟨5, .data⟩], none⟩) rfl (fun K hK => ?_) (AllReadyH.nil)
          · go_simp
            go_at_call 42; refine (RP.out w1.heap.size _ (((by repeat (first | (refine Bk.nq _ _ _ ?_; simp; done) | (with_reducible refine Bk.drwN ?_ _) | (with_reducible refine Bk.drw ?_) | (with_reducible refine Bk.al ?_ _))) : Bk _ w1.heap.size 3 #[.int .i64 4]).cell 0)).mono ?_; rintro e x2 ⟨bA, rfl, hba, hbz, hb2⟩; have HQ2 : Bk x2 (w1.heap.size + 1 + 1) 32 #[.slice none 0 0, .slice none 0 0] := ((by repeat (first | (refine Bk.nq _ _ _ ?_; simp; done) | (with_reducible refine Bk.drwN ?_ _) | (with_reducible refine Bk.drw ?_) | (with_reducible refine Bk.al ?_ _))) : Bk _ (w1.heap.size + 1 + 1) 32 #[.slice none 0 0, .slice none 0 0]).bel hb2; have y0 := HQ2.cell 0; have y1 := HQ2.cell 1; have z0 := HQ2.fr 0; have z1 := HQ2.fr 1; simp only [List.getElem?_toArray, List.getElem?_cons_zero, List.getElem?_cons_succ] at y0 y1; have zb0 : ∀ o, (x2.alloc o).frozen? (⟨(w1.heap.size + 1 + 1), 0, none⟩ : Addr) = false := fun o => (HQ2.al o).fr 0; have zb1 : ∀ o, (x2.alloc o).frozen? (⟨(w1.heap.size + 1 + 1), 1, none⟩ : Addr) = false := fun o => (HQ2.al o).fr 1; have yb0 : ∀ o, (x2.alloc o).cell? (⟨(w1.heap.size + 1 + 1), 0, none⟩ : Addr) = some (.slice none 0 0) := fun o => (HQ2.al o).cell 0; have yb1 : ∀ o, (x2.alloc o).cell? (⟨(w1.heap.size + 1 + 1), 1, none⟩ : Addr) = some (.slice none 0 0) := fun o => (HQ2.al o).cell 1; have HS2 : Bk x2 (w1.heap.size + 1) 3 (zs (List.replicate n 0)).toArray := ((by repeat (first | (refine Bk.nq _ _ _ ?_; simp; done) | (with_reducible refine Bk.drwN ?_ _) | (with_reducible refine Bk.drw ?_) | (with_reducible refine Bk.al ?_ _))) : Bk _ (w1.heap.size + 1) 3 (zs (List.replicate n 0)).toArray).bel hb2
            try go_wp2_with fail
            refine hK.out _ _ ?_ (fun hH4 => ?_)
            · (try dsimp only); exact KS.out _ (by repeat (first | exact Bel.rf | (with_reducible refine Bel.drwN ?_ _) | (with_reducible refine Bel.drw ?_) | (with_reducible refine Bel.al ?_ _) | ((with_reducible refine Bel.st2 ?_ ?_ _); (first | exact Nat.le_refl _ | exact Nat.le_add_right _ _ | (simp; done) | (simp; omega) | (have := hb2.size; simp at *; omega))) | (refine Bel.tr ?_ hb2)))
            clear hK K hH3
            try simp only [Act.put, List.setIfInBounds_toArray, List.set_cons_zero, List.set_cons_succ]
            refine wpAnyH_take (i := 7) (oi := ⟨some 30, .build 32 #[(0, .tmp 25), (1, .tmp 29)], 32, "word.go:74", #[⟨2, .data⟩, ⟨6, .data⟩], none⟩) (v := ?_) rfl (by kernel_rfl) (by kernel_rfl) (by kernel_rfl) (fun _ _ _ h => h) (Or.inl ⟨by first | kernel_rfl | rfl, ?_⟩) (by assumption) ?_
            rotate_left
            · (intro w hSw; (try dsimp only at hSw); go_simp; try with_reducible rfl)
            try simp only [Act.put, List.setIfInBounds_toArray, List.set_cons_zero, List.set_cons_succ]
            refine wpAnyH_ready (rs := [9]) (by kernel_rfl) (by simp) ?_
            refine AllReadyH.cons (o := ⟨none, .store 32 (.tmp 8) (.tmp 30), 0, "word.go:74", #[⟨8, .data⟩, ⟨7, .data⟩, ⟨6, .chain⟩, ⟨0, .phase⟩, ⟨1, .phase⟩, ⟨2, .phase⟩, ⟨3, .phase⟩, ⟨4, .phase⟩, ⟨5, .phase⟩, ⟨6, .phase⟩, ⟨7, .phase⟩, ⟨8, .phase⟩], none⟩) rfl (fun K hK => ?_) (AllReadyH.nil)
            · go_simp
              try go_wp2_with fail
              refine hK.out _ _ ?_ (fun hH5 => ?_)
              · (try dsimp only); exact KS.out _ (by repeat (first | exact Bel.rf | (with_reducible refine Bel.drwN ?_ _) | (with_reducible refine Bel.drw ?_) | (with_reducible refine Bel.al ?_ _) | ((with_reducible refine Bel.st2 ?_ ?_ _); (first | exact Nat.le_refl _ | exact Nat.le_add_right _ _ | (simp; done) | (simp; omega) | (have := hb2.size; simp at *; omega))) | (refine Bel.tr ?_ hb2)))
              clear hK K hH4
              try simp only [Act.put, List.setIfInBounds_toArray, List.set_cons_zero, List.set_cons_succ]
              refine wpAnyH_done (by kernel_rfl) ?_ _
              refine NoPanic.normal ?_
              go_wp2_with fail
              go_meet
              have S2 := hb2.size
              (try simp only [World.size_alloc, World.size_drew] at S2 hba)
              obtain ⟨_, e9, hlb, _⟩ := hbz.2 (by omega)
              cases e9
              have hlb2 : bA < x2.heap.size := hlb
              exact ⟨w1.heap.size + 1 + 1, w1.heap.size + 1, bA, _, rfl, rfl, ((HQ2).st 0 _).st 1 _, (HS2.far (by show (w1.heap.size + 1) ≠ (w1.heap.size + 1 + 1); omega) _).far (by show (w1.heap.size + 1) ≠ (w1.heap.size + 1 + 1); omega) _, (hbz.bel Bel.rf).ch (((Ch.rf (g := (w1.heap.size + 1 + 1))).st 0 _).st 1 _) (fun ad e => by cases e; show bA ≠ (w1.heap.size + 1 + 1); omega), by omega, by omega, by omega, by omega, by omega, (by repeat (first | exact Bel.rf | (with_reducible refine Bel.drwN ?_ _) | (with_reducible refine Bel.drw ?_) | (with_reducible refine Bel.al ?_ _) | ((with_reducible refine Bel.st2 ?_ ?_ _); (first | exact Nat.le_refl _ | exact Nat.le_add_right _ _ | (simp; done) | (simp; omega) | (have := hb2.size; simp at *; omega))) | (refine Bel.tr ?_ hb2)))⟩
      · go_simp
        go_at_call 42; refine (RP.out w1.heap.size _ (((by repeat (first | (refine Bk.nq _ _ _ ?_; simp; done) | (with_reducible refine Bk.drwN ?_ _) | (with_reducible refine Bk.drw ?_) | (with_reducible refine Bk.al ?_ _))) : Bk _ w1.heap.size 3 #[.int .i64 4]).cell 0)).mono ?_; rintro e x2 ⟨bA, rfl, hba, hbz, hb2⟩; have ya0 : ∀ o, ((x2.alloc (.cells #[.slice none 0 0, .slice none 0 0] 32)).alloc o).cell? (⟨x2.heap.size, 0, none⟩ : Addr) = some (.slice none 0 0) := fun o => ((Bk.nw _ _ _).al o).cell 0; have ya1 : ∀ o, ((x2.alloc (.cells #[.slice none 0 0, .slice none 0 0] 32)).alloc o).cell? (⟨x2.heap.size, 1, none⟩ : Addr) = some (.slice none 0 0) := fun o => ((Bk.nw _ _ _).al o).cell 1; have za0 : ∀ o, ((x2.alloc (.cells #[.slice none 0 0, .slice none 0 0] 32)).alloc o).frozen? (⟨x2.heap.size, 0, none⟩ : Addr) = false := fun o => ((Bk.nw _ _ _).al o).fr 0; have za1 : ∀ o, ((x2.alloc (.cells #[.slice none 0 0, .slice none 0 0] 32)).alloc o).frozen? (⟨x2.heap.size, 1, none⟩ : Addr) = false := fun o => ((Bk.nw _ _ _).al o).fr 1
        try go_wp2_with fail
        refine hK.out _ _ ?_ (fun hH2 => ?_)
        · (try dsimp only); exact KS.out _ (by repeat (first | exact Bel.rf | (with_reducible refine Bel.drwN ?_ _) | (with_reducible refine Bel.drw ?_) | (with_reducible refine Bel.al ?_ _) | ((with_reducible refine Bel.st2 ?_ ?_ _); (first | exact Nat.le_refl _ | exact Nat.le_add_right _ _ | (simp; done) | (simp; omega) | (have := hb2.size; simp at *; omega))) | (refine Bel.tr ?_ hb2)))
        clear hK K hH1
        try simp only [Act.put, List.setIfInBounds_toArray, List.set_cons_zero, List.set_cons_succ]
        refine wpAnyH_ready (rs := [2, 8]) (by kernel_rfl) (by simp) ?_
        refine AllReadyH.cons (o := ⟨some 25, .makeSlice 22 (.tmp 24) (.tmp 24), 22, "word.go:74", #[⟨1, .data⟩, ⟨1, .data⟩], none⟩) rfl (fun K hK => ?_) (AllReadyH.cons (o := ⟨some 8, .alloc 32, 0, "word.go:74", #[], none⟩) rfl (fun K hK => ?_) (AllReadyH.nil))
        · refine step_make _ rfl (.tmp 24) (.tmp 24) 22 rfl 3 i0 (.int .i64 0) 1 Try.underlying22 HI.out.1 HI.out.2.1 HI.out.2.2.1 .i64 .i64 _ _ n n rfl rfl rfl rfl (by omega) (by rw [HI.out.2.2.2]; omega) (by omega) ?_; rw [made_i64]
          try go_wp2_with fail
          refine hK.out _ _ ?_ (fun hH3 => ?_)
          · (try dsimp only); exact KS.out _ (by repeat (first | exact Bel.rf | (with_reducible refine Bel.drwN ?_ _) | (with_reducible refine Bel.drw ?_) | (with_reducible refine Bel.al ?_ _) | ((with_reducible refine Bel.st2 ?_ ?_ _); (first | exact Nat.le_refl _ | exact Nat.le_add_right _ _ | (simp; done) | (simp; omega) | (have := hb2.size; simp at *; omega))) | (refine Bel.tr ?_ hb2)))
          clear hK K hH2
          try simp only [Act.put, List.setIfInBounds_toArray, List.set_cons_zero, List.set_cons_succ]
          refine wpAnyH_take (i := 7) (oi := ⟨some 30, .build 32 #[(0, .tmp 25), (1, .tmp 29)], 32, "word.go:74", #[⟨2, .data⟩, ⟨6, .data⟩], none⟩) (v := ?_) rfl (by kernel_rfl) (by kernel_rfl) (by kernel_rfl) (fun _ _ _ h => h) (Or.inl ⟨by first | kernel_rfl | rfl, ?_⟩) (by assumption) ?_
          rotate_left
          · (intro w hSw; (try dsimp only at hSw); go_simp; try with_reducible rfl)
          try simp only [Act.put, List.setIfInBounds_toArray, List.set_cons_zero, List.set_cons_succ]
          refine wpAnyH_ready (rs := [8]) (by kernel_rfl) (by simp) ?_
          refine AllReadyH.cons (o := ⟨some 8, .alloc 32, 0, "word.go:74", #[], none⟩) rfl (fun K hK => ?_) (AllReadyH.nil)
          · go_simp
            try go_wp2_with fail
            refine hK.out _ _ ?_ (fun hH4 => ?_)
            · (try dsimp only); exact KS.out _ (by repeat (first | exact Bel.rf | (with_reducible refine Bel.drwN ?_ _) | (with_reducible refine Bel.drw ?_) | (with_reducible refine Bel.al ?_ _) | ((with_reducible refine Bel.st2 ?_ ?_ _); (first | exact Nat.le_refl _ | exact Nat.le_add_right _ _ | (simp; done) | (simp; omega) | (have := hb2.size; simp at *; omega))) | (refine Bel.tr ?_ hb2)))
            clear hK K hH3
            try simp only [Act.put, List.setIfInBounds_toArray, List.set_cons_zero, List.set_cons_succ]
            refine wpAnyH_ready (rs := [9]) (by kernel_rfl) (by simp) ?_
            refine AllReadyH.cons (o := ⟨none, .store 32 (.tmp 8) (.tmp 30), 0, "word.go:74", #[⟨8, .data⟩, ⟨7, .data⟩, ⟨6, .chain⟩, ⟨0, .phase⟩, ⟨1, .phase⟩, ⟨2, .phase⟩, ⟨3, .phase⟩, ⟨4, .phase⟩, ⟨5, .phase⟩, ⟨6, .phase⟩, ⟨7, .phase⟩, ⟨8, .phase⟩], none⟩) rfl (fun K hK => ?_) (AllReadyH.nil)
            · go_simp
              try go_wp2_with fail
              refine hK.out _ _ ?_ (fun hH5 => ?_)
              · (try dsimp only); exact KS.out _ (by repeat (first | exact Bel.rf | (with_reducible refine Bel.drwN ?_ _) | (with_reducible refine Bel.drw ?_) | (with_reducible refine Bel.al ?_ _) | ((with_reducible refine Bel.st2 ?_ ?_ _); (first | exact Nat.le_refl _ | exact Nat.le_add_right _ _ | (simp; done) | (simp; omega) | (have := hb2.size; simp at *; omega))) | (refine Bel.tr ?_ hb2)))
              clear hK K hH4
              try simp only [Act.put, List.setIfInBounds_toArray, List.set_cons_zero, List.set_cons_succ]
              refine wpAnyH_done (by kernel_rfl) ?_ _
              refine NoPanic.normal ?_
              go_wp2_with fail
              go_meet
              have S2 := hb2.size
              (try simp only [World.size_alloc, World.size_drew] at S2 hba)
              obtain ⟨_, e9, hlb, _⟩ := hbz.2 (by omega)
              cases e9
              have hlb2 : bA < x2.heap.size := hlb
              exact ⟨x2.heap.size + 1, x2.heap.size, bA, _, rfl, rfl, (by repeat (first | (refine Bk.nq _ _ _ ?_; simp; done) | (with_reducible refine Bk.drwN ?_ _) | (with_reducible refine Bk.drw ?_) | (with_reducible refine Bk.al ?_ _))), (Bk.nw _ _ _).al _, hbz.bel (by repeat (first | exact Bel.rf | (with_reducible refine Bel.drwN ?_ _) | (with_reducible refine Bel.drw ?_) | (with_reducible refine Bel.al ?_ _) | ((with_reducible refine Bel.st2 ?_ ?_ _); (first | exact Nat.le_refl _ | exact Nat.le_add_right _ _ | (simp; done) | (simp; omega) | (have := hb2.size; simp at *; omega))))), by omega, by omega, by omega, by omega, by omega, (by repeat (first | exact Bel.rf | (with_reducible refine Bel.drwN ?_ _) | (with_reducible refine Bel.drw ?_) | (with_reducible refine Bel.al ?_ _) | ((with_reducible refine Bel.st2 ?_ ?_ _); (first | exact Nat.le_refl _ | exact Nat.le_add_right _ _ | (simp; done) | (simp; omega) | (have := hb2.size; simp at *; omega))) | (refine Bel.tr ?_ hb2)))⟩
        · go_simp
          try go_wp2_with fail
          refine hK.out _ _ ?_ (fun hH3 => ?_)
          · (try dsimp only); exact KS.out _ (by repeat (first | exact Bel.rf | (with_reducible refine Bel.drwN ?_ _) | (with_reducible refine Bel.drw ?_) | (with_reducible refine Bel.al ?_ _) | ((with_reducible refine Bel.st2 ?_ ?_ _); (first | exact Nat.le_refl _ | exact Nat.le_add_right _ _ | (simp; done) | (simp; omega) | (have := hb2.size; simp at *; omega))) | (refine Bel.tr ?_ hb2)))
          clear hK K hH2
          try simp only [Act.put, List.setIfInBounds_toArray, List.set_cons_zero, List.set_cons_succ]
          refine wpAnyH_ready (rs := [2]) (by kernel_rfl) (by simp) ?_
          refine AllReadyH.cons (o := ⟨some 25, .makeSlice 22 (.tmp 24) (.tmp 24), 22, "word.go:74", #[⟨1, .data⟩, ⟨1, .data⟩], none⟩) rfl (fun K hK => ?_) (AllReadyH.nil)
          · refine step_make _ rfl (.tmp 24) (.tmp 24) 22 rfl 3 i0 (.int .i64 0) 1 Try.underlying22 HI.out.1 HI.out.2.1 HI.out.2.2.1 .i64 .i64 _ _ n n rfl rfl rfl rfl (by omega) (by rw [HI.out.2.2.2]; omega) (by omega) ?_; rw [made_i64]
            try go_wp2_with fail
            refine hK.out _ _ ?_ (fun hH4 => ?_)
            · (try dsimp only); exact KS.out _ (by repeat (first | exact Bel.rf | (with_reducible refine Bel.drwN ?_ _) | (with_reducible refine Bel.drw ?_) | (with_reducible refine Bel.al ?_ _) | ((with_reducible refine Bel.st2 ?_ ?_ _); (first | exact Nat.le_refl _ | exact Nat.le_add_right _ _ | (simp; done) | (simp; omega) | (have := hb2.size; simp at *; omega))) | (refine Bel.tr ?_ hb2)))
            clear hK K hH3
            try simp only [Act.put, List.setIfInBounds_toArray, List.set_cons_zero, List.set_cons_succ]
            refine wpAnyH_take (i := 7) (oi := ⟨some 30, .build 32 #[(0, .tmp 25), (1, .tmp 29)], 32, "word.go:74", #[⟨2, .data⟩, ⟨6, .data⟩], none⟩) (v := ?_) rfl (by kernel_rfl) (by kernel_rfl) (by kernel_rfl) (fun _ _ _ h => h) (Or.inl ⟨by first | kernel_rfl | rfl, ?_⟩) (by assumption) ?_
            rotate_left
            · (intro w hSw; (try dsimp only at hSw); go_simp; try with_reducible rfl)
            try simp only [Act.put, List.setIfInBounds_toArray, List.set_cons_zero, List.set_cons_succ]
            refine wpAnyH_ready (rs := [9]) (by kernel_rfl) (by simp) ?_
            refine AllReadyH.cons (o := ⟨none, .store 32 (.tmp 8) (.tmp 30), 0, "word.go:74", #[⟨8, .data⟩, ⟨7, .data⟩, ⟨6, .chain⟩, ⟨0, .phase⟩, ⟨1, .phase⟩, ⟨2, .phase⟩, ⟨3, .phase⟩, ⟨4, .phase⟩, ⟨5, .phase⟩, ⟨6, .phase⟩, ⟨7, .phase⟩, ⟨8, .phase⟩], none⟩) rfl (fun K hK => ?_) (AllReadyH.nil)
            · go_simp
              try go_wp2_with fail
              refine hK.out _ _ ?_ (fun hH5 => ?_)
              · (try dsimp only); exact KS.out _ (by repeat (first | exact Bel.rf | (with_reducible refine Bel.drwN ?_ _) | (with_reducible refine Bel.drw ?_) | (with_reducible refine Bel.al ?_ _) | ((with_reducible refine Bel.st2 ?_ ?_ _); (first | exact Nat.le_refl _ | exact Nat.le_add_right _ _ | (simp; done) | (simp; omega) | (have := hb2.size; simp at *; omega))) | (refine Bel.tr ?_ hb2)))
              clear hK K hH4
              try simp only [Act.put, List.setIfInBounds_toArray, List.set_cons_zero, List.set_cons_succ]
              refine wpAnyH_done (by kernel_rfl) ?_ _
              refine NoPanic.normal ?_
              go_wp2_with fail
              go_meet
              have S2 := hb2.size
              (try simp only [World.size_alloc, World.size_drew] at S2 hba)
              obtain ⟨_, e9, hlb, _⟩ := hbz.2 (by omega)
              cases e9
              have hlb2 : bA < x2.heap.size := hlb
              exact ⟨x2.heap.size, x2.heap.size + 1, bA, _, rfl, rfl, (by repeat (first | (refine Bk.nq _ _ _ ?_; simp; done) | (with_reducible refine Bk.drwN ?_ _) | (with_reducible refine Bk.drw ?_) | (with_reducible refine Bk.al ?_ _))), (by repeat (first | (refine Bk.nq _ _ _ ?_; simp; done) | (with_reducible refine Bk.drwN ?_ _) | (with_reducible refine Bk.drw ?_) | (with_reducible refine Bk.al ?_ _))), hbz.bel (by repeat (first | exact Bel.rf | (with_reducible refine Bel.drwN ?_ _) | (with_reducible refine Bel.drw ?_) | (with_reducible refine Bel.al ?_ _) | ((with_reducible refine Bel.st2 ?_ ?_ _); (first | exact Nat.le_refl _ | exact Nat.le_add_right _ _ | (simp; done) | (simp; omega) | (have := hb2.size; simp at *; omega))))), by omega, by omega, by omega, by omega, by omega, (by repeat (first | exact Bel.rf | (with_reducible refine Bel.drwN ?_ _) | (with_reducible refine Bel.drw ?_) | (with_reducible refine Bel.al ?_ _) | ((with_reducible refine Bel.st2 ?_ ?_ _); (first | exact Nat.le_refl _ | exact Nat.le_add_right _ _ | (simp; done) | (simp; omega) | (have := hb2.size; simp at *; omega))) | (refine Bel.tr ?_ hb2)))⟩
      · go_simp
        try go_wp2_with fail
        refine hK.out _ _ ?_ (fun hH2 => ?_)
        · (try dsimp only); exact KS.out _ (by repeat (first | exact Bel.rf | (with_reducible refine Bel.drwN ?_ _) | (with_reducible refine Bel.drw ?_) | (with_reducible refine Bel.al ?_ _) | ((with_reducible refine Bel.st2 ?_ ?_ _); (first | exact Nat.le_refl _ | exact Nat.le_add_right _ _ | (simp; done) | (simp; omega)))))
        clear hK K hH1
        try simp only [Act.put, List.setIfInBounds_toArray, List.set_cons_zero, List.set_cons_succ]
        refine wpAnyH_ready (rs := [2, 6]) (by kernel_rfl) (by simp) ?_
        refine AllReadyH.cons (o := ⟨some 25, .makeSlice 22 (.tmp 24) (.tmp 24), 22, "word.go:74", #[⟨1, .data⟩, ⟨1, .data⟩], none⟩) rfl (fun K hK => ?_) (AllReadyH.cons (o := ⟨some 29, .call { callee := Callee.value (.func 42), args := #[.tmp 26, .tmp 28], argTypes := #[22, 3] }, 22, "word.go:74", #[⟨3, .data⟩, ⟨5, .data⟩], none⟩) rfl (fun K hK => ?_) (AllReadyH.nil))
        · refine step_make _ rfl (.tmp 24) (.tmp 24) 22 rfl 3 i0 (.int .i64 0) 1 Try.underlying22 HI.out.1 HI.out.2.1 HI.out.2.2.1 .i64 .i64 _ _ n n rfl rfl rfl rfl (by omega) (by rw [HI.out.2.2.2]; omega) (by omega) ?_; rw [made_i64]
          try go_wp2_with fail
          refine hK.out _ _ ?_ (fun hH3 => ?_)
          · (try dsimp only); exact KS.out _ (by repeat (first | exact Bel.rf | (with_reducible refine Bel.drwN ?_ _) | (with_reducible refine Bel.drw ?_) | (with_reducible refine Bel.al ?_ _) | ((with_reducible refine Bel.st2 ?_ ?_ _); (first | exact Nat.le_refl _ | exact Nat.le_add_right _ _ | (simp; done) | (simp; omega)))))
          clear hK K hH2
          try simp only [Act.put, List.setIfInBounds_toArray, List.set_cons_zero, List.set_cons_succ]
          refine wpAnyH_ready (rs := [6]) (by kernel_rfl) (by simp) ?_
          refine AllReadyH.cons (o := ⟨some 29, .call { callee := Callee.value (.func 42), args := #[.tmp 26, .tmp 28], argTypes := #[22, 3] }, 22, "word.go:74", #[⟨3, .data⟩, ⟨5, .data⟩], none⟩) rfl (fun K hK => ?_) (AllReadyH.nil)
          · go_simp
            go_at_call 42; refine (RP.out w1.heap.size _ (((by repeat (first | (refine Bk.nq _ _ _ ?_; simp; done) | (with_reducible refine Bk.drwN ?_ _) | (with_reducible refine Bk.drw ?_) | (with_reducible refine Bk.al ?_ _))) : Bk _ w1.heap.size 3 #[.int .i64 4]).cell 0)).mono ?_; rintro e x2 ⟨bA, rfl, hba, hbz, hb2⟩; have HQ2 : Bk x2 (w1.heap.size + 1) 32 #[.slice none 0 0, .slice none 0 0] := ((by repeat (first | (refine Bk.nq _ _ _ ?_; simp; done) | (with_reducible refine Bk.drwN ?_ _) | (with_reducible refine Bk.drw ?_) | (with_reducible refine Bk.al ?_ _))) : Bk _ (w1.heap.size + 1) 32 #[.slice none 0 0, .slice none 0 0]).bel hb2; have y0 := HQ2.cell 0; have y1 := HQ2.cell 1; have z0 := HQ2.fr 0; have z1 := HQ2.fr 1; simp only [List.getElem?_toArray, List.getElem?_cons_zero, List.getElem?_cons_succ] at y0 y1; have zb0 : ∀ o, (x2.alloc o).frozen? (⟨(w1.heap.size + 1), 0, none⟩ : Addr) = false := fun o => (HQ2.al o).fr 0; have zb1 : ∀ o, (x2.alloc o).frozen? (⟨(w1.heap.size + 1), 1, none⟩ : Addr) = false := fun o => (HQ2.al o).fr 1; have yb0 : ∀ o, (x2.alloc o).cell? (⟨(w1.heap.size + 1), 0, none⟩ : Addr) = some (.slice none 0 0) := fun o => (HQ2.al o).cell 0; have yb1 : ∀ o, (x2.alloc o).cell? (⟨(w1.heap.size + 1), 1, none⟩ : Addr) = some (.slice none 0 0) := fun o => (HQ2.al o).cell 1; have HS2 : Bk x2 (w1.heap.size + 1 + 1) 3 (zs (List.replicate n 0)).toArray := ((by repeat (first | (refine Bk.nq _ _ _ ?_; simp; done) | (with_reducible refine Bk.drwN ?_ _) | (with_reducible refine Bk.drw ?_) | (with_reducible refine Bk.al ?_ _))) : Bk _ (w1.heap.size + 1 + 1) 3 (zs (List.replicate n 0)).toArray).bel hb2
            try go_wp2_with fail
            refine hK.out _ _ ?_ (fun hH4 => ?_)
            · (try dsimp only); exact KS.out _ (by repeat (first | exact Bel.rf | (with_reducible refine Bel.drwN ?_ _) | (with_reducible refine Bel.drw ?_) | (with_reducible refine Bel.al ?_ _) | ((with_reducible refine Bel.st2 ?_ ?_ _); (first | exact Nat.le_refl _ | exact Nat.le_add_right _ _ | (simp; done) | (simp; omega) | (have := hb2.size; simp at *; omega))) | (refine Bel.tr ?_ hb2)))
            clear hK K hH3
            try simp only [Act.put, List.setIfInBounds_toArray, List.set_cons_zero, List.set_cons_succ]
            refine wpAnyH_take (i := 7) (oi := ⟨some 30, .build 32 #[(0, .tmp 25), (1, .tmp 29)], 32, "word.go:74", #[⟨2, .data⟩, ⟨6, .data⟩], none⟩) (v := ?_) rfl (by kernel_rfl) (by kernel_rfl) (by kernel_rfl) (fun _ _ _ h => h) (Or.inl ⟨by first | kernel_rfl | rfl, ?_⟩) (by assumption) ?_
            rotate_left
            · (intro w hSw; (try dsimp only at hSw); go_simp; try with_reducible rfl)
            try simp only [Act.put, List.setIfInBounds_toArray, List.set_cons_zero, List.set_cons_succ]
            refine wpAnyH_ready (rs := [9]) (by kernel_rfl) (by simp) ?_
            refine AllReadyH.cons (o := ⟨none, .store 32 (.tmp 8) (.tmp 30), 0, "word.go:74", #[⟨8, .data⟩, ⟨7, .data⟩, ⟨6, .chain⟩, ⟨0, .phase⟩, ⟨1, .phase⟩, ⟨2, .phase⟩, ⟨3, .phase⟩, ⟨4, .phase⟩, ⟨5, .phase⟩, ⟨6, .phase⟩, ⟨7, .phase⟩, ⟨8, .phase⟩], none⟩) rfl (fun K hK => ?_) (AllReadyH.nil)
            · go_simp
              try go_wp2_with fail
              refine hK.out _ _ ?_ (fun hH5 => ?_)
              · (try dsimp only); exact KS.out _ (by repeat (first | exact Bel.rf | (with_reducible refine Bel.drwN ?_ _) | (with_reducible refine Bel.drw ?_) | (with_reducible refine Bel.al ?_ _) | ((with_reducible refine Bel.st2 ?_ ?_ _); (first | exact Nat.le_refl _ | exact Nat.le_add_right _ _ | (simp; done) | (simp; omega) | (have := hb2.size; simp at *; omega))) | (refine Bel.tr ?_ hb2)))
              clear hK K hH4
              try simp only [Act.put, List.setIfInBounds_toArray, List.set_cons_zero, List.set_cons_succ]
              refine wpAnyH_done (by kernel_rfl) ?_ _
              refine NoPanic.normal ?_
              go_wp2_with fail
              go_meet
              have S2 := hb2.size
              (try simp only [World.size_alloc, World.size_drew] at S2 hba)
              obtain ⟨_, e9, hlb, _⟩ := hbz.2 (by omega)
              cases e9
              have hlb2 : bA < x2.heap.size := hlb
              exact ⟨w1.heap.size + 1, w1.heap.size + 1 + 1, bA, _, rfl, rfl, ((HQ2).st 0 _).st 1 _, (HS2.far (by show (w1.heap.size + 1 + 1) ≠ (w1.heap.size + 1); omega) _).far (by show (w1.heap.size + 1 + 1) ≠ (w1.heap.size + 1); omega) _, (hbz.bel Bel.rf).ch (((Ch.rf (g := (w1.heap.size + 1))).st 0 _).st 1 _) (fun ad e => by cases e; show bA ≠ (w1.heap.size + 1); omega), by omega, by omega, by omega, by omega, by omega, (by repeat (first | exact Bel.rf | (with_reducible refine Bel.drwN ?_ _) | (with_reducible refine Bel.drw ?_) | (with_reducible refine Bel.al ?_ _) | ((with_reducible refine Bel.st2 ?_ ?_ _); (first | exact Nat.le_refl _ | exact Nat.le_add_right _ _ | (simp; done) | (simp; omega) | (have := hb2.size; simp at *; omega))) | (refine Bel.tr ?_ hb2)))⟩
        · go_simp
          go_at_call 42; refine (RP.out w1.heap.size _ (((by repeat (first | (refine Bk.nq _ _ _ ?_; simp; done) | (with_reducible refine Bk.drwN ?_ _) | (with_reducible refine Bk.drw ?_) | (with_reducible refine Bk.al ?_ _))) : Bk _ w1.heap.size 3 #[.int .i64 4]).cell 0)).mono ?_; rintro e x2 ⟨bA, rfl, hba, hbz, hb2⟩; have HQ2 : Bk x2 (w1.heap.size + 1) 32 #[.slice none 0 0, .slice none 0 0] := ((by repeat (first | (refine Bk.nq _ _ _ ?_; simp; done) | (with_reducible refine Bk.drwN ?_ _) | (with_reducible refine Bk.drw ?_) | (with_reducible refine Bk.al ?_ _))) : Bk _ (w1.heap.size + 1) 32 #[.slice none 0 0, .slice none 0 0]).bel hb2; have y0 := HQ2.cell 0; have y1 := HQ2.cell 1; have z0 := HQ2.fr 0; have z1 := HQ2.fr 1; simp only [List.getElem?_toArray, List.getElem?_cons_zero, List.getElem?_cons_succ] at y0 y1; have zb0 : ∀ o, (x2.alloc o).frozen? (⟨(w1.heap.size + 1), 0, none⟩ : Addr) = false := fun o => (HQ2.al o).fr 0; have zb1 : ∀ o, (x2.alloc o).frozen? (⟨(w1.heap.size + 1), 1, none⟩ : Addr) = false := fun o => (HQ2.al o).fr 1; have yb0 : ∀ o, (x2.alloc o).cell? (⟨(w1.heap.size + 1), 0, none⟩ : Addr) = some (.slice none 0 0) := fun o => (HQ2.al o).cell 0; have yb1 : ∀ o, (x2.alloc o).cell? (⟨(w1.heap.size + 1), 1, none⟩ : Addr) = some (.slice none 0 0) := fun o => (HQ2.al o).cell 1
          try go_wp2_with fail
          refine hK.out _ _ ?_ (fun hH3 => ?_)
          · (try dsimp only); exact KS.out _ (by repeat (first | exact Bel.rf | (with_reducible refine Bel.drwN ?_ _) | (with_reducible refine Bel.drw ?_) | (with_reducible refine Bel.al ?_ _) | ((with_reducible refine Bel.st2 ?_ ?_ _); (first | exact Nat.le_refl _ | exact Nat.le_add_right _ _ | (simp; done) | (simp; omega) | (have := hb2.size; simp at *; omega))) | (refine Bel.tr ?_ hb2)))
          clear hK K hH2
          try simp only [Act.put, List.setIfInBounds_toArray, List.set_cons_zero, List.set_cons_succ]
          refine wpAnyH_ready (rs := [2]) (by kernel_rfl) (by simp) ?_
          refine AllReadyH.cons (o := ⟨some 25, .makeSlice 22 (.tmp 24) (.tmp 24), 22, "word.go:74", #[⟨1, .data⟩, ⟨1, .data⟩], none⟩) rfl (fun K hK => ?_) (AllReadyH.nil)
          · refine step_make _ rfl (.tmp 24) (.tmp 24) 22 rfl 3 i0 (.int .i64 0) 1 Try.underlying22 HI.out.1 HI.out.2.1 HI.out.2.2.1 .i64 .i64 _ _ n n rfl rfl rfl rfl (by omega) (by rw [HI.out.2.2.2]; omega) (by omega) ?_; rw [made_i64]
            try go_wp2_with fail
            refine hK.out _ _ ?_ (fun hH4 => ?_)
            · (try dsimp only); exact KS.out _ (by repeat (first | exact Bel.rf | (with_reducible refine Bel.drwN ?_ _) | (with_reducible refine Bel.drw ?_) | (with_reducible refine Bel.al ?_ _) | ((with_reducible refine Bel.st2 ?_ ?_ _); (first | exact Nat.le_refl _ | exact Nat.le_add_right _ _ | (simp; done) | (simp; omega) | (have := hb2.size; simp at *; omega))) | (refine Bel.tr ?_ hb2)))
            clear hK K hH3
            try simp only [Act.put, List.setIfInBounds_toArray, List.set_cons_zero, List.set_cons_succ]
            refine wpAnyH_take (i := 7) (oi := ⟨some 30, .build 32 #[(0, .tmp 25), (1, .tmp 29)], 32, "word.go:74", #[⟨2, .data⟩, ⟨6, .data⟩], none⟩) (v := ?_) rfl (by kernel_rfl) (by kernel_rfl) (by kernel_rfl) (fun _ _ _ h => h) (Or.inl ⟨by first | kernel_rfl | rfl, ?_⟩) (by assumption) ?_
            rotate_left
            · (intro w hSw; (try dsimp only at hSw); go_simp; try with_reducible rfl)
            try simp only [Act.put, List.setIfInBounds_toArray, List.set_cons_zero, List.set_cons_succ]
            refine wpAnyH_ready (rs := [9]) (by kernel_rfl) (by simp) ?_
            refine AllReadyH.cons (o := ⟨none, .store 32 (.tmp 8) (.tmp 30), 0, "word.go:74", #[⟨8, .data⟩, ⟨7, .data⟩, ⟨6, .chain⟩, ⟨0, .phase⟩, ⟨1, .phase⟩, ⟨2, .phase⟩, ⟨3, .phase⟩, ⟨4, .phase⟩, ⟨5, .phase⟩, ⟨6, .phase⟩, ⟨7, .phase⟩, ⟨8, .phase⟩], none⟩) rfl (fun K hK => ?_) (AllReadyH.nil)
            · go_simp
              try go_wp2_with fail
              refine hK.out _ _ ?_ (fun hH5 => ?_)
              · (try dsimp only); exact KS.out _ (by repeat (first | exact Bel.rf | (with_reducible refine Bel.drwN ?_ _) | (with_reducible refine Bel.drw ?_) | (with_reducible refine Bel.al ?_ _) | ((with_reducible refine Bel.st2 ?_ ?_ _); (first | exact Nat.le_refl _ | exact Nat.le_add_right _ _ | (simp; done) | (simp; omega) | (have := hb2.size; simp at *; omega))) | (refine Bel.tr ?_ hb2)))
              clear hK K hH4
              try simp only [Act.put, List.setIfInBounds_toArray, List.set_cons_zero, List.set_cons_succ]
              refine wpAnyH_done (by kernel_rfl) ?_ _
              refine NoPanic.normal ?_
              go_wp2_with fail
              go_meet
              have S2 := hb2.size
              (try simp only [World.size_alloc, World.size_drew] at S2 hba)
              obtain ⟨_, e9, hlb, _⟩ := hbz.2 (by omega)
              cases e9
              have hlb2 : bA < x2.heap.size := hlb
              exact ⟨w1.heap.size + 1, x2.heap.size, bA, _, rfl, rfl, ((HQ2.al _).st 0 _).st 1 _, ((Bk.nw _ _ _).far (by show x2.heap.size ≠ (w1.heap.size + 1); omega) _).far (by show x2.heap.size ≠ (w1.heap.size + 1); omega) _, (hbz.bel (Bel.rf.al _)).ch (((Ch.rf (g := (w1.heap.size + 1))).st 0 _).st 1 _) (fun ad e => by cases e; show bA ≠ (w1.heap.size + 1); omega), by omega, by omega, by omega, by omega, by omega, (by repeat (first | exact Bel.rf | (with_reducible refine Bel.drwN ?_ _) | (with_reducible refine Bel.drw ?_) | (with_reducible refine Bel.al ?_ _) | ((with_reducible refine Bel.st2 ?_ ?_ _); (first | exact Nat.le_refl _ | exact Nat.le_add_right _ _ | (simp; done) | (simp; omega) | (have := hb2.size; simp at *; omega))) | (refine Bel.tr ?_ hb2)))⟩
    · go_simp
      try go_wp2_with fail
      refine hK.out _ _ ?_ (fun hH1 => ?_)
      · (try dsimp only); exact KS.out _ (by repeat (first | exact Bel.rf | (with_reducible refine Bel.drwN ?_ _) | (with_reducible refine Bel.drw ?_) | (with_reducible refine Bel.al ?_ _) | ((with_reducible refine Bel.st2 ?_ ?_ _); (first | exact Nat.le_refl _ | exact Nat.le_add_right _ _ | (simp; done) | (simp; omega)))))
      clear hK K hH0
      try simp only [Act.put, List.setIfInBounds_toArray, List.set_cons_zero, List.set_cons_succ]
      refine wpAnyH_ready (rs := [2, 3]) (by kernel_rfl) (by simp) ?_
      refine AllReadyH.cons (o := ⟨some 25, .makeSlice 22 (.tmp 24) (.tmp 24), 22, "word.go:74", #[⟨1, .data⟩, ⟨1, .data⟩], none⟩) rfl (fun K hK => ?_) (AllReadyH.cons (o := ⟨some 26, .buildSlice 22 1 #[(0, .const (.int IntKind.i64 4))], 22, "word.go:74", #[], none⟩) rfl (fun K hK => ?_) (AllReadyH.nil))
      · refine step_make _ rfl (.tmp 24) (.tmp 24) 22 rfl 3 i0 (.int .i64 0) 1 Try.underlying22 HI.out.1 HI.out.2.1 HI.out.2.2.1 .i64 .i64 _ _ n n rfl rfl rfl rfl (by omega) (by rw [HI.out.2.2.2]; omega) (by omega) ?_; rw [made_i64]
        try go_wp2_with fail
        refine hK.out _ _ ?_ (fun hH2 => ?_)
        · (try dsimp only); exact KS.out _ (by repeat (first | exact Bel.rf | (with_reducible refine Bel.drwN ?_ _) | (with_reducible refine Bel.drw ?_) | (with_reducible refine Bel.al ?_ _) | ((with_reducible refine Bel.st2 ?_ ?_ _); (first | exact Nat.le_refl _ | exact Nat.le_add_right _ _ | (simp; done) | (simp; omega)))))
        clear hK K hH1
        try simp only [Act.put, List.setIfInBounds_toArray, List.set_cons_zero, List.set_cons_succ]
        refine wpAnyH_ready (rs := [3]) (by kernel_rfl) (by simp) ?_
        refine AllReadyH.cons (o := ⟨some 26, .buildSlice 22 1 #[(0, .const (.int IntKind.i64 4))], 22, "word.go:74", #[], none⟩) rfl (fun K hK => ?_) (AllReadyH.nil)
        · go_simp
          try go_wp2_with fail
          refine hK.out _ _ ?_ (fun hH3 => ?_)
          · (try dsimp only); exact KS.out _ (by repeat (first | exact Bel.rf | (with_reducible refine Bel.drwN ?_ _) | (with_reducible refine Bel.drw ?_) | (with_reducible refine Bel.al ?_ _) | ((with_reducible refine Bel.st2 ?_ ?_ _); (first | exact Nat.le_refl _ | exact Nat.le_add_right _ _ | (simp; done) | (simp; omega)))))
          clear hK K hH2
          try simp only [Act.put, List.setIfInBounds_toArray, List.set_cons_zero, List.set_cons_succ]
          refine wpAnyH_ready (rs := [6]) (by kernel_rfl) (by simp) ?_
          refine AllReadyH.cons (o := ⟨some 29, .call { callee := Callee.value (.func 42), args := #[.tmp 26, .tmp 28], argTypes := #[22, 3] }, 22, "word.go:74", #[⟨3, .data⟩, ⟨5, .data⟩], none⟩) rfl (fun K hK => ?_) (AllReadyH.nil)
          · go_simp
            go_at_call 42; refine (RP.out (w1.heap.size + 1 + 1) _ (((by repeat (first | (refine Bk.nq _ _ _ ?_; simp; done) | (with_reducible refine Bk.drwN ?_ _) | (with_reducible refine Bk.drw ?_) | (with_reducible refine Bk.al ?_ _))) : Bk _ (w1.heap.size + 1 + 1) 3 #[.int .i64 4]).cell 0)).mono ?_; rintro e x2 ⟨bA, rfl, hba, hbz, hb2⟩; have HQ2 : Bk x2 w1.heap.size 32 #[.slice none 0 0, .slice none 0 0] := ((by repeat (first | (refine Bk.nq _ _ _ ?_; simp; done) | (with_reducible refine Bk.drwN ?_ _) | (with_reducible refine Bk.drw ?_) | (with_reducible refine Bk.al ?_ _))) : Bk _ w1.heap.size 32 #[.slice none 0 0, .slice none 0 0]).bel hb2; have y0 := HQ2.cell 0; have y1 := HQ2.cell 1; have z0 := HQ2.fr 0; have z1 := HQ2.fr 1; simp only [List.getElem?_toArray, List.getElem?_cons_zero, List.getElem?_cons_succ] at y0 y1; have zb0 : ∀ o, (x2.alloc o).frozen? (⟨w1.heap.size, 0, none⟩ : Addr) = false := fun o => (HQ2.al o).fr 0; have zb1 : ∀ o, (x2.alloc o).frozen? (⟨w1.heap.size, 1, none⟩ : Addr) = false := fun o => (HQ2.al o).fr 1; have yb0 : ∀ o, (x2.alloc o).cell? (⟨w1.heap.size, 0, none⟩ : Addr) = some (.slice none 0 0) := fun o => (HQ2.al o).cell 0; have yb1 : ∀ o, (x2.alloc o).cell? (⟨w1.heap.size, 1, none⟩ : Addr) = some (.slice none 0 0) := fun o => (HQ2.al o).cell 1; have HS2 : Bk x2 (w1.heap.size + 1) 3 (zs (List.replicate n 0)).toArray := ((by repeat (first | (refine Bk.nq _ _ _ ?_; simp; done) | (with_reducible refine Bk.drwN ?_ _) | (with_reducible refine Bk.drw ?_) | (with_reducible refine Bk.al ?_ _))) : Bk _ (w1.heap.size + 1) 3 (zs (List.replicate n 0)).toArray).bel hb2
            try go_wp2_with fail
            refine hK.out _ _ ?_ (fun hH4 => ?_)
            · (try dsimp only); exact KS.out _ (by repeat (first | exact Bel.rf | (with_reducible refine Bel.drwN ?_ _) | (with_reducible refine Bel.drw ?_) | (with_reducible refine Bel.al ?_ _) | ((with_reducible refine Bel.st2 ?_ ?_ _); (first | exact Nat.le_refl _ | exact Nat.le_add_right _ _ | (simp; done) | (simp; omega) | (have := hb2.size; simp at *; omega))) | (refine Bel.tr ?_ hb2)))
            clear hK K hH3
            try simp only [Act.put, List.setIfInBounds_toArray, List.set_cons_zero, List.set_cons_succ]
            refine wpAnyH_take (i := 7) (oi := ⟨some 30, .build 32 #[(0, .tmp 25), (1, .tmp 29)], 32, "word.go:74", #[⟨2, .data⟩, ⟨6, .data⟩], none⟩) (v := ?_) rfl (by kernel_rfl) (by kernel_rfl) (by kernel_rfl) (fun _ _ _ h => h) (Or.inl ⟨by first | kernel_rfl | rfl, ?_⟩) (by assumption) ?_
            rotate_left
            · (intro w hSw; (try dsimp only at hSw); go_simp; try with_reducible rfl)
            try simp only [Act.put, List.setIfInBounds_toArray, List.set_cons_zero, List.set_cons_succ]
            refine wpAnyH_ready (rs := [9]) (by kernel_rfl) (by simp) ?_
            refine AllReadyH.cons (o := ⟨none, .store 32 (.tmp 8) (.tmp 30), 0, "word.go:74", #[⟨8, .data⟩, ⟨7, .data⟩, ⟨6, .chain⟩, ⟨0, .phase⟩, ⟨1, .phase⟩, ⟨2, .phase⟩, ⟨3, .phase⟩, ⟨4, .phase⟩, ⟨5, .phase⟩, ⟨6, .phase⟩, ⟨7, .phase⟩, ⟨8, .phase⟩], none⟩) rfl (fun K hK => ?_) (AllReadyH.nil)
            · go_simp
              try go_wp2_with fail
              refine hK.out _ _ ?_ (fun hH5 => ?_)
              · (try dsimp only); exact KS.out _ (by repeat (first | exact Bel.rf | (with_reducible refine Bel.drwN ?_ _) | (with_reducible refine Bel.drw ?_) | (with_reducible refine Bel.al ?_ _) | ((with_reducible refine Bel.st2 ?_ ?_ _); (first | exact Nat.le_refl _ | exact Nat.le_add_right _ _ | (simp; done) | (simp; omega) | (have := hb2.size; simp at *; omega))) | (refine Bel.tr ?_ hb2)))
              clear hK K hH4
              try simp only [Act.put, List.setIfInBounds_toArray, List.set_cons_zero, List.set_cons_succ]
              refine wpAnyH_done (by kernel_rfl) ?_ _
              refine NoPanic.normal ?_
              go_wp2_with fail
              go_meet
              have S2 := hb2.size
              (try simp only [World.size_alloc, World.size_drew] at S2 hba)
              obtain ⟨_, e9, hlb, _⟩ := hbz.2 (by omega)
              cases e9
              have hlb2 : bA < x2.heap.size := hlb
              exact ⟨w1.heap.size, w1.heap.size + 1, bA, _, rfl, rfl, ((HQ2).st 0 _).st 1 _, (HS2.far (by show (w1.heap.size + 1) ≠ w1.heap.size; omega) _).far (by show (w1.heap.size + 1) ≠ w1.heap.size; omega) _, (hbz.bel Bel.rf).ch (((Ch.rf (g := w1.heap.size)).st 0 _).st 1 _) (fun ad e => by cases e; show bA ≠ w1.heap.size; omega), by omega, by omega, by omega, by omega, by omega, (by repeat (first | exact Bel.rf | (with_reducible refine Bel.drwN ?_ _) | (with_reducible refine Bel.drw ?_) | (with_reducible refine Bel.al ?_ _) | ((with_reducible refine Bel.st2 ?_ ?_ _); (first | exact Nat.le_refl _ | exact Nat.le_add_right _ _ | (simp; done) | (simp; omega) | (have := hb2.size; simp at *; omega))) | (refine Bel.tr ?_ hb2)))⟩
      · go_simp
        try go_wp2_with fail
        refine hK.out _ _ ?_ (fun hH2 => ?_)
        · (try dsimp only); exact KS.out _ (by repeat (first | exact Bel.rf | (with_reducible refine Bel.drwN ?_ _) | (with_reducible refine Bel.drw ?_) | (with_reducible refine Bel.al ?_ _) | ((with_reducible refine Bel.st2 ?_ ?_ _); (first | exact Nat.le_refl _ | exact Nat.le_add_right _ _ | (simp; done) | (simp; omega)))))
        clear hK K hH1
        try simp only [Act.put, List.setIfInBounds_toArray, List.set_cons_zero, List.set_cons_succ]
        refine wpAnyH_ready (rs := [2, 6]) (by kernel_rfl) (by simp) ?_
        refine AllReadyH.cons (o := ⟨some 25, .makeSlice 22 (.tmp 24) (.tmp 24), 22, "word.go:74", #[⟨1, .data⟩, ⟨1, .data⟩], none⟩) rfl (fun K hK => ?_) (AllReadyH.cons (o := ⟨some 29, .call { callee := Callee.value (.func 42), args := #[.tmp 26, .tmp 28], argTypes := #[22, 3] }, 22, "word.go:74", #[⟨3, .data⟩, ⟨5, .data⟩], none⟩) rfl (fun K hK => ?_) (AllReadyH.nil))
        · refine step_make _ rfl (.tmp 24) (.tmp 24) 22 rfl 3 i0 (.int .i64 0) 1 Try.underlying22 HI.out.1 HI.out.2.1 HI.out.2.2.1 .i64 .i64 _ _ n n rfl rfl rfl rfl (by omega) (by rw [HI.out.2.2.2]; omega) (by omega) ?_; rw [made_i64]
          try go_wp2_with fail
          refine hK.out _ _ ?_ (fun hH3 => ?_)
          · (try dsimp only); exact KS.out _ (by repeat (first | exact Bel.rf | (with_reducible refine Bel.drwN ?_ _) | (with_reducible refine Bel.drw ?_) | (with_reducible refine Bel.al ?_ _) | ((with_reducible refine Bel.st2 ?_ ?_ _); (first | exact Nat.le_refl _ | exact Nat.le_add_right _ _ | (simp; done) | (simp; omega)))))
          clear hK K hH2
          try simp only [Act.put, List.setIfInBounds_toArray, List.set_cons_zero, List.set_cons_succ]
          refine wpAnyH_ready (rs := [6]) (by kernel_rfl) (by simp) ?_
          refine AllReadyH.cons (o := ⟨some 29, .call { callee := Callee.value (.func 42), args := #[.tmp 26, .tmp 28], argTypes := #[22, 3] }, 22, "word.go:74", #[⟨3, .data⟩, ⟨5, .data⟩], none⟩) rfl (fun K hK => ?_) (AllReadyH.nil)
          · go_simp
            go_at_call 42; refine (RP.out (w1.heap.size + 1) _ (((by repeat (first | (refine Bk.nq _ _ _ ?_; simp; done) | (with_reducible refine Bk.drwN ?_ _) | (with_reducible refine Bk.drw ?_) | (with_reducible refine Bk.al ?_ _))) : Bk _ (w1.heap.size + 1) 3 #[.int .i64 4]).cell 0)).mono ?_; rintro e x2 ⟨bA, rfl, hba, hbz, hb2⟩; have HQ2 : Bk x2 w1.heap.size 32 #[.slice none 0 0, .slice none 0 0] := ((by repeat (first | (refine Bk.nq _ _ _ ?_; simp; done) | (with_reducible refine Bk.drwN ?_ _) | (with_reducible refine Bk.drw ?_) | (with_reducible refine Bk.al ?_ _))) : Bk _ w1.heap.size 32 #[.slice none 0 0, .slice none 0 0]).bel hb2; have y0 := HQ2.cell 0; have y1 := HQ2.cell 1; have z0 := HQ2.fr 0; have z1 := HQ2.fr 1; simp only [List.getElem?_toArray, List.getElem?_cons_zero, List.getElem?_cons_succ] at y0 y1; have zb0 : ∀ o, (x2.alloc o).frozen? (⟨w1.heap.size, 0, none⟩ : Addr) = false := fun o => (HQ2.al o).fr 0; have zb1 : ∀ o, (x2.alloc o).frozen? (⟨w1.heap.size, 1, none⟩ : Addr) = false := fun o => (HQ2.al o).fr 1; have yb0 : ∀ o, (x2.alloc o).cell? (⟨w1.heap.size, 0, none⟩ : Addr) = some (.slice none 0 0) := fun o => (HQ2.al o).cell 0; have yb1 : ∀ o, (x2.alloc o).cell? (⟨w1.heap.size, 1, none⟩ : Addr) = some (.slice none 0 0) := fun o => (HQ2.al o).cell 1; have HS2 : Bk x2 (w1.heap.size + 1 + 1) 3 (zs (List.replicate n 0)).toArray := ((by repeat (first | (refine Bk.nq _ _ _ ?_; simp; done) | (with_reducible refine Bk.drwN ?_ _) | (with_reducible refine Bk.drw ?_) | (with_reducible refine Bk.al ?_ _))) : Bk _ (w1.heap.size + 1 + 1) 3 (zs (List.replicate n 0)).toArray).bel hb2
            try go_wp2_with fail
            refine hK.out _ _ ?_ (fun hH4 => ?_)
            · (try dsimp only); exact KS.out _ (by repeat (first | exact Bel.rf | (with_reducible refine Bel.drwN ?_ _) | (with_reducible refine Bel.drw ?_) | (with_reducible refine Bel.al ?_ _) | ((with_reducible refine Bel.st2 ?_ ?_ _); (first | exact Nat.le_refl _ | exact Nat.le_add_right _ _ | (simp; done) | (simp; omega) | (have := hb2.size; simp at *; omega))) | (refine Bel.tr ?_ hb2)))
            clear hK K hH3
            try simp only [Act.put, List.setIfInBounds_toArray, List.set_cons_zero, List.set_cons_succ]
            refine wpAnyH_take (i := 7) (oi := ⟨some 30, .build 32 #[(0, .tmp 25), (1, .tmp 29)], 32, "word.go:74", #[⟨2, .data⟩, ⟨6, .data⟩], none⟩) (v := ?_) rfl (by kernel_rfl) (by kernel_rfl) (by kernel_rfl) (fun _ _ _ h => h) (Or.inl ⟨by first | kernel_rfl | rfl, ?_⟩) (by assumption) ?_
            rotate_left
            · (intro w hSw; (try dsimp only at hSw); go_simp; try with_reducible rfl)
            try simp only [Act.put, List.setIfInBounds_toArray, List.set_cons_zero, List.set_cons_succ]
            refine wpAnyH_ready (rs := [9]) (by kernel_rfl) (by simp) ?_
            refine AllReadyH.cons (o := ⟨none, .store 32 (.tmp 8) (.tmp 30), 0, "word.go:74", #[⟨8, .data⟩, ⟨7, .data⟩, ⟨6, .chain⟩, ⟨0, .phase⟩, ⟨1, .phase⟩, ⟨2, .phase⟩, ⟨3, .phase⟩, ⟨4, .phase⟩, ⟨5, .phase⟩, ⟨6, .phase⟩, ⟨7, .phase⟩, ⟨8, .phase⟩], none⟩) rfl (fun K hK => ?_) (AllReadyH.nil)
            · go_simp
              try go_wp2_with fail
              refine hK.out _ _ ?_ (fun hH5 => ?_)
              · (try dsimp only); exact KS.out _ (by repeat (first | exact Bel.rf | (with_reducible refine Bel.drwN ?_ _) | (with_reducible refine Bel.drw ?_) | (with_reducible refine Bel.al ?_ _) | ((with_reducible refine Bel.st2 ?_ ?_ _); (first | exact Nat.le_refl _ | exact Nat.le_add_right _ _ | (simp; done) | (simp; omega) | (have := hb2.size; simp at *; omega))) | (refine Bel.tr ?_ hb2)))
              clear hK K hH4
              try simp only [Act.put, List.setIfInBounds_toArray, List.set_cons_zero, List.set_cons_succ]
              refine wpAnyH_done (by kernel_rfl) ?_ _
              refine NoPanic.normal ?_
              go_wp2_with fail
              go_meet
              have S2 := hb2.size
              (try simp only [World.size_alloc, World.size_drew] at S2 hba)
              obtain ⟨_, e9, hlb, _⟩ := hbz.2 (by omega)
              cases e9
              have hlb2 : bA < x2.heap.size := hlb
              exact ⟨w1.heap.size, w1.heap.size + 1 + 1, bA, _, rfl, rfl, ((HQ2).st 0 _).st 1 _, (HS2.far (by show (w1.heap.size + 1 + 1) ≠ w1.heap.size; omega) _).far (by show (w1.heap.size + 1 + 1) ≠ w1.heap.size; omega) _, (hbz.bel Bel.rf).ch (((Ch.rf (g := w1.heap.size)).st 0 _).st 1 _) (fun ad e => by cases e; show bA ≠ w1.heap.size; omega), by omega, by omega, by omega, by omega, by omega, (by repeat (first | exact Bel.rf | (with_reducible refine Bel.drwN ?_ _) | (with_reducible refine Bel.drw ?_) | (with_reducible refine Bel.al ?_ _) | ((with_reducible refine Bel.st2 ?_ ?_ _); (first | exact Nat.le_refl _ | exact Nat.le_add_right _ _ | (simp; done) | (simp; omega) | (have := hb2.size; simp at *; omega))) | (refine Bel.tr ?_ hb2)))⟩
        · go_simp
          go_at_call 42; refine (RP.out (w1.heap.size + 1) _ (((by repeat (first | (refine Bk.nq _ _ _ ?_; simp; done) | (with_reducible refine Bk.drwN ?_ _) | (with_reducible refine Bk.drw ?_) | (with_reducible refine Bk.al ?_ _))) : Bk _ (w1.heap.size + 1) 3 #[.int .i64 4]).cell 0)).mono ?_; rintro e x2 ⟨bA, rfl, hba, hbz, hb2⟩; have HQ2 : Bk x2 w1.heap.size 32 #[.slice none 0 0, .slice none 0 0] := ((by repeat (first | (refine Bk.nq _ _ _ ?_; simp; done) | (with_reducible refine Bk.drwN ?_ _) | (with_reducible refine Bk.drw ?_) | (with_reducible refine Bk.al ?_ _))) : Bk _ w1.heap.size 32 #[.slice none 0 0, .slice none 0 0]).bel hb2; have y0 := HQ2.cell 0; have y1 := HQ2.cell 1; have z0 := HQ2.fr 0; have z1 := HQ2.fr 1; simp only [List.getElem?_toArray, List.getElem?_cons_zero, List.getElem?_cons_succ] at y0 y1; have zb0 : ∀ o, (x2.alloc o).frozen? (⟨w1.heap.size, 0, none⟩ : Addr) = false := fun o => (HQ2.al o).fr 0; have zb1 : ∀ o, (x2.alloc o).frozen? (⟨w1.heap.size, 1, none⟩ : Addr) = false := fun o => (HQ2.al o).fr 1; have yb0 : ∀ o, (x2.alloc o).cell? (⟨w1.heap.size, 0, none⟩ : Addr) = some (.slice none 0 0) := fun o => (HQ2.al o).cell 0; have yb1 : ∀ o, (x2.alloc o).cell? (⟨w1.heap.size, 1, none⟩ : Addr) = some (.slice none 0 0) := fun o => (HQ2.al o).cell 1
          try go_wp2_with fail
          refine hK.out _ _ ?_ (fun hH3 => ?_)
          · (try dsimp only); exact KS.out _ (by repeat (first | exact Bel.rf | (with_reducible refine Bel.drwN ?_ _) | (with_reducible refine Bel.drw ?_) | (with_reducible refine Bel.al ?_ _) | ((with_reducible refine Bel.st2 ?_ ?_ _); (first | exact Nat.le_refl _ | exact Nat.le_add_right _ _ | (simp; done) | (simp; omega) | (have := hb2.size; simp at *; omega))) | (refine Bel.tr ?_ hb2)))
          clear hK K hH2
          try simp only [Act.put, List.setIfInBounds_toArray, List.set_cons_zero, List.set_cons_succ]
          refine wpAnyH_ready (rs := [2]) (by kernel_rfl) (by simp) ?_
          refine AllReadyH.cons (o := ⟨some 25, .makeSlice 22 (.tmp 24) (.tmp 24), 22, "word.go:74", #[⟨1, .data⟩, ⟨1, .data⟩], none⟩) rfl (fun K hK => ?_) (AllReadyH.nil)
          · refine step_make _ rfl (.tmp 24) (.tmp 24) 22 rfl 3 i0 (.int .i64 0) 1 Try.underlying22 HI.out.1 HI.out.2.1 HI.out.2.2.1 .i64 .i64 _ _ n n rfl rfl rfl rfl (by omega) (by rw [HI.out.2.2.2]; omega) (by omega) ?_; rw [made_i64]
            try go_wp2_with fail
            refine hK.out _ _ ?_ (fun hH4 => ?_)
            · (try dsimp only); exact KS.out _ (by repeat (first | exact Bel.rf | (with_reducible refine Bel.drwN ?_ _) | (with_reducible refine Bel.drw ?_) | (with_reducible refine Bel.al ?_ _) | ((with_reducible refine Bel.st2 ?_ ?_ _); (first | exact Nat.le_refl _ | exact Nat.le_add_right _ _ | (simp; done) | (simp; omega) | (have := hb2.size; simp at *; omega))) | (refine Bel.tr ?_ hb2)))
            clear hK K hH3
            try simp only [Act.put, List.setIfInBounds_toArray, List.set_cons_zero, List.set_cons_succ]
            refine wpAnyH_take (i := 7) (oi := ⟨some 30, .build 32 #[(0, .tmp 25), (1, .tmp 29)], 32, "word.go:74", #[⟨2, .data⟩, ⟨6, .data⟩], none⟩) (v := ?_) rfl (by kernel_rfl) (by kernel_rfl) (by kernel_rfl) (fun _ _ _ h => h) (Or.inl ⟨by first | kernel_rfl | rfl, ?_⟩) (by assumption) ?_
            rotate_left
            · (intro w hSw; (try dsimp only at hSw); go_simp; try with_reducible rfl)
            try simp only [Act.put, List.setIfInBounds_toArray, List.set_cons_zero, List.set_cons_succ]
            refine wpAnyH_ready (rs := [9]) (by kernel_rfl) (by simp) ?_
            refine AllReadyH.cons (o := ⟨none, .store 32 (.tmp 8) (.tmp 30), 0, "word.go:74", #[⟨8, .data⟩, ⟨7, .data⟩, ⟨6, .chain⟩, ⟨0, .phase⟩, ⟨1, .phase⟩, ⟨2, .phase⟩, ⟨3, .phase⟩, ⟨4, .phase⟩, ⟨5, .phase⟩, ⟨6, .phase⟩, ⟨7, .phase⟩, ⟨8, .phase⟩], none⟩) rfl (fun K hK => ?_) (AllReadyH.nil)
            · go_simp
              try go_wp2_with fail
              refine hK.out _ _ ?_ (fun hH5 => ?_)
              · (try dsimp only); exact KS.out _ (by repeat (first | exact Bel.rf | (with_reducible refine Bel.drwN ?_ _) | (with_reducible refine Bel.drw ?_) | (with_reducible refine Bel.al ?_ _) | ((with_reducible refine Bel.st2 ?_ ?_ _); (first | exact Nat.le_refl _ | exact Nat.le_add_right _ _ | (simp; done) | (simp; omega) | (have := hb2.size; simp at *; omega))) | (refine Bel.tr ?_ hb2)))
              clear hK K hH4
              try simp only [Act.put, List.setIfInBounds_toArray, List.set_cons_zero, List.set_cons_succ]
              refine wpAnyH_done (by kernel_rfl) ?_ _
              refine NoPanic.normal ?_
              go_wp2_with fail
              go_meet
              have S2 := hb2.size
              (try simp only [World.size_alloc, World.size_drew] at S2 hba)
              obtain ⟨_, e9, hlb, _⟩ := hbz.2 (by omega)
              cases e9
              have hlb2 : bA < x2.heap.size := hlb
              exact ⟨w1.heap.size, x2.heap.size, bA, _, rfl, rfl, ((HQ2.al _).st 0 _).st 1 _, ((Bk.nw _ _ _).far (by show x2.heap.size ≠ w1.heap.size; omega) _).far (by show x2.heap.size ≠ w1.heap.size; omega) _, (hbz.bel (Bel.rf.al _)).ch (((Ch.rf (g := w1.heap.size)).st 0 _).st 1 _) (fun ad e => by cases e; show bA ≠ w1.heap.size; omega), by omega, by omega, by omega, by omega, by omega, (by repeat (first | exact Bel.rf | (with_reducible refine Bel.drwN ?_ _) | (with_reducible refine Bel.drw ?_) | (with_reducible refine Bel.al ?_ _) | ((with_reducible refine Bel.st2 ?_ ?_ _); (first | exact Nat.le_refl _ | exact Nat.le_add_right _ _ | (simp; done) | (simp; omega) | (have := hb2.size; simp at *; omega))) | (refine Bel.tr ?_ hb2)))⟩
  case rest =>
    obtain ⟨q, sA, bA, wx, hwx, rfl, hk, hs, hb, nqs, nbs, hs1, hq1, hbA, hbx⟩ := hcut
    subst hwx
    have hlw : w.heap.size + 1 < w1.heap.size := HR1.out.lt
    have hlc : hco < w1.heap.size := HC1.out.lt
    have HKX : Hid (∀ W, Ch sA wx W → Bk W q 32 #[.slice (some ⟨sA, 0, none⟩) n n, .slice (some ⟨bA, 0, none⟩) n n] ∧ Bk W hco 3 (zs L).toArray ∧ Bk W w.heap.size 28 #[.int .i64 k, .int .i64 b, .int .i64 g, .int .i64 (m : Int), .int .i64 (n : Int), .slice A nc cc] ∧ Bk W (w.heap.size + 1) 32 #[.slice none 0 0, .slice none 0 0] ∧ Zi W (some ⟨bA, 0, none⟩) n (List.replicate n 4) ∧ Zi W A nc C) := fun W hW =>
      ⟨hW.bk hk nqs, hW.bk (HC1.out.bel hbx) (by omega), hW.bk (HK1.out.bel hbx) (by omega), hW.bk (HR1.out.bel hbx) (by omega), hb.ch hW (fun ad e => by cases e; exact nbs), (by
        rcases Nat.eq_zero_or_pos nc with h0 | h0
        · exact ⟨HZ.out.1, fun h => by omega⟩
        · refine (HZ.out.bel (HW1.out.tr hbx)).ch hW (fun ad e e2 => ?_)
          subst e
          obtain ⟨ad', e3, hlt, _⟩ := HZ.out.2 h0
          cases e3
          omega)⟩
    have HS0 : Hid (Bk wx sA 3 (zs (fil (sys k C X m n) 0)).toArray) := by show Bk _ _ _ _; rw [fil_zero, sys_len]; exact hs
    have HBX : Hid (Bel w wx ∧ w.heap.size ≤ sA ∧ w.heap.size + 1 < sA ∧ w.heap.size + 1 < bA ∧ w.heap.size + 1 < q) := ⟨HW1.out.tr hbx, by omega, by omega, by omega, by omega⟩
    obtain ⟨SY, hSY⟩ : ∃ S, sys k C X m n = S := ⟨_, rfl⟩
    have HYL : Hid (SY.length = n) := by show _ = _; rw [← hSY]; exact sys_len _ _ _ _ _
    have HYA : Hid (∀ p, p < n → SY.getD p 0 = (sym C (L.getD p 0) : Int)) := fun p hp => by rw [← hSY, sys_at _ _ _ _ _ _ hp, ← HLE.out, cds_at _ _ _ _ _ hp]
    have HSY := Lib.hid hSY
    rw [hSY] at HS0
    clear hk hs hb hbx hSY
    go_wp2
    go_loopw [33] (fun s33 wr => ∃ (i : Nat) (V : World), V = wr ∧ i ≤ n ∧ s33 = .int .i64 (i : Int) ∧ Bk wr sA 3 (zs (fil SY i)).toArray ∧ Ch sA wx wr) (fun s33 _ => n - (intOf s33).toNat)
    case atStart => exact ⟨0, _, rfl, by omega, rfl, HS0.out.bel (by repeat (first | exact Bel.rf | (with_reducible refine Bel.drwN ?_ _) | (with_reducible refine Bel.drw ?_) | (with_reducible refine Bel.al ?_ _))), Ch.of_bel (by repeat (first | exact Bel.rf | (with_reducible refine Bel.drwN ?_ _) | (with_reducible refine Bel.drw ?_) | (with_reducible refine Bel.al ?_ _)))⟩
    case round =>
      obtain ⟨i, wr, hwr, hi, rfl, hsr, hch⟩ := hrel
      subst hwr
      have HS := Lib.hid hsr
      have HC := Lib.hid hch
      obtain ⟨e1, e2, e3, e4, e5, e6⟩ := HKX.out wr hch
      rcases Nat.lt_or_ge i n with hlt | hge
      · have x1 := e2.cell i
        rw [List.getElem?_toArray, zs_at (by rw [HLL.out]; exact hlt)] at x1
        have y5 := e3.cell 5
        have z0 := e1.cell 0
        simp only [List.getElem?_toArray, List.getElem?_cons_zero, List.getElem?_cons_succ] at y5 z0
        have hya := HYA.out i hlt
        obtain ⟨x, hx0⟩ : ∃ x, L.getD i 0 = x := ⟨_, rfl⟩
        rw [hx0] at x1 hya
        have HE6 := Lib.hid e6
        have HYY := Lib.hid hya
        have ii : (i : Int) < (n : Int) := by omega
        have i0 : (0 : Int) ≤ (i : Int) := by omega
        have HG : Hid (∀ W, Bk W sA 3 (zs (fil SY i)).toArray → (∃ y, W.cell? (⟨sA, i, none⟩ : Addr) = some y) ∧ W.frozen? (⟨sA, i, none⟩ : Addr) = false) := fun W hW => by
          have e := zs_at (L := fil SY i) (j := i) (by rw [fil_len _ _ (by rw [HYL.out]; omega), HYL.out]; exact hlt)
          exact ⟨⟨.int .i64 ((fil SY i).getD i 0), by rw [hW.cell i, List.getElem?_toArray]; exact e⟩, hW.fr _⟩
        have HN : Hid ((zs (fil SY i)).toArray.setIfInBounds i (.int .i64 (SY.getD i 0)) = (zs (fil SY (i + 1))).toArray) := by
          show _ = _
          rw [← fil_set SY i (by rw [HYL.out]; exact hlt)]; simp [zs]
        clear hsr hch e1 e2 e3 e4 e5 e6 hya hx0
        go_wp2_with fail
        go_at_call 43
        refine (BS.out x _ (HE6.out.bel (by repeat (first | exact Bel.rf | (with_reducible refine Bel.drwN ?_ _) | (with_reducible refine Bel.drw ?_) | (with_reducible refine Bel.al ?_ _))))).mono ?_
        rintro e w5 ⟨pos, f, rfl, hp1, hp2, hp3, hf, hb5⟩
        have hwr5 : Bel wr w5 := Bel.tr (by repeat (first | exact Bel.rf | (with_reducible refine Bel.drwN ?_ _) | (with_reducible refine Bel.drw ?_) | (with_reducible refine Bel.al ?_ _))) hb5
        have HS5 := Lib.hid (HS.out.bel hwr5)
        have HC5 : Hid (Ch sA wx w5) := HC.out.tr (Ch.of_bel hwr5)
        have z5 := hwr5.kp z0
        obtain ⟨⟨y9, gc⟩, gf⟩ := HG.out w5 HS5.out
        have hnc := HCL.out
        rcases f with _ | _
        · have hsym : sym C x = pos := sym_one HCV.out x pos (by omega) (fun j hj => by have := hp2 j hj; omega) (fun j h1 h2 => by
            have h3 := hp3 j h1 (by omega)
            rcases Nat.lt_or_ge pos j with h4 | h4
            · have h5 := cv_lt HCV.out h4 h2
              have h6 := hp3 pos (Nat.le_refl _) (by omega)
              omega
            · obtain rfl : j = pos := by omega
              have : ¬ (j < nc ∧ C.getD j 0 = x) := fun h => by rw [decide_eq_true h] at hf; cases hf
              have : C.getD j 0 ≠ x := fun h => this ⟨by omega, h⟩
              omega)
          have HV : Hid (SY.getD i 0 = (pos : Int)) := by show _ = _; rw [HYY.out, hsym]
          clear hp1 hp2 hp3 hf hb5 hwr5 hsym x1 y5 z0 hnc
          go_wp2
          go_roundw
          case rel => exact ⟨i + 1, _, rfl, by omega, by go_num, by rw [← HN.out, HV.out]; exact (HS5.out.st i _).bel (by repeat (first | exact Bel.rf | (with_reducible refine Bel.drwN ?_ _) | (with_reducible refine Bel.drw ?_) | (with_reducible refine Bel.al ?_ _))), (HC5.out.st i _).tr (Ch.of_bel (by repeat (first | exact Bel.rf | (with_reducible refine Bel.drwN ?_ _) | (with_reducible refine Bel.drw ?_) | (with_reducible refine Bel.al ?_ _))))⟩
          case measure => simp [intOf]; omega
        · have hpx : pos < nc ∧ C.getD pos 0 = x := of_decide_eq_true hf.symm
          have hsym : sym C x = pos + 1 := sym_one HCV.out x (pos + 1) (by omega) (fun j hj => by
            rcases Nat.lt_or_ge j pos with h4 | h4
            · have := hp2 j h4; omega
            · rw [show j = pos by omega, hpx.2]; exact Int.le_refl _) (fun j h1 h2 => by
            have h5 := cv_lt HCV.out (show pos < j by omega) h2
            rw [hpx.2] at h5; exact h5)
          have HV : Hid (SY.getD i 0 = (pos : Int) + 1) := by show _ = _; rw [HYY.out, hsym]; rfl
          have hp15 : (pos : Int) ≤ 15 := by have := HCV.out.1; omega
          clear hp1 hp2 hp3 hf hb5 hwr5 hsym x1 y5 z0 hnc hpx
          go_wp2
          go_roundw
          case rel => exact ⟨i + 1, _, rfl, by omega, by go_num, by rw [← HN.out, HV.out]; exact (HS5.out.st i _).bel (by repeat (first | exact Bel.rf | (with_reducible refine Bel.drwN ?_ _) | (with_reducible refine Bel.drw ?_) | (with_reducible refine Bel.al ?_ _))), (HC5.out.st i _).tr (Ch.of_bel (by repeat (first | exact Bel.rf | (with_reducible refine Bel.drwN ?_ _) | (with_reducible refine Bel.drw ?_) | (with_reducible refine Bel.al ?_ _))))⟩
          case measure => simp [intOf]; omega
      · obtain rfl : i = n := by omega
        rw [← HYL.out, fil_all] at hsr
        have z0 := e1.cell 0
        have z1 := e1.cell 1
        have r0 := e4.cell 0
        have r1 := e4.cell 1
        have g0 := e4.fr 0
        have g1 := e4.fr 1
        simp only [List.getElem?_toArray, List.getElem?_cons_zero, List.getElem?_cons_succ] at z0 z1 r0 r1
        have HE4 := Lib.hid e4
        have HSF := Lib.hid hsr
        have HE5 := Lib.hid e5
        have nq : ¬ q = w.heap.size + 1 := by have := HBX.out; omega
        have nq2 : ¬ w.heap.size + 1 = q := by have := HBX.out; omega
        have HFF : Hid (∀ u v, Bk ((wr.setCell ⟨w.heap.size + 1, 0, none⟩ u).setCell ⟨w.heap.size + 1, 1, none⟩ v) (w.heap.size + 1) 32 #[u, v] ∧ Zi ((wr.setCell ⟨w.heap.size + 1, 0, none⟩ u).setCell ⟨w.heap.size + 1, 1, none⟩ v) (some ⟨sA, 0, none⟩) i SY ∧ Zi ((wr.setCell ⟨w.heap.size + 1, 0, none⟩ u).setCell ⟨w.heap.size + 1, 1, none⟩ v) (some ⟨bA, 0, none⟩) i (List.replicate i 4) ∧ Bel w ((wr.setCell ⟨w.heap.size + 1, 0, none⟩ u).setCell ⟨w.heap.size + 1, 1, none⟩ v)) := fun u v => by
          obtain ⟨h1, h2, h3, h4, h5⟩ := HBX.out
          refine ⟨(HE4.out.st 0 u).st 1 v, zi_bk ((HSF.out.far (by show sA ≠ w.heap.size + 1; omega) u).far (by show sA ≠ w.heap.size + 1; omega) v) i HYL.out, HE5.out.ch (((Ch.rf (g := w.heap.size + 1)).st 0 u).st 1 v) (fun ad e => by cases e; show bA ≠ w.heap.size + 1; omega), ?_⟩
          exact Bel.st2 (by show w.heap.size ≤ w.heap.size + 1; omega) (Bel.st2 (by show w.heap.size ≤ w.heap.size + 1; omega) (Bel.ch h1 HC.out h2) u) v
        clear hsr hch e1 e2 e3 e4 e5 e6
        go_wp2
        exact bodyPost_ret (v := .tuple #[Wx i (some ⟨sA, 0, none⟩) (some ⟨bA, 0, none⟩) i i, .int .i64 0]) (results_wt Try.results13 _ _ (w.heap.size + 1) _ _ _ rfl rfl ((HFF.out _ _).1)) rfl ⟨some ⟨sA, 0, none⟩, some ⟨bA, 0, none⟩, i, i, rfl, by rw [HSY.out]; exact (HFF.out _ _).2.1, (HFF.out _ _).2.2.1, (HFF.out _ _).2.2.2, (fun _ ad e => by obtain ⟨h1, h2, h3, h4, h5⟩ := HBX.out; cases e; show w.heap.size ≤ sA; omega), (fun _ ad e => by obtain ⟨h1, h2, h3, h4, h5⟩ := HBX.out; cases e; show w.heap.size ≤ bA; omega)⟩
end Go.Proofs.Ytgdhgeongdenpaa.Wd
