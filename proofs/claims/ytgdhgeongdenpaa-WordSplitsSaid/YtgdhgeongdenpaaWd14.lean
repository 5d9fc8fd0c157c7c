/- word.Root of a valid scheme. -/
import Derived.Test.YtgdhgeongdenpaaWd12
namespace Go.Proofs.Ytgdhgeongdenpaa.Wd
open List (setIfInBounds_toArray set_cons_zero set_cons_succ)
open Go.ChangeShapes Go.WideShapes Go.RowKit Wo Sr Wi Ms
set_option linter.unusedVariables false
set_option linter.unusedSimpArgs false
/-- the word that holds everything -/
def SomeRo (n : Nat) (w : World) (e : Ending) (w' : World) : Prop := ∃ sA bA sc bc, e = .returned (.tuple #[Wx n sA bA sc bc, .int .i64 0]) ∧ Zi w' sA n (List.replicate n 0) ∧ Zi w' bA n (List.replicate n 0) ∧ Bel w w' ∧ Fz w sA n ∧ Fz w bA n
set_option maxHeartbeats 8000000 in
set_option maxRecDepth 100000 in
theorem root_word (k b g : Int) (m n : Nat) (A : Option Addr) (nc cc : Nat) (C : List Int) (hs : Sv k b g m n C) (w : World) (hz : Zi w A nc C) :
    Calls Try.prog 20 #[Sx k b g m n A nc cc] w (SomeRo n w) := by
  obtain ⟨i0, hi0, hz0, hz1, hz2⟩ := info_parts info_int
  have HI := Lib.hid (And.intro hi0 (And.intro hz0 (And.intro hz1 hz2)))
  clear hi0 hz0 hz1 hz2
  have CK : Hid (∀ W, Bel w W → Calls Try.prog 44 #[.agg #[.int .i64 k, .int .i64 b, .int .i64 g, .int .i64 (m : Int), .int .i64 (n : Int), .slice A nc cc]] W fun e w' => e = .returned (.int .i64 0) ∧ Bel W w') := fun W hW => wcheck_ok k b g m n A nc cc C hs W (hz.bel hW)
  have n1 := hs.n1
  have n8 := hs.n8
  have ni : (n : Int) ≤ 8 := by omega
  have ni1 : 1 ≤ (n : Int) := by omega
  have HB0 : Hid (Bk ((w.alloc (.cells #[.int .i64 k, .int .i64 b, .int .i64 g, .int .i64 (m : Int), .int .i64 (n : Int), .slice A nc cc] 28)).alloc (.cells #[.slice none 0 0, .slice none 0 0] 32)) w.heap.size 28 #[.int .i64 k, .int .i64 b, .int .i64 g, .int .i64 (m : Int), .int .i64 (n : Int), .slice A nc cc]) := (Bk.nw _ _ _).al _
  have HR0 : Hid (Bk ((w.alloc (.cells #[.int .i64 k, .int .i64 b, .int .i64 g, .int .i64 (m : Int), .int .i64 (n : Int), .slice A nc cc] 28)).alloc (.cells #[.slice none 0 0, .slice none 0 0] 32)) (w.heap.size + 1) 32 #[.slice none 0 0, .slice none 0 0]) := Bk.nq _ _ _ (by simp)
  have HW0 : Hid (Bel w ((w.alloc (.cells #[.int .i64 k, .int .i64 b, .int .i64 g, .int .i64 (m : Int), .int .i64 (n : Int), .slice A nc cc] 28)).alloc (.cells #[.slice none 0 0, .slice none 0 0] 32))) := (Bel.rf.al _).al _
  clear hs hz
  unfold Sx
  go_enter Try.func20, Try.ntmps20
  go_wp2_with fail
  go_at_call 44
  refine (CK.out _ (by repeat (first | exact Bel.rf | with_reducible refine Bel.drwN ?_ _ | with_reducible refine Bel.drw ?_ | with_reducible refine Bel.al ?_ _))).mono ?_
  rintro e w1 ⟨rfl, hb1⟩
  have HW1 : Hid (Bel w w1) := HW0.out.tr (Bel.tr (by repeat (first | exact Bel.rf | with_reducible refine Bel.drwN ?_ _ | with_reducible refine Bel.drw ?_ | with_reducible refine Bel.al ?_ _)) hb1)
  have HK1 := Lib.hid ((HB0.out.bel (by repeat (first | exact Bel.rf | with_reducible refine Bel.drwN ?_ _ | with_reducible refine Bel.drw ?_ | with_reducible refine Bel.al ?_ _))).bel hb1)
  have HR1 := Lib.hid ((HR0.out.bel (by repeat (first | exact Bel.rf | with_reducible refine Bel.drwN ?_ _ | with_reducible refine Bel.drw ?_ | with_reducible refine Bel.al ?_ _))).bel hb1)
  have q4 := HK1.out.cell 4
  have z0 := HR1.out.cell 0
  have z1 := HR1.out.cell 1
  have f0 := HR1.out.fr 0
  have f1 := HR1.out.fr 1
  simp only [List.getElem?_toArray, List.getElem?_cons_zero, List.getElem?_cons_succ] at q4 z0 z1
  have KS : Hid (∀ W, Bk W w.heap.size 28 #[.int .i64 k, .int .i64 b, .int .i64 g, .int .i64 (m : Int), .int .i64 (n : Int), .slice A nc cc] → W.cell? (⟨w.heap.size, 4, none⟩ : Addr) = some (.int .i64 (n : Int))) := fun W h => by
    have u := h.cell 4
    simp only [List.getElem?_toArray, List.getElem?_cons_zero, List.getElem?_cons_succ] at u
    exact u
  have lw1 : w.heap.size + 1 < w1.heap.size := HR1.out.lt
  have ya0 : ∀ o1 o2, ((w1.alloc o1).alloc o2).cell? (⟨w.heap.size + 1, 0, none⟩ : Addr) = some (.slice none 0 0) := fun o1 o2 => ((HR1.out.al o1).al o2).cell 0
  have ya1 : ∀ o1 o2, ((w1.alloc o1).alloc o2).cell? (⟨w.heap.size + 1, 1, none⟩ : Addr) = some (.slice none 0 0) := fun o1 o2 => ((HR1.out.al o1).al o2).cell 1
  have yf0 : ∀ o1 o2, ((w1.alloc o1).alloc o2).frozen? (⟨w.heap.size + 1, 0, none⟩ : Addr) = false := fun o1 o2 => ((HR1.out.al o1).al o2).fr 0
  have yf1 : ∀ o1 o2, ((w1.alloc o1).alloc o2).frozen? (⟨w.heap.size + 1, 1, none⟩ : Addr) = false := fun o1 o2 => ((HR1.out.al o1).al o2).fr 1
  clear hb1
  go_upto_region 4 with fail
  refine wp_region_noPanic ?_
  refine wp_region_held_drew (S := fun W => W.cell? (⟨w.heap.size, 4, none⟩ : Addr) = some (.int .i64 (n : Int))) (by kernel_rfl) ?_ (fun hH0 => ?_)
  · (try dsimp only); exact KS.out _ (HK1.out.bel (by repeat (first | exact Bel.rf | with_reducible refine Bel.drwN ?_ _ | with_reducible refine Bel.drw ?_ | with_reducible refine Bel.al ?_ _)))
  refine wpAnyH_take (i := 0) (oi := ⟨some 11, .fieldAddr 28 (.tmp 1) 2, 0, "word.go:90", #[], none⟩) (v := ?_) rfl (by kernel_rfl) (by kernel_rfl) (by kernel_rfl) (fun _ _ _ h => h) (Or.inl ⟨by kernel_rfl, ?_⟩) (by assumption) ?_
  rotate_left
  · (intro w hSw; (try dsimp only at hSw); go_simp; try with_reducible rfl)
  try simp only [Act.put, setIfInBounds_toArray, set_cons_zero, set_cons_succ]
  refine wpAnyH_take (i := 1) (oi := ⟨some 12, .load 3 (.tmp 11), 3, "word.go:90", #[⟨0, .data⟩], none⟩) (v := ?_) rfl (by kernel_rfl) (by kernel_rfl) (by kernel_rfl) (fun _ _ _ h => h) (Or.inl ⟨by kernel_rfl, ?_⟩) (by assumption) ?_
  rotate_left
  · (intro w hSw; (try dsimp only at hSw); go_simp; try with_reducible rfl)
  try simp only [Act.put, setIfInBounds_toArray, set_cons_zero, set_cons_succ]
  refine wpAnyH_take (i := 3) (oi := ⟨some 14, .fieldAddr 28 (.tmp 1) 2, 0, "word.go:90", #[], none⟩) (v := ?_) rfl (by kernel_rfl) (by kernel_rfl) (by kernel_rfl) (fun _ _ _ h => h) (Or.inl ⟨by kernel_rfl, ?_⟩) (by assumption) ?_
  rotate_left
  · (intro w hSw; (try dsimp only at hSw); go_simp; try with_reducible rfl)
  try simp only [Act.put, setIfInBounds_toArray, set_cons_zero, set_cons_succ]
  refine wpAnyH_take (i := 4) (oi := ⟨some 15, .load 3 (.tmp 14), 3, "word.go:90", #[⟨3, .data⟩], none⟩) (v := ?_) rfl (by kernel_rfl) (by kernel_rfl) (by kernel_rfl) (fun _ _ _ h => h) (Or.inl ⟨by kernel_rfl, ?_⟩) (by assumption) ?_
  rotate_left
  · (intro w hSw; (try dsimp only at hSw); go_simp; try with_reducible rfl)
  try simp only [Act.put, setIfInBounds_toArray, set_cons_zero, set_cons_succ]
  refine wpAnyH_ready (rs := [2, 5]) (by kernel_rfl) (by simp) ?_
  refine AllReadyH.cons (o := ⟨some 13, .makeSlice 22 (.tmp 12) (.tmp 12), 22, "word.go:90", #[⟨1, .data⟩, ⟨1, .data⟩], none⟩) rfl (fun K hK => ?_) (AllReadyH.cons (o := ⟨some 16, .makeSlice 22 (.tmp 15) (.tmp 15), 22, "word.go:90", #[⟨4, .data⟩, ⟨4, .data⟩], none⟩) rfl (fun K hK => ?_) (AllReadyH.nil))
  · refine step_make _ rfl (.tmp 12) (.tmp 12) 22 rfl 3 i0 (.int .i64 0) 1 Try.underlying22 HI.out.1 HI.out.2.1 HI.out.2.2.1 .i64 .i64 _ _ n n rfl rfl rfl rfl (by omega) (by rw [HI.out.2.2.2]; omega) (by omega) ?_; rw [made_i64]
    try go_wp2_with fail
    refine hK.out _ _ ?_ (fun hH1 => ?_)
    · (try dsimp only); exact KS.out _ (HK1.out.bel (by repeat (first | exact Bel.rf | with_reducible refine Bel.drwN ?_ _ | with_reducible refine Bel.drw ?_ | with_reducible refine Bel.al ?_ _)))
    clear hK K hH0
    try simp only [Act.put, setIfInBounds_toArray, set_cons_zero, set_cons_succ]
    refine wpAnyH_ready (rs := [5]) (by kernel_rfl) (by simp) ?_
    refine AllReadyH.cons (o := ⟨some 16, .makeSlice 22 (.tmp 15) (.tmp 15), 22, "word.go:90", #[⟨4, .data⟩, ⟨4, .data⟩], none⟩) rfl (fun K hK => ?_) (AllReadyH.nil)
    · refine step_make _ rfl (.tmp 15) (.tmp 15) 22 rfl 3 i0 (.int .i64 0) 1 Try.underlying22 HI.out.1 HI.out.2.1 HI.out.2.2.1 .i64 .i64 _ _ n n rfl rfl rfl rfl (by omega) (by rw [HI.out.2.2.2]; omega) (by omega) ?_; rw [made_i64]
      try go_wp2_with fail
      refine hK.out _ _ ?_ (fun hH2 => ?_)
      · (try dsimp only); exact KS.out _ (HK1.out.bel (by repeat (first | exact Bel.rf | with_reducible refine Bel.drwN ?_ _ | with_reducible refine Bel.drw ?_ | with_reducible refine Bel.al ?_ _)))
      clear hK K hH1
      try simp only [Act.put, setIfInBounds_toArray, set_cons_zero, set_cons_succ]
      refine wpAnyH_take (i := 6) (oi := ⟨some 17, .build 32 #[(0, .tmp 13), (1, .tmp 16)], 32, "word.go:90", #[⟨2, .data⟩, ⟨5, .data⟩], none⟩) (v := ?_) rfl (by kernel_rfl) (by kernel_rfl) (by kernel_rfl) (fun _ _ _ h => h) (Or.inl ⟨by kernel_rfl, ?_⟩) (by assumption) ?_
      rotate_left
      · (intro w hSw; (try dsimp only at hSw); go_simp; try with_reducible rfl)
      try simp only [Act.put, setIfInBounds_toArray, set_cons_zero, set_cons_succ]
      refine wpAnyH_ready (rs := [7]) (by kernel_rfl) (by simp) ?_
      refine AllReadyH.cons (o := ⟨none, .store 32 (.tmp 2) (.tmp 17), 0, "word.go:90", #[⟨6, .data⟩, ⟨0, .phase⟩, ⟨1, .phase⟩, ⟨2, .phase⟩, ⟨3, .phase⟩, ⟨4, .phase⟩, ⟨5, .phase⟩, ⟨6, .phase⟩], none⟩) rfl (fun K hK => ?_) (AllReadyH.nil)
      · go_simp
        try go_wp2_with fail
        refine hK.out _ _ ?_ (fun hH3 => ?_)
        · (try dsimp only); exact KS.out _ (((HK1.out.bel (by repeat (first | exact Bel.rf | with_reducible refine Bel.drwN ?_ _ | with_reducible refine Bel.drw ?_ | with_reducible refine Bel.al ?_ _))).far (by dsimp only; omega) _).far (by dsimp only; omega) _)
        clear hK K hH2
        try simp only [Act.put, setIfInBounds_toArray, set_cons_zero, set_cons_succ]
        refine wpAnyH_take (i := 8) (oi := ⟨some 3, .assign (.const (.int IntKind.i64 0)), 33, "word.go:90", #[⟨7, .chain⟩, ⟨0, .phase⟩, ⟨1, .phase⟩, ⟨2, .phase⟩, ⟨3, .phase⟩, ⟨4, .phase⟩, ⟨5, .phase⟩, ⟨6, .phase⟩, ⟨7, .phase⟩], none⟩) (v := ?_) rfl (by kernel_rfl) (by kernel_rfl) (by kernel_rfl) (fun _ _ _ h => h) (Or.inl ⟨by kernel_rfl, ?_⟩) (by assumption) ?_
        rotate_left
        · (intro w hSw; (try dsimp only at hSw); go_simp; try with_reducible rfl)
        try simp only [Act.put, setIfInBounds_toArray, set_cons_zero, set_cons_succ]
        refine wpAnyH_done (by kernel_rfl) ?_ _
        refine NoPanic.normal ?_
        go_wp2_with fail
        exact bodyPost_ret (v := .tuple #[Wx n (some ⟨w1.heap.size, 0, none⟩) (some ⟨w1.heap.size + 1, 0, none⟩) n n, .int .i64 0]) (results_wt Try.results20 _ _ (w.heap.size + 1) _ _ _ rfl rfl (((HR1.out.bel (by repeat (first | exact Bel.rf | with_reducible refine Bel.drwN ?_ _ | with_reducible refine Bel.drw ?_ | with_reducible refine Bel.al ?_ _))).st 0 _).st 1 _)) rfl ⟨some ⟨w1.heap.size, 0, none⟩, some ⟨w1.heap.size + 1, 0, none⟩, n, n, rfl, zi_bk ((((by repeat (first | (refine Bk.nq _ _ _ ?_; simp; done) | with_reducible refine Bk.drwN ?_ _ | with_reducible refine Bk.drw ?_ | with_reducible refine Bk.al ?_ _)) : Bk _ w1.heap.size 3 (zs (List.replicate n 0)).toArray).far (by dsimp only; omega) _).far (by dsimp only; omega) _) n (by simp), zi_bk ((((by repeat (first | (refine Bk.nq _ _ _ ?_; simp; done) | with_reducible refine Bk.drwN ?_ _ | with_reducible refine Bk.drw ?_ | with_reducible refine Bk.al ?_ _)) : Bk _ (w1.heap.size + 1) 3 (zs (List.replicate n 0)).toArray).far (by dsimp only; omega) _).far (by dsimp only; omega) _) n (by simp), (by repeat (first | exact HW1.out | with_reducible refine Bel.drwN ?_ _ | with_reducible refine Bel.drw ?_ | with_reducible refine Bel.al ?_ _ | ((with_reducible refine Bel.st2 ?_ ?_ _); (first | exact Nat.le_add_right _ _ | (simp; done) | (simp; omega))))), (fun _ ad e => by cases e; dsimp only; omega), (fun _ ad e => by cases e; dsimp only; omega)⟩
  · refine step_make _ rfl (.tmp 15) (.tmp 15) 22 rfl 3 i0 (.int .i64 0) 1 Try.underlying22 HI.out.1 HI.out.2.1 HI.out.2.2.1 .i64 .i64 _ _ n n rfl rfl rfl rfl (by omega) (by rw [HI.out.2.2.2]; omega) (by omega) ?_; rw [made_i64]
    try go_wp2_with fail
    refine hK.out _ _ ?_ (fun hH1 => ?_)
    · (try dsimp only); exact KS.out _ (HK1.out.bel (by repeat (first | exact Bel.rf | with_reducible refine Bel.drwN ?_ _ | with_reducible refine Bel.drw ?_ | with_reducible refine Bel.al ?_ _)))
    clear hK K hH0
    try simp only [Act.put, setIfInBounds_toArray, set_cons_zero, set_cons_succ]
    refine wpAnyH_ready (rs := [2]) (by kernel_rfl) (by simp) ?_
    refine AllReadyH.cons (o := ⟨some 13, .makeSlice 22 (.tmp 12) (.tmp 12), 22, "word.go:90", #[⟨1, .data⟩, ⟨1, .data⟩], none⟩) rfl (fun K hK => ?_) (AllReadyH.nil)
    · refine step_make _ rfl (.tmp 12) (.tmp 12) 22 rfl 3 i0 (.int .i64 0) 1 Try.underlying22 HI.out.1 HI.out.2.1 HI.out.2.2.1 .i64 .i64 _ _ n n rfl rfl rfl rfl (by omega) (by rw [HI.out.2.2.2]; omega) (by omega) ?_; rw [made_i64]
      try go_wp2_with fail
      refine hK.out _ _ ?_ (fun hH2 => ?_)
      · (try dsimp only); exact KS.out _ (HK1.out.bel (by repeat (first | exact Bel.rf | with_reducible refine Bel.drwN ?_ _ | with_reducible refine Bel.drw ?_ | with_reducible refine Bel.al ?_ _)))
      clear hK K hH1
      try simp only [Act.put, setIfInBounds_toArray, set_cons_zero, set_cons_succ]
      refine wpAnyH_take (i := 6) (oi := ⟨some 17, .build 32 #[(0, .tmp 13), (1, .tmp 16)], 32, "word.go:90", #[⟨2, .data⟩, ⟨5, .data⟩], none⟩) (v := ?_) rfl (by kernel_rfl) (by kernel_rfl) (by kernel_rfl) (fun _ _ _ h => h) (Or.inl ⟨by kernel_rfl, ?_⟩) (by assumption) ?_
      rotate_left
      · (intro w hSw; (try dsimp only at hSw); go_simp; try with_reducible rfl)
      try simp only [Act.put, setIfInBounds_toArray, set_cons_zero, set_cons_succ]
      refine wpAnyH_ready (rs := [7]) (by kernel_rfl) (by simp) ?_
      refine AllReadyH.cons (o := ⟨none, .store 32 (.tmp 2) (.tmp 17), 0, "word.go:90", #[⟨6, .data⟩, ⟨0, .phase⟩, ⟨1, .phase⟩, ⟨2, .phase⟩, ⟨3, .phase⟩, ⟨4, .phase⟩, ⟨5, .phase⟩, ⟨6, .phase⟩], none⟩) rfl (fun K hK => ?_) (AllReadyH.nil)
      · go_simp
        try go_wp2_with fail
        refine hK.out _ _ ?_ (fun hH3 => ?_)
        · (try dsimp only); exact KS.out _ (((HK1.out.bel (by repeat (first | exact Bel.rf | with_reducible refine Bel.drwN ?_ _ | with_reducible refine Bel.drw ?_ | with_reducible refine Bel.al ?_ _))).far (by dsimp only; omega) _).far (by dsimp only; omega) _)
        clear hK K hH2
        try simp only [Act.put, setIfInBounds_toArray, set_cons_zero, set_cons_succ]
        refine wpAnyH_take (i := 8) (oi := ⟨some 3, .assign (.const (.int IntKind.i64 0)), 33, "word.go:90", #[⟨7, .chain⟩, ⟨0, .phase⟩, ⟨1, .phase⟩, ⟨2, .phase⟩, ⟨3, .phase⟩, ⟨4, .phase⟩, ⟨5, .phase⟩, ⟨6, .phase⟩, ⟨7, .phase⟩], none⟩) (v := ?_) rfl (by kernel_rfl) (by kernel_rfl) (by kernel_rfl) (fun _ _ _ h => h) (Or.inl ⟨by kernel_rfl, ?_⟩) (by assumption) ?_
        rotate_left
        · (intro w hSw; (try dsimp only at hSw); go_simp; try with_reducible rfl)
        try simp only [Act.put, setIfInBounds_toArray, set_cons_zero, set_cons_succ]
        refine wpAnyH_done (by kernel_rfl) ?_ _
        refine NoPanic.normal ?_
        go_wp2_with fail
        exact bodyPost_ret (v := .tuple #[Wx n (some ⟨w1.heap.size + 1, 0, none⟩) (some ⟨w1.heap.size, 0, none⟩) n n, .int .i64 0]) (results_wt Try.results20 _ _ (w.heap.size + 1) _ _ _ rfl rfl (((HR1.out.bel (by repeat (first | exact Bel.rf | with_reducible refine Bel.drwN ?_ _ | with_reducible refine Bel.drw ?_ | with_reducible refine Bel.al ?_ _))).st 0 _).st 1 _)) rfl ⟨some ⟨w1.heap.size + 1, 0, none⟩, some ⟨w1.heap.size, 0, none⟩, n, n, rfl, zi_bk ((((by repeat (first | (refine Bk.nq _ _ _ ?_; simp; done) | with_reducible refine Bk.drwN ?_ _ | with_reducible refine Bk.drw ?_ | with_reducible refine Bk.al ?_ _)) : Bk _ (w1.heap.size + 1) 3 (zs (List.replicate n 0)).toArray).far (by dsimp only; omega) _).far (by dsimp only; omega) _) n (by simp), zi_bk ((((by repeat (first | (refine Bk.nq _ _ _ ?_; simp; done) | with_reducible refine Bk.drwN ?_ _ | with_reducible refine Bk.drw ?_ | with_reducible refine Bk.al ?_ _)) : Bk _ w1.heap.size 3 (zs (List.replicate n 0)).toArray).far (by dsimp only; omega) _).far (by dsimp only; omega) _) n (by simp), (by repeat (first | exact HW1.out | with_reducible refine Bel.drwN ?_ _ | with_reducible refine Bel.drw ?_ | with_reducible refine Bel.al ?_ _ | ((with_reducible refine Bel.st2 ?_ ?_ _); (first | exact Nat.le_add_right _ _ | (simp; done) | (simp; omega))))), (fun _ ad e => by cases e; dsimp only; omega), (fun _ ad e => by cases e; dsimp only; omega)⟩
end Go.Proofs.Ytgdhgeongdenpaa.Wd
