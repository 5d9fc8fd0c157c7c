/- word.Split of valid words. -/
import Derived.Test.YtgdhgeongdenpaaWd8
namespace Go.Proofs.Ytgdhgeongdenpaa.Wd
open List (setIfInBounds_toArray set_cons_zero set_cons_succ)
open Go.ChangeShapes Go.WideShapes Go.RowKit Wo Sr Wi Ms
set_option linter.unusedVariables false
set_option linter.unusedSimpArgs false
theorem results_wwt {fn : Func} {p q r : Tmp} (h : fn.results = #[.cell p 32, .cell q 32, .tmp r]) (tmps : Array Value) (w : World) (g g2 : Nat) (a b a2 b2 c : Value)
    (hp : tmps.getD p undef = .pointer (some ⟨g, 0, none⟩)) (hq : tmps.getD q undef = .pointer (some ⟨g2, 0, none⟩)) (hr : tmps.getD r undef = c) (hg : Bk w g 32 #[a, b]) (hg2 : Bk w g2 32 #[a2, b2]) : (results fn tmps).run Try.prog w = .ok (.tuple #[.agg #[a, b], .agg #[a2, b2], c]) w := by
  have hp' : tmps[p]?.getD undef = .pointer (some ⟨g, 0, none⟩) := by simpa using hp
  have hq' : tmps[q]?.getD undef = .pointer (some ⟨g2, 0, none⟩) := by simpa using hq
  have hr' : tmps[r]?.getD undef = c := by simpa using hr
  have hl := run_loadVar_row (P := Try.prog) w g 32 32 #[a, b] (0, 0) _ hg Try.underlying32 rfl (by kernel_rfl)
  have hl2 := run_loadVar_row (P := Try.prog) w g2 32 32 #[a2, b2] (0, 0) _ hg2 Try.underlying32 rfl (by kernel_rfl)
  simp [results, h, hp', hq', hr', asAddr, hl, hl2]
theorem zi_ne {w : World} {A : Option Addr} {n : Nat} {L : List Int} (h : Zi w A n L) (hn : 1 ≤ n) {b : Nat} {t : TypeId} {a1 a2 : Option Addr} {n1 n2 c1 c2 : Nat} (hb : Bk w b t #[.slice a1 n1 c1, .slice a2 n2 c2]) : ∀ ad, A = some ad → ad.block ≠ b := by
  intro ad e hh
  obtain ⟨ad', e', _, hc⟩ := h.2 (by omega)
  obtain rfl : ad = ad' := by rw [e] at e'; exact Option.some.inj e'
  have h0 := hc 0 (by omega)
  have hb2 : w.heap[(ad.add 0).block]? = some (.cells #[.slice a1 n1 c1, .slice a2 n2 c2] t) := by rw [add_block, hh]; exact hb
  unfold World.cell? at h0
  rw [hb2] at h0
  have : ∀ k : Nat, (#[(.slice a1 n1 c1 : Value), .slice a2 n2 c2])[k]? ≠ some (.int .i64 (L.getD 0 0)) := fun k => by
    rcases k with _ | _ | k
    · simp
    · simp
    · simp
  dsimp only at h0
  split at h0
  · cases h0
  · exact this _ h0
/-- the two words of a split; or the error where the piece has all bits -/
def SomeSp (n p : Nat) (S B : List Int) (w : World) (e : Ending) (w' : World) : Prop :=
  (B.getD p 0 = 4 → e = .returned (.tuple #[.agg #[.slice none 0 0, .slice none 0 0], .agg #[.slice none 0 0, .slice none 0 0], .int .i64 4])) ∧
  (B.getD p 0 ≠ 4 → ∃ sA bA tA cA sc bc tc cc, e = .returned (.tuple #[Wx n sA bA sc bc, Wx n tA cA tc cc, .int .i64 0]) ∧ Zi w' sA n (S.set p (2 * S.getD p 0 + 0)) ∧ Zi w' bA n (B.set p (B.getD p 0 + 1)) ∧ Zi w' tA n (S.set p (2 * S.getD p 0 + 1)) ∧ Zi w' cA n (B.set p (B.getD p 0 + 1))) ∧ Bel w w'
set_option maxHeartbeats 8000000 in
set_option maxRecDepth 100000 in
theorem split_ok (k b g : Int) (m n : Nat) (A sA bA : Option Addr) (nc cc sc bc : Nat) (C S B : List Int) (hs : Sv k b g m n C) (hv : Wv n S B) (p : Nat) (hp : p < n) (w : World) (hz : Zi w A nc C) (hS : Zi w sA n S) (hB : Zi w bA n B) :
    Calls Try.prog 22 #[Sx k b g m n A nc cc, Wx n sA bA sc bc, .int .i64 (p : Int)] w (SomeSp n p S B w) := by
  have CK : Hid (∀ W, Bel w W → Calls Try.prog 52 #[.agg #[.int .i64 k, .int .i64 b, .int .i64 g, .int .i64 (m : Int), .int .i64 (n : Int), .slice A nc cc], .agg #[.slice sA n sc, .slice bA n bc]] W fun e w' => e = .returned (.bool true) ∧ Bel W w') := fun W hW => valid_ok k b g m n A sA bA nc cc sc bc C S B hs hv W (hz.bel hW) (hS.bel hW) (hB.bel hW)
  have L0 : Hid (∀ W, Bel w W → Calls Try.prog 59 #[.agg #[.slice sA n sc, .slice bA n bc], .int .i64 (p : Int), .int .i64 0] W (SomeW n (S.set p (2 * S.getD p 0 + 0)) (B.set p (B.getD p 0 + 1)) W)) := fun W hW => longer_ok sA bA n sc bc S B hs.n1 hs.n8 hv p hp 0 (.inl rfl) W (hS.bel hW) (hB.bel hW)
  have L1 : Hid (∀ W, Bel w W → Calls Try.prog 59 #[.agg #[.slice sA n sc, .slice bA n bc], .int .i64 (p : Int), .int .i64 1] W (SomeW n (S.set p (2 * S.getD p 0 + 1)) (B.set p (B.getD p 0 + 1)) W)) := fun W hW => longer_ok sA bA n sc bc S B hs.n1 hs.n8 hv p hp 1 (.inr rfl) W (hS.bel hW) (hB.bel hW)
  have n1 := hs.n1
  have n8 := hs.n8
  have pn : (p : Int) < (n : Int) := by omega
  have p0 : (0 : Int) ≤ (p : Int) := by omega
  have np0 : ¬ (p : Int) < 0 := by omega
  have npn : ¬ (n : Int) ≤ (p : Int) := by omega
  have dpn : decide ((n : Int) ≤ (p : Int)) = false := decide_eq_false npn
  have HBZ := Lib.hid hB
  have HB0 : Hid (Bk ((((w.alloc (.cells #[.int .i64 k, .int .i64 b, .int .i64 g, .int .i64 (m : Int), .int .i64 (n : Int), .slice A nc cc] 28)).alloc (.cells #[.slice sA n sc, .slice bA n bc] 32)).alloc (.cells #[.slice none 0 0, .slice none 0 0] 32)).alloc (.cells #[.slice none 0 0, .slice none 0 0] 32)) w.heap.size 28 #[.int .i64 k, .int .i64 b, .int .i64 g, .int .i64 (m : Int), .int .i64 (n : Int), .slice A nc cc] ∧ Bk ((((w.alloc (.cells #[.int .i64 k, .int .i64 b, .int .i64 g, .int .i64 (m : Int), .int .i64 (n : Int), .slice A nc cc] 28)).alloc (.cells #[.slice sA n sc, .slice bA n bc] 32)).alloc (.cells #[.slice none 0 0, .slice none 0 0] 32)).alloc (.cells #[.slice none 0 0, .slice none 0 0] 32)) (w.heap.size + 1) 32 #[.slice sA n sc, .slice bA n bc] ∧ Bk ((((w.alloc (.cells #[.int .i64 k, .int .i64 b, .int .i64 g, .int .i64 (m : Int), .int .i64 (n : Int), .slice A nc cc] 28)).alloc (.cells #[.slice sA n sc, .slice bA n bc] 32)).alloc (.cells #[.slice none 0 0, .slice none 0 0] 32)).alloc (.cells #[.slice none 0 0, .slice none 0 0] 32)) (w.heap.size + 1 + 1) 32 #[.slice none 0 0, .slice none 0 0] ∧ Bk ((((w.alloc (.cells #[.int .i64 k, .int .i64 b, .int .i64 g, .int .i64 (m : Int), .int .i64 (n : Int), .slice A nc cc] 28)).alloc (.cells #[.slice sA n sc, .slice bA n bc] 32)).alloc (.cells #[.slice none 0 0, .slice none 0 0] 32)).alloc (.cells #[.slice none 0 0, .slice none 0 0] 32)) (w.heap.size + 1 + 1 + 1) 32 #[.slice none 0 0, .slice none 0 0] ∧ Bel w ((((w.alloc (.cells #[.int .i64 k, .int .i64 b, .int .i64 g, .int .i64 (m : Int), .int .i64 (n : Int), .slice A nc cc] 28)).alloc (.cells #[.slice sA n sc, .slice bA n bc] 32)).alloc (.cells #[.slice none 0 0, .slice none 0 0] 32)).alloc (.cells #[.slice none 0 0, .slice none 0 0] 32))) := ⟨(((Bk.nw _ _ _).al _).al _).al _, ((Bk.nq _ _ _ (by simp)).al _).al _, (Bk.nq _ _ _ (by simp)).al _, Bk.nq _ _ _ (by simp), (((Bel.rf.al _).al _).al _).al _⟩
  obtain ⟨y, hy⟩ : ∃ y, B.getD p 0 = y := ⟨_, rfl⟩
  have HY := Lib.hid hy
  clear hs hv hz hS hB hy
  unfold Sx Wx
  go_enter Try.func22, Try.ntmps22
  go_wp2_with fail
  go_at_call 52
  refine (CK.out _ (by repeat (first | exact Bel.rf | with_reducible refine Bel.drwN ?_ _ | with_reducible refine Bel.drw ?_ | with_reducible refine Bel.al ?_ _))).mono ?_
  rintro e w1 ⟨rfl, hb1⟩
  have hc1 : Bel ((((w.alloc (.cells #[.int .i64 k, .int .i64 b, .int .i64 g, .int .i64 (m : Int), .int .i64 (n : Int), .slice A nc cc] 28)).alloc (.cells #[.slice sA n sc, .slice bA n bc] 32)).alloc (.cells #[.slice none 0 0, .slice none 0 0] 32)).alloc (.cells #[.slice none 0 0, .slice none 0 0] 32)) w1 := Bel.tr (by repeat (first | exact Bel.rf | with_reducible refine Bel.drwN ?_ _ | with_reducible refine Bel.drw ?_ | with_reducible refine Bel.al ?_ _)) hb1
  have HK : Hid (Bk w1 w.heap.size 28 #[.int .i64 k, .int .i64 b, .int .i64 g, .int .i64 (m : Int), .int .i64 (n : Int), .slice A nc cc] ∧ Bk w1 (w.heap.size + 1) 32 #[.slice sA n sc, .slice bA n bc] ∧ Bk w1 (w.heap.size + 1 + 1) 32 #[.slice none 0 0, .slice none 0 0] ∧ Bk w1 (w.heap.size + 1 + 1 + 1) 32 #[.slice none 0 0, .slice none 0 0] ∧ Bel w w1) := ⟨HB0.out.1.bel hc1, HB0.out.2.1.bel hc1, HB0.out.2.2.1.bel hc1, HB0.out.2.2.2.1.bel hc1, HB0.out.2.2.2.2.tr hc1⟩
  obtain ⟨k1, k2, k3, k4, hbw⟩ := HK.out
  obtain ⟨ad, e, _, hcc⟩ := (HBZ.out.bel hbw).2 (by omega)
  subst e
  have b1 := hcc p hp
  rw [HY.out] at b1
  have q4 := k1.cell 4
  have r0 := k2.cell 0
  have r1 := k2.cell 1
  have s0 := k3.cell 0
  have s1 := k3.cell 1
  have t0 := k4.cell 0
  have t1 := k4.cell 1
  have s2 := k3.fr 0
  have s3 := k3.fr 1
  have t2 := k4.fr 0
  have t3 := k4.fr 1
  simp only [List.getElem?_toArray, List.getElem?_cons_zero, List.getElem?_cons_succ] at q4 r0 r1 s0 s1 t0 t1
  have lw1 : w.heap.size + 1 + 1 + 1 < w1.heap.size := k4.lt
  clear hcc hb1 hc1 k1 k2 k3 k4 hbw
  by_cases h4 : y = 4
  · subst h4
    go_wp2
    exact bodyPost_ret (v := .tuple #[.agg #[.slice none 0 0, .slice none 0 0], .agg #[.slice none 0 0, .slice none 0 0], .int .i64 4]) (results_wwt Try.results22 _ _ (w.heap.size + 1 + 1) (w.heap.size + 1 + 1 + 1) _ _ _ _ _ rfl rfl rfl (by first | exact HK.out.2.2.1 | exact (((((HK.out.2.2.1.st 0 _).st 1 _).far (by dsimp only; omega) _).far (by dsimp only; omega) _))) (by first | exact HK.out.2.2.2.1 | exact (((HK.out.2.2.2.1.far (by dsimp only; omega) _).far (by dsimp only; omega) _).st 0 _).st 1 _)) rfl ⟨fun _ => rfl, fun h => absurd HY.out h, (by repeat (first | exact HK.out.2.2.2.2 | with_reducible refine Bel.drwN ?_ _ | with_reducible refine Bel.drw ?_ | with_reducible refine Bel.al ?_ _ | ((with_reducible refine Bel.st2 ?_ ?_ _); (first | exact Nat.le_add_right _ _ | (simp; done) | (simp; omega)))))⟩
  · have n4 : (y == 4) = false := by simp [h4]
    have KS : Hid (∀ W, Bk W (w.heap.size + 1) 32 #[.slice sA n sc, .slice (some ad) n bc] → W.cell? (⟨w.heap.size + 1, 0, none⟩ : Addr) = some (.slice sA n sc) ∧ W.cell? (⟨w.heap.size + 1, 1, none⟩ : Addr) = some (.slice (some ad) n bc)) := fun W h => by
      have u0 := h.cell 0
      have u1 := h.cell 1
      simp only [List.getElem?_toArray, List.getElem?_cons_zero, List.getElem?_cons_succ] at u0 u1
      exact ⟨u0, u1⟩
    have HN1 := Lib.hid n1
    go_wp2_with fail
    refine wp_region_noPanic ?_
    refine wp_region_held_drew (S := fun W => W.cell? (⟨w.heap.size + 1, 0, none⟩ : Addr) = some (.slice sA n sc) ∧ W.cell? (⟨w.heap.size + 1, 1, none⟩ : Addr) = some (.slice (some ad) n bc)) (by kernel_rfl) ?_ (fun hH0 => ?_)
    · (try dsimp only); exact KS.out _ (HK.out.2.1.bel (by repeat (first | exact Bel.rf | with_reducible refine Bel.drwN ?_ _ | with_reducible refine Bel.drw ?_ | with_reducible refine Bel.al ?_ _)))
    refine wpAnyH_take (i := 0) (oi := ⟨some 33, .load 32 (.tmp 4), 32, "word.go:130", #[], none⟩) (v := ?_) rfl (by kernel_rfl) (by kernel_rfl) (by kernel_rfl) (fun _ _ _ h => h) (Or.inl ⟨by kernel_rfl, ?_⟩) (by assumption) ?_
    rotate_left
    · (intro w hSw; (try dsimp only at hSw); obtain ⟨d1, d2⟩ := hSw; go_simp; try with_reducible rfl)
    try simp only [Act.put, setIfInBounds_toArray, set_cons_zero, set_cons_succ]
    refine wpAnyH_take (i := 1) (oi := ⟨some 34, .move (.tmp 2), 3, "word.go:130", #[], none⟩) (v := ?_) rfl (by kernel_rfl) (by kernel_rfl) (by kernel_rfl) (fun _ _ _ h => h) (Or.inl ⟨by kernel_rfl, ?_⟩) (by assumption) ?_
    rotate_left
    · (intro w hSw; (try dsimp only at hSw); obtain ⟨d1, d2⟩ := hSw; go_simp; try with_reducible rfl)
    try simp only [Act.put, setIfInBounds_toArray, set_cons_zero, set_cons_succ]
    refine wpAnyH_take (i := 3) (oi := ⟨some 36, .load 32 (.tmp 4), 32, "word.go:130", #[], none⟩) (v := ?_) rfl (by kernel_rfl) (by kernel_rfl) (by kernel_rfl) (fun _ _ _ h => h) (Or.inl ⟨by kernel_rfl, ?_⟩) (by assumption) ?_
    rotate_left
    · (intro w hSw; (try dsimp only at hSw); obtain ⟨d1, d2⟩ := hSw; go_simp; try with_reducible rfl)
    try simp only [Act.put, setIfInBounds_toArray, set_cons_zero, set_cons_succ]
    refine wpAnyH_take (i := 4) (oi := ⟨some 37, .move (.tmp 2), 3, "word.go:130", #[], none⟩) (v := ?_) rfl (by kernel_rfl) (by kernel_rfl) (by kernel_rfl) (fun _ _ _ h => h) (Or.inl ⟨by kernel_rfl, ?_⟩) (by assumption) ?_
    rotate_left
    · (intro w hSw; (try dsimp only at hSw); obtain ⟨d1, d2⟩ := hSw; go_simp; try with_reducible rfl)
    try simp only [Act.put, setIfInBounds_toArray, set_cons_zero, set_cons_succ]
    refine wpAnyH_ready (rs := [2]) (by kernel_rfl) (by simp) ?_
    refine AllReadyH.cons (o := ⟨some 35, .call { callee := Callee.value (.func 59), args := #[.tmp 33, .tmp 34, .const (.int IntKind.i64 0)], argTypes := #[32, 3, 3] }, 32, "word.go:130", #[⟨0, .data⟩, ⟨1, .data⟩], none⟩) rfl (fun K hK => ?_) (AllReadyH.nil)
    · go_simp
      go_at_call 59; refine (L0.out _ (HK.out.2.2.2.2.tr (by repeat (first | exact Bel.rf | with_reducible refine Bel.drwN ?_ _ | with_reducible refine Bel.drw ?_ | with_reducible refine Bel.al ?_ _)))).mono ?_; rintro e x1 ⟨sA1, bA1, sc1, bc1, rfl, za1, zb1, hb1⟩; unfold Wx; have HX1 := Lib.hid (And.intro za1 (And.intro zb1 (HK.out.2.2.2.2.tr (by repeat (first | exact Bel.rf | with_reducible refine Bel.drwN ?_ _ | with_reducible refine Bel.drw ?_ | with_reducible refine Bel.al ?_ _ | (refine Bel.tr ?_ hb1)))))); clear za1 zb1
      try go_wp2_with fail
      refine hK.out _ _ ?_ (fun hH1 => ?_)
      · (try dsimp only); exact KS.out _ (HK.out.2.1.bel (by repeat (first | exact Bel.rf | with_reducible refine Bel.drwN ?_ _ | with_reducible refine Bel.drw ?_ | with_reducible refine Bel.al ?_ _ | (refine Bel.tr ?_ hb1))))
      clear hK K hH0
      try simp only [Act.put, setIfInBounds_toArray, set_cons_zero, set_cons_succ]
      refine wpAnyH_ready (rs := [5]) (by kernel_rfl) (by simp) ?_
      refine AllReadyH.cons (o := ⟨some 38, .call { callee := Callee.value (.func 59), args := #[.tmp 36, .tmp 37, .const (.int IntKind.i64 1)], argTypes := #[32, 3, 3] }, 32, "word.go:130", #[⟨3, .data⟩, ⟨4, .data⟩, ⟨2, .chain⟩], none⟩) rfl (fun K hK => ?_) (AllReadyH.nil)
      · go_simp
        go_at_call 59; refine (L1.out _ (HK.out.2.2.2.2.tr (by repeat (first | exact Bel.rf | with_reducible refine Bel.drwN ?_ _ | with_reducible refine Bel.drw ?_ | with_reducible refine Bel.al ?_ _ | (refine Bel.tr ?_ hb1))))).mono ?_; rintro e x2 ⟨sA2, bA2, sc2, bc2, rfl, za2, zb2, hb2⟩; unfold Wx; have HY2 : Hid (Bk x2 (w.heap.size + 1) 32 #[.slice sA n sc, .slice (some ad) n bc] ∧ Bk x2 (w.heap.size + 1 + 1) 32 #[.slice none 0 0, .slice none 0 0] ∧ Bk x2 (w.heap.size + 1 + 1 + 1) 32 #[.slice none 0 0, .slice none 0 0] ∧ Bel w x2 ∧ Zi x2 sA1 n (S.set p (2 * S.getD p 0 + 0)) ∧ Zi x2 bA1 n (B.set p (B.getD p 0 + 1)) ∧ Zi x2 sA2 n (S.set p (2 * S.getD p 0 + 1)) ∧ Zi x2 bA2 n (B.set p (B.getD p 0 + 1))) := ⟨HK.out.2.1.bel (by repeat (first | exact Bel.rf | with_reducible refine Bel.drwN ?_ _ | with_reducible refine Bel.drw ?_ | with_reducible refine Bel.al ?_ _ | (refine Bel.tr ?_ hb2) | (refine Bel.tr ?_ hb1))), HK.out.2.2.1.bel (by repeat (first | exact Bel.rf | with_reducible refine Bel.drwN ?_ _ | with_reducible refine Bel.drw ?_ | with_reducible refine Bel.al ?_ _ | (refine Bel.tr ?_ hb2) | (refine Bel.tr ?_ hb1))), HK.out.2.2.2.1.bel (by repeat (first | exact Bel.rf | with_reducible refine Bel.drwN ?_ _ | with_reducible refine Bel.drw ?_ | with_reducible refine Bel.al ?_ _ | (refine Bel.tr ?_ hb2) | (refine Bel.tr ?_ hb1))), HK.out.2.2.2.2.tr (by repeat (first | exact Bel.rf | with_reducible refine Bel.drwN ?_ _ | with_reducible refine Bel.drw ?_ | with_reducible refine Bel.al ?_ _ | (refine Bel.tr ?_ hb2) | (refine Bel.tr ?_ hb1))), HX1.out.1.bel (by repeat (first | exact Bel.rf | with_reducible refine Bel.drwN ?_ _ | with_reducible refine Bel.drw ?_ | with_reducible refine Bel.al ?_ _ | (refine Bel.tr ?_ hb2))), HX1.out.2.1.bel (by repeat (first | exact Bel.rf | with_reducible refine Bel.drwN ?_ _ | with_reducible refine Bel.drw ?_ | with_reducible refine Bel.al ?_ _ | (refine Bel.tr ?_ hb2))), za2, zb2⟩; have y0 := HY2.out.2.1.cell 0; have y1 := HY2.out.2.1.cell 1; have z0 := HY2.out.2.1.fr 0; have z1 := HY2.out.2.1.fr 1; have v0 := HY2.out.2.2.1.cell 0; have v1 := HY2.out.2.2.1.cell 1; have x0 := HY2.out.2.2.1.fr 0; have x3 := HY2.out.2.2.1.fr 1; simp only [List.getElem?_toArray, List.getElem?_cons_zero, List.getElem?_cons_succ] at y0 y1 v0 v1; clear za2 zb2
        try go_wp2_with fail
        refine hK.out _ _ ?_ (fun hH2 => ?_)
        · (try dsimp only); exact KS.out _ (HK.out.2.1.bel (by repeat (first | exact Bel.rf | with_reducible refine Bel.drwN ?_ _ | with_reducible refine Bel.drw ?_ | with_reducible refine Bel.al ?_ _ | (refine Bel.tr ?_ hb2) | (refine Bel.tr ?_ hb1))))
        clear hK K hH1
        try simp only [Act.put, setIfInBounds_toArray, set_cons_zero, set_cons_succ]
        refine wpAnyH_ready (rs := [6]) (by kernel_rfl) (by simp) ?_
        refine AllReadyH.cons (o := ⟨none, .store 32 (.tmp 6) (.tmp 35), 0, "word.go:130", #[⟨2, .data⟩, ⟨5, .chain⟩, ⟨0, .phase⟩, ⟨1, .phase⟩, ⟨2, .phase⟩, ⟨3, .textOnly Departure.lateStores⟩, ⟨4, .textOnly Departure.lateStores⟩, ⟨5, .textOnly Departure.lateStoresUnsure⟩], none⟩) rfl (fun K hK => ?_) (AllReadyH.nil)
        · go_simp
          try go_wp2_with fail
          refine hK.out _ _ ?_ (fun hH3 => ?_)
          · (try dsimp only); exact KS.out _ ((HY2.out.1.far (by dsimp only; omega) _).far (by dsimp only; omega) _)
          clear hK K hH2
          try simp only [Act.put, setIfInBounds_toArray, set_cons_zero, set_cons_succ]
          refine wpAnyH_ready (rs := [7]) (by kernel_rfl) (by simp) ?_
          refine AllReadyH.cons (o := ⟨none, .store 32 (.tmp 7) (.tmp 38), 0, "word.go:130", #[⟨5, .data⟩, ⟨6, .chain⟩, ⟨0, .phase⟩, ⟨1, .phase⟩, ⟨2, .phase⟩, ⟨3, .phase⟩, ⟨4, .phase⟩, ⟨5, .phase⟩, ⟨6, .phase⟩], none⟩) rfl (fun K hK => ?_) (AllReadyH.nil)
          · go_simp
            try go_wp2_with fail
            refine hK.out _ _ ?_ (fun hH4 => ?_)
            · (try dsimp only); exact KS.out _ ((((HY2.out.1.far (by dsimp only; omega) _).far (by dsimp only; omega) _).far (by dsimp only; omega) _).far (by dsimp only; omega) _)
            clear hK K hH3
            try simp only [Act.put, setIfInBounds_toArray, set_cons_zero, set_cons_succ]
            refine wpAnyH_take (i := 8) (oi := ⟨some 8, .assign (.const (.int IntKind.i64 0)), 33, "word.go:130", #[⟨7, .chain⟩, ⟨0, .phase⟩, ⟨1, .phase⟩, ⟨2, .phase⟩, ⟨3, .phase⟩, ⟨4, .phase⟩, ⟨5, .phase⟩, ⟨6, .phase⟩, ⟨7, .phase⟩], none⟩) (v := ?_) rfl (by kernel_rfl) (by kernel_rfl) (by kernel_rfl) (fun _ _ _ h => h) (Or.inl ⟨by kernel_rfl, ?_⟩) (by assumption) ?_
            rotate_left
            · (intro w hSw; (try dsimp only at hSw); obtain ⟨d1, d2⟩ := hSw; go_simp; try with_reducible rfl)
            try simp only [Act.put, setIfInBounds_toArray, set_cons_zero, set_cons_succ]
            refine wpAnyH_done (by kernel_rfl) ?_ _
            refine NoPanic.normal ?_
            have HF : Hid (∀ u v u2 v2, Bk ((((x2.setCell ⟨w.heap.size + 1 + 1, 0, none⟩ u).setCell ⟨w.heap.size + 1 + 1, 1, none⟩ v).setCell ⟨w.heap.size + 1 + 1 + 1, 0, none⟩ u2).setCell ⟨w.heap.size + 1 + 1 + 1, 1, none⟩ v2) (w.heap.size + 1 + 1) 32 #[u, v] ∧ Bk ((((x2.setCell ⟨w.heap.size + 1 + 1, 0, none⟩ u).setCell ⟨w.heap.size + 1 + 1, 1, none⟩ v).setCell ⟨w.heap.size + 1 + 1 + 1, 0, none⟩ u2).setCell ⟨w.heap.size + 1 + 1 + 1, 1, none⟩ v2) (w.heap.size + 1 + 1 + 1) 32 #[u2, v2] ∧ Zi ((((x2.setCell ⟨w.heap.size + 1 + 1, 0, none⟩ u).setCell ⟨w.heap.size + 1 + 1, 1, none⟩ v).setCell ⟨w.heap.size + 1 + 1 + 1, 0, none⟩ u2).setCell ⟨w.heap.size + 1 + 1 + 1, 1, none⟩ v2) sA1 n (S.set p (2 * S.getD p 0 + 0)) ∧ Zi ((((x2.setCell ⟨w.heap.size + 1 + 1, 0, none⟩ u).setCell ⟨w.heap.size + 1 + 1, 1, none⟩ v).setCell ⟨w.heap.size + 1 + 1 + 1, 0, none⟩ u2).setCell ⟨w.heap.size + 1 + 1 + 1, 1, none⟩ v2) bA1 n (B.set p (B.getD p 0 + 1)) ∧ Zi ((((x2.setCell ⟨w.heap.size + 1 + 1, 0, none⟩ u).setCell ⟨w.heap.size + 1 + 1, 1, none⟩ v).setCell ⟨w.heap.size + 1 + 1 + 1, 0, none⟩ u2).setCell ⟨w.heap.size + 1 + 1 + 1, 1, none⟩ v2) sA2 n (S.set p (2 * S.getD p 0 + 1)) ∧ Zi ((((x2.setCell ⟨w.heap.size + 1 + 1, 0, none⟩ u).setCell ⟨w.heap.size + 1 + 1, 1, none⟩ v).setCell ⟨w.heap.size + 1 + 1 + 1, 0, none⟩ u2).setCell ⟨w.heap.size + 1 + 1 + 1, 1, none⟩ v2) bA2 n (B.set p (B.getD p 0 + 1)) ∧ Bel w ((((x2.setCell ⟨w.heap.size + 1 + 1, 0, none⟩ u).setCell ⟨w.heap.size + 1 + 1, 1, none⟩ v).setCell ⟨w.heap.size + 1 + 1 + 1, 0, none⟩ u2).setCell ⟨w.heap.size + 1 + 1 + 1, 1, none⟩ v2)) := fun u v u2 v2 => ⟨(((HY2.out.2.1.st 0 u).st 1 v).far (by dsimp only; omega) u2).far (by dsimp only; omega) v2, (((HY2.out.2.2.1.far (by dsimp only; omega) u).far (by dsimp only; omega) v).st 0 u2).st 1 v2, ((HY2.out.2.2.2.2.1.ch (((Ch.rf (g := w.heap.size + 1 + 1)).st 0 u).st 1 v) (zi_ne HY2.out.2.2.2.2.1 HN1.out HY2.out.2.1)).ch (((Ch.rf (g := w.heap.size + 1 + 1 + 1)).st 0 u2).st 1 v2) (zi_ne HY2.out.2.2.2.2.1 HN1.out HY2.out.2.2.1)), ((HY2.out.2.2.2.2.2.1.ch (((Ch.rf (g := w.heap.size + 1 + 1)).st 0 u).st 1 v) (zi_ne HY2.out.2.2.2.2.2.1 HN1.out HY2.out.2.1)).ch (((Ch.rf (g := w.heap.size + 1 + 1 + 1)).st 0 u2).st 1 v2) (zi_ne HY2.out.2.2.2.2.2.1 HN1.out HY2.out.2.2.1)), ((HY2.out.2.2.2.2.2.2.1.ch (((Ch.rf (g := w.heap.size + 1 + 1)).st 0 u).st 1 v) (zi_ne HY2.out.2.2.2.2.2.2.1 HN1.out HY2.out.2.1)).ch (((Ch.rf (g := w.heap.size + 1 + 1 + 1)).st 0 u2).st 1 v2) (zi_ne HY2.out.2.2.2.2.2.2.1 HN1.out HY2.out.2.2.1)), ((HY2.out.2.2.2.2.2.2.2.ch (((Ch.rf (g := w.heap.size + 1 + 1)).st 0 u).st 1 v) (zi_ne HY2.out.2.2.2.2.2.2.2 HN1.out HY2.out.2.1)).ch (((Ch.rf (g := w.heap.size + 1 + 1 + 1)).st 0 u2).st 1 v2) (zi_ne HY2.out.2.2.2.2.2.2.2 HN1.out HY2.out.2.2.1)), Bel.st2 (by dsimp only; omega) (Bel.st2 (by dsimp only; omega) (Bel.st2 (by dsimp only; omega) (Bel.st2 (by dsimp only; omega) HY2.out.2.2.2.1 u) v) u2) v2⟩
            go_wp2_with fail
            exact bodyPost_ret (v := .tuple #[Wx n sA1 bA1 sc1 bc1, Wx n sA2 bA2 sc2 bc2, .int .i64 0]) (results_wwt Try.results22 _ _ (w.heap.size + 1 + 1) (w.heap.size + 1 + 1 + 1) _ _ _ _ _ rfl rfl rfl (HF.out _ _ _ _).1 (HF.out _ _ _ _).2.1) rfl ⟨fun h => absurd (HY.out.symm.trans h) h4, fun _ => ⟨sA1, bA1, sA2, bA2, sc1, bc1, sc2, bc2, rfl, (HF.out _ _ _ _).2.2.1, (HF.out _ _ _ _).2.2.2.1, (HF.out _ _ _ _).2.2.2.2.1, (HF.out _ _ _ _).2.2.2.2.2.1⟩, (HF.out _ _ _ _).2.2.2.2.2.2⟩
end Go.Proofs.Ytgdhgeongdenpaa.Wd
