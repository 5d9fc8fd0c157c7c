/- Merged: ChV ChW ChAw ChEs EditMath Edit1 EdB Warp1 Warp2 Warp3 Warp4 UnitScan UnitTake UnitParse TxtMath TxtRound Zi0. -/
import Derived.Test.YtpbnabibnkohdaaGreatDoorRows
import Derived.Test.YtpbnabibnkohdaaGreatDoorGc1
import Derived.Test.YtpbnabibnkohdaaGreatDoorGc2
import Derived.Laws.EntriesVeiled
import Derived.Deep.RegionLaw
import Derived.Maps.AppendAt
import Derived.Laws.CopyOwn
import Derived.Laws.Bits64b
import Derived.Shelf.Abstract
import Derived.WalkLawsBesides
import Derived.WalkSpells
import Derived.Outline
import Derived.IntWalk
import Derived.Deep.QuietTactic
import Derived.BigQuiet
import Derived.RegionTactic
import Derived.Laws.ResultCell
import Derived.Lib.ItoaNum
import Derived.Lib.Repeat
import Derived.Lib.Strings
namespace Go.Proofs.YtpbnabibnkohdaaGreatDoor.Ch
open Go.ChangeShapes Go.WideShapes Go.RowKit Wo Sr Wi Nr
set_option linter.unusedVariables false
theorem fs_fb {Ls Ms : Nat → List Int} {q : Nat} (q4 : q ≤ 4) (h : ∀ c, c < q → Sam (Ls c) ∧ Sam (Ms c)) : Fb (fs Ls Ms q) := fun i j => by have := fs_in q h i j; omega
set_option maxHeartbeats 16000000 in
set_option maxRecDepth 100000 in
theorem together_ok (g1 g2 q n m c1 c2 : Nat) (As Bs : Nat → Option Addr) (cs ds : Nat → Nat) (Ls Ms : Nat → List Int) (b : Int) (q1 : 1 ≤ q) (q4 : q ≤ 4) (n2 : 2 ≤ n) (n32 : n ≤ 32) (m2 : 2 ≤ m) (m32 : m ≤ 32) (b0 : 0 ≤ b) (b32 : b ≤ 32)
    (hb1 : (n : Int) - (m : Int) ≤ b) (hb2 : (m : Int) - (n : Int) ≤ b) (w : World) (hX : Bun w g1 q n As cs Ls) (hY : Bun w g2 q m Bs ds Ms) :
    Calls Tryz.prog 10 #[.slice (some ⟨g1, 0, none⟩) q c1, .slice (some ⟨g2, 0, none⟩) q c2, .int .i64 b] w fun e w' => e = .returned (.tuple #[.int .i64 (wg (fs Ls Ms q) b n m), .int .i64 0]) ∧ Bel w w' := by
  have HX := Lib.hid hX
  have HY := Lib.hid hY
  have i2 : (q : Int) ≤ 4 := by omega
  have i3 : (0 : Int) < (q : Int) := by omega
  have i5 : 0 < q := q1
  have i6 : ((0 : Int) < (q : Int)) = True := eq_true i3
  have i7 : (0 < q) = True := eq_true i5
  have HQ := Lib.hid (And.intro q1 (And.intro q4 (And.intro n2 (And.intro n32 (And.intro m2 (And.intro m32 (And.intro b0 b32)))))))
  have CB : Hid (∀ W, Bel w W → Calls Tryz.prog 24 #[.slice (some ⟨g1, 0, none⟩) q c1, .slice (some ⟨g2, 0, none⟩) q c2, .int .i64 b] W fun e w' => e = .returned (.int .i64 0) ∧ Bel W w') := fun W h =>
    band_ok g1 g2 q n m c1 c2 As Bs cs ds Ls Ms b q1 q4 n2 n32 m2 m32 b0 b32 hb1 hb2 W (hX.bel h) (hY.bel h)
  have HBX : Hid (Bk ((w.alloc (.cells #[.slice (some ⟨g1, 0, none⟩) q c1] 31)).alloc (.cells #[.slice (some ⟨g2, 0, none⟩) q c2] 31)) w.heap.size 31 #[.slice (some ⟨g1, 0, none⟩) q c1]) := (Bk.nw _ _ _).al _
  have HBY : Hid (Bk ((w.alloc (.cells #[.slice (some ⟨g1, 0, none⟩) q c1] 31)).alloc (.cells #[.slice (some ⟨g2, 0, none⟩) q c2] 31)) (w.heap.size + 1) 31 #[.slice (some ⟨g2, 0, none⟩) q c2]) := Bk.nq _ _ _ (by simp)
  have HW0 : Hid (Bel w ((w.alloc (.cells #[.slice (some ⟨g1, 0, none⟩) q c1] 31)).alloc (.cells #[.slice (some ⟨g2, 0, none⟩) q c2] 31))) := (Bel.rf.al _).al _
  clear hX hY hb1 hb2 n2 n32 m2 m32 b0 b32
  go_enter Tryz.func10, Tryz.ntmps10
  go_wp2_with fail
  go_at_call 24
  refine (CB.out _ HW0.out).mono ?_
  rintro e w1 ⟨rfl, hb⟩
  have HB1 : Hid (Bel w w1) := HW0.out.tr hb
  have HX1 := Lib.hid (HBX.out.bel hb)
  have HY1 := Lib.hid (HBY.out.bel hb)
  have e1 : w1.cell? ⟨w.heap.size, 0, none⟩ = some (.slice (some ⟨g1, 0, none⟩) q c1) := HX1.out.cell 0
  have e2 : w1.cell? ⟨w.heap.size + 1, 0, none⟩ = some (.slice (some ⟨g2, 0, none⟩) q c2) := HY1.out.cell 0
  have e4 := ((HX.out.bel HB1.out).2 0 HQ.out.1).1
  have e5 := ((HY.out.bel HB1.out).2 0 HQ.out.1).1
  have KS : Hid (∀ W', Bel w1 W' → ((fun w' => w'.cell? ⟨w.heap.size, 0, none⟩ = some (.slice (some ⟨g1, 0, none⟩) q c1) ∧ w'.cell? ⟨w.heap.size + 1, 0, none⟩ = some (.slice (some ⟨g2, 0, none⟩) q c2) ∧ w'.cell? ⟨g1, 0, none⟩ = some (.slice (As 0) n (cs 0)) ∧ w'.cell? ⟨g2, 0, none⟩ = some (.slice (Bs 0) m (ds 0))) W')) := fun W' h => ⟨h.kp e1, h.kp e2, h.kp e4, h.kp e5⟩
  have hqq := HQ.out
  have LE : Hid (∀ W, Bel w1 W → Calls Tryz.prog 27 #[.agg #[.int .i64 (n : Int), .int .i64 (m : Int), .int .i64 b, .func (.func 28) #[] #[.pointer (some ⟨w.heap.size, 0, none⟩), .pointer (some ⟨w.heap.size + 1, 0, none⟩)]]] W fun e w' => e = .returned (.int .i64 (wg (fs Ls Ms q) b n m)) ∧ Bel W w') := fun W h =>
    least_together n m b (fs Ls Ms q) (by omega) (by omega) (by omega) (by omega) hqq.2.2.2.2.2.2.1 hqq.2.2.2.2.2.2.2 (fs_fb hqq.2.1 (fun c hc => ⟨(HX.out.2 c hc).2.2, (HY.out.2 c hc).2.2⟩)) _ _ W
      (fun W' h' i j hi hj => together1_ok w.heap.size (w.heap.size + 1) g1 g2 q n m c1 c2 As Bs cs ds Ls Ms (by omega) i j hi hj (by omega) (by omega) W' (KS.out W' (h.tr h')).1 (KS.out W' (h.tr h')).2.1 (HX.out.bel (HB1.out.tr (h.tr h'))) (HY.out.bel (HB1.out.tr (h.tr h'))))
  clear hb HBX HBY HW0 CB e1 e2 e4 e5 hqq
  go_wp2_with fail
  go_region_held3 (fun w' => w'.cell? ⟨w.heap.size, 0, none⟩ = some (.slice (some ⟨g1, 0, none⟩) q c1) ∧ w'.cell? ⟨w.heap.size + 1, 0, none⟩ = some (.slice (some ⟨g2, 0, none⟩) q c2) ∧ w'.cell? ⟨g1, 0, none⟩ = some (.slice (As 0) n (cs 0)) ∧ w'.cell? ⟨g2, 0, none⟩ = some (.slice (Bs 0) m (ds 0)))
    (first
      | (refine KS.out _ ?_; (repeat (first | exact Bel.rf | (with_reducible refine Bel.drwN ?_ _) | (with_reducible refine Bel.drw ?_) | (with_reducible refine Bel.al ?_ _) | ((with_reducible refine Bel.st2 ?_ ?_ _); (show _ ≤ _); (simp only [World.size_alloc, World.heap_drew]; omega)))); done))
    (fail)
  all_goals
    go_wp2_with fail
    go_at_call 27
    refine (LE.out _ (by repeat (first | exact Bel.rf | (with_reducible refine Bel.drwN ?_ _) | (with_reducible refine Bel.drw ?_) | (with_reducible refine Bel.al ?_ _)))).mono ?_
    rintro e w9 ⟨rfl, h9⟩
    have HB9 : Hid (Bel w w9) := HB1.out.tr (((Bel.rf.al _).drw).tr h9)
    clear h9
    go_wp2
    exact bodyPost_ret (v := .tuple #[.int .i64 (wg (fs Ls Ms q) b n m), .int .i64 0]) (by simp [results, Tryz.results10, go_sem]) rfl ⟨rfl, HB9.out⟩
end Go.Proofs.YtpbnabibnkohdaaGreatDoor.Ch
namespace Go.Proofs.YtpbnabibnkohdaaGreatDoor.Ch
open Go.RowKit Wo Sr Wi
set_option linter.unusedVariables false
theorem aps_le {Ls Ms : Nat → List Int} {b : Int} {n m : Nat} (b0 : 0 ≤ b) (n1 : 1 ≤ n) (m1 : 1 ≤ m) (n32 : n ≤ 32) (m32 : m ≤ 32) (h1 : (n : Int) - (m : Int) ≤ b) (h2 : (m : Int) - (n : Int) ≤ b) :
    ∀ q, q ≤ 4 → (∀ c, c < q → Sam (Ls c) ∧ Sam (Ms c)) → aps b n m Ls Ms q ≤ wg (fs Ls Ms q) b n m
  | 0, _, h => by
    have := wg_nn (b := b) (fs_fb (by omega) h) n m
    show (0 : Int) ≤ _
    exact this
  | q + 1, h4, h => by
    have ih := aps_le b0 n1 m1 n32 m32 h1 h2 q (by omega) (fun c hc => h c (by omega))
    have hF := fs_fb h4 h
    obtain ⟨i, rfl⟩ : ∃ i, n = i + 1 := ⟨n - 1, by omega⟩
    obtain ⟨j, rfl⟩ : ∃ j, m = j + 1 := ⟨m - 1, by omega⟩
    have hs := wg_small hF b0 (i := i) (j := j) (by omega) (by omega) ⟨by omega, by omega⟩
    have ha := wg_add (b := b) (fs_fb (q := q) (by omega) (fun c hc => h c (by omega))) (cst_fb (h q (by omega)).1 (h q (by omega)).2) (i + 1 + (j + 1)) (i + 1) (j + 1) rfl hs
    have e : wg (fun i j => fs Ls Ms q i j + cst (Ls q) (Ms q) i j) b (i + 1) (j + 1) = wg (fs Ls Ms (q + 1)) b (i + 1) (j + 1) := rfl
    rw [e] at ha
    show aps b (i + 1) (j + 1) Ls Ms q + wg (cst (Ls q) (Ms q)) b (i + 1) (j + 1) ≤ _
    omega
theorem dg_fs {Ls Ms : Nat → List Int} {n : Nat} (n32 : n ≤ 32) : ∀ q, (∀ c, c < q → Sam (Ls c) ∧ Sam (Ms c) ∧ (Ls c).length = n ∧ (Ms c).length = n) → dg (fs Ls Ms q) n = es Ls Ms q
  | 0, _ => by
    have : ∀ k, dg (fs Ls Ms 0) k = 0 := by
      intro k
      induction k with
      | zero => rfl
      | succ k ih => show dg (fs Ls Ms 0) k + 0 = 0; rw [ih]; rfl
    exact this n
  | q + 1, h => by
    have ih := dg_fs n32 q (fun c hc => h c (by omega))
    obtain ⟨h1, h2, h3, h4⟩ := h q (by omega)
    have e := dg_add (fs Ls Ms q) (cst (Ls q) (Ms q)) n
    have c := dg_cst h1 h2 (by omega) (by omega) n (by omega)
    have hl : (df (Ls q) (Ms q)).length = n := by rw [df]; simp [h3, h4]
    rw [List.take_of_length_le (by omega)] at c
    show dg (fun i j => fs Ls Ms q i j + cst (Ls q) (Ms q) i j) n = es Ls Ms q + su sq (df (Ls q) (Ms q))
    rw [e, ih, c]
/-- Together is at most Euclid -/
theorem tog_le {Ls Ms : Nat → List Int} {b : Int} {n q : Nat} (b0 : 0 ≤ b) (n32 : n ≤ 32) (h : ∀ c, c < q → Sam (Ls c) ∧ Sam (Ms c) ∧ (Ls c).length = n ∧ (Ms c).length = n) : wg (fs Ls Ms q) b n n ≤ es Ls Ms q := by
  rw [← dg_fs n32 q h]
  exact wg_diag b0 n
/-- a further channel makes no distance less -/
theorem aps_more {Ls Ms : Nat → List Int} {b : Int} {n m : Nat} (q : Nat) (h : Sam (Ls q) ∧ Sam (Ms q)) : aps b n m Ls Ms q ≤ aps b n m Ls Ms (q + 1) := by
  have := wg_nn (b := b) (cst_fb h.1 h.2) n m
  show _ ≤ aps b n m Ls Ms q + _
  omega
theorem tog_more {Ls Ms : Nat → List Int} {b : Int} {n m : Nat} (q : Nat) (h : Sam (Ls q) ∧ Sam (Ms q)) : wg (fs Ls Ms q) b n m ≤ wg (fs Ls Ms (q + 1)) b n m :=
  wg_mono (fun i j => by have := cst_in h.1 h.2 i j; show _ ≤ fs Ls Ms q i j + _; omega) (n + m) n m rfl
end Go.Proofs.YtpbnabibnkohdaaGreatDoor.Ch
namespace Go.Proofs.YtpbnabibnkohdaaGreatDoor.Ch
open Go.ChangeShapes Go.WideShapes Go.RowKit Wo Sr Wi
set_option linter.unusedVariables false
theorem sam_l {L : List Int} (h : (L.all fun x => decide (-1000 ≤ x) && decide (x ≤ 1000)) = true) : Sam L := fun x hx => by
  have := List.all_eq_true.1 h x hx
  simpa using this
def sel (L M : List Int) (j : Nat) : List Int := if j = 0 then L else M
theorem ex_a : aps 1 3 3 (sel [0, 0, 5] [0, 5, 5]) (sel [0, 5, 5] [0, 0, 5]) 2 = 0 := by simp [aps, sel, wg, mn3, mn, cst, Bnd, far]
theorem ex_t : wg (fs (sel [0, 0, 5] [0, 5, 5]) (sel [0, 5, 5] [0, 0, 5]) 2) 1 3 3 = 50 := by simp [fs, sel, wg, mn3, mn, cst, Bnd, far]
theorem bun_two {W : World} {g a b : Nat} {t : TypeId} {L M : List Int} (hg : Bk W g t #[.slice (some ⟨a, 0, none⟩) 3 3, .slice (some ⟨b, 0, none⟩) 3 3]) (h1 : Bk W a 3 (zs L).toArray) (h2 : Bk W b 3 (zs M).toArray) (l1 : L.length = 3) (l2 : M.length = 3) (s1 : Sam L) (s2 : Sam M) :
    Bun W g 2 3 (fun j => some ⟨if j = 0 then a else b, 0, none⟩) (fun _ => 3) (sel L M) := by
  refine ⟨hg.lt, fun j hj => ?_⟩
  rcases (show j = 0 ∨ j = 1 by omega) with rfl | rfl
  · exact ⟨hg.cell 0, zi_bk h1 3 l1, s1⟩
  · exact ⟨hg.cell 1, zi_bk h2 3 l2, s2⟩
end Go.Proofs.YtpbnabibnkohdaaGreatDoor.Ch
namespace Go.Proofs.YtpbnabibnkohdaaGreatDoor.Ch
open Go.RowKit Wo Sr Wi
set_option linter.unusedVariables false
theorem es_bd {Ls Ms : Nat → List Int} {n : Nat} (n32 : n ≤ 32) : ∀ q, (∀ c, c < q → Sam (Ls c) ∧ Sam (Ms c) ∧ (Ls c).length = n ∧ (Ms c).length = n) → 0 ≤ es Ls Ms q ∧ es Ls Ms q ≤ 128000000 * (q : Int)
  | 0, _ => ⟨Int.le_refl _, Int.le_refl _⟩
  | q + 1, h => by
    have ih := es_bd n32 q (fun c hc => h c (by omega))
    obtain ⟨h1, h2, h3, h4⟩ := h q (by omega)
    have b := susq_bd (df_bd (A := 1000) (B := 1000) h1 h2)
    have hl : (df (Ls q) (Ms q)).length = n := by rw [df]; simp [h3, h4]
    rw [hl] at b
    have hn : (n : Int) ≤ 32 := by omega
    show 0 ≤ es Ls Ms q + su sq (df (Ls q) (Ms q)) ∧ es Ls Ms q + su sq (df (Ls q) (Ms q)) ≤ _
    obtain ⟨b1, b2⟩ := b
    have b3 : ((1000 + 1000) * (1000 + 1000) : Int) * (n : Int) = 4000000 * (n : Int) := by rfl
    rw [b3] at b2
    omega
theorem aps_one (b : Int) (n m : Nat) (Ls Ms : Nat → List Int) : aps b n m Ls Ms 1 = wt (Ls 0) (Ms 0) b n m := by
  rw [wg_cst (Ls 0) (Ms 0) b _ n m rfl]
  exact Int.zero_add _
theorem fs_one (Ls Ms : Nat → List Int) : fs Ls Ms 1 = cst (Ls 0) (Ms 0) := by
  funext i j
  exact Int.zero_add _
theorem tog_one (b : Int) (n m : Nat) (Ls Ms : Nat → List Int) : wg (fs Ls Ms 1) b n m = wt (Ls 0) (Ms 0) b n m := by
  rw [wg_cst (Ls 0) (Ms 0) b _ n m rfl, fs_one]
end Go.Proofs.YtpbnabibnkohdaaGreatDoor.Ch
namespace Go.Proofs.YtpbnabibnkohdaaGreatDoor.Wi
set_option linter.unusedVariables false
def ab (x : Int) : Int := if x < 0 then -x else x
theorem ab_nn (x : Int) : 0 ≤ ab x := by unfold ab; split <;> omega
theorem ab_tri (a b c : Int) : ab (a - c) ≤ ab (a - b) + ab (b - c) := by unfold ab; split <;> split <;> split <;> omega
theorem ab_sym (a b : Int) : ab (a - b) = ab (b - a) := by unfold ab; split <;> split <;> omega
theorem ab_self (a : Int) : ab (a - a) = 0 := by unfold ab; split <;> omega
theorem ab_in {x B : Int} (h1 : -B ≤ x) (h2 : x ≤ B) : 0 ≤ ab x ∧ ab x ≤ B := by unfold ab; split <;> omega
/-- the least costs of aligning beginnings -/
def et (X Y : List Int) (g : Int) : Nat → Nat → Int
  | 0, 0 => 0
  | 0, j + 1 => et X Y g 0 j + ab (Y.getD j 0 - g)
  | i + 1, 0 => et X Y g i 0 + ab (X.getD i 0 - g)
  | i + 1, j + 1 => mn3 (et X Y g i j + ab (X.getD i 0 - Y.getD j 0)) (et X Y g i (j + 1) + ab (X.getD i 0 - g)) (et X Y g (i + 1) j + ab (Y.getD j 0 - g))
termination_by i j => (i, j)
theorem et_00 (X Y : List Int) (g : Int) : et X Y g 0 0 = 0 := by rw [et]
theorem et_0s (X Y : List Int) (g : Int) (j : Nat) : et X Y g 0 (j + 1) = et X Y g 0 j + ab (Y.getD j 0 - g) := by rw [et]
theorem et_s0 (X Y : List Int) (g : Int) (i : Nat) : et X Y g (i + 1) 0 = et X Y g i 0 + ab (X.getD i 0 - g) := by rw [et]
theorem et_ss (X Y : List Int) (g : Int) (i j : Nat) : et X Y g (i + 1) (j + 1) = mn3 (et X Y g i j + ab (X.getD i 0 - Y.getD j 0)) (et X Y g i (j + 1) + ab (X.getD i 0 - g)) (et X Y g (i + 1) j + ab (Y.getD j 0 - g)) := by rw [et]
theorem et_up (X Y : List Int) (g : Int) (i j : Nat) : et X Y g (i + 1) j ≤ et X Y g i j + ab (X.getD i 0 - g) := by
  rcases j with _ | j
  · rw [et_s0]; omega
  · rw [et_ss]; exact (mn3_le _ _ _).2.1
theorem et_left (X Y : List Int) (g : Int) (i j : Nat) : et X Y g i (j + 1) ≤ et X Y g i j + ab (Y.getD j 0 - g) := by
  rcases i with _ | i
  · rw [et_0s]; omega
  · rw [et_ss]; exact (mn3_le _ _ _).2.2
theorem et_diag (X Y : List Int) (g : Int) (i j : Nat) : et X Y g (i + 1) (j + 1) ≤ et X Y g i j + ab (X.getD i 0 - Y.getD j 0) := by
  rw [et_ss]; exact (mn3_le _ _ _).1
/-- the way in which the least cost is attained -/
theorem et_or (X Y : List Int) (g : Int) (i j : Nat) (h : 0 < i + j) :
    (∃ p q, i = p + 1 ∧ j = q + 1 ∧ et X Y g i j = et X Y g p q + ab (X.getD p 0 - Y.getD q 0)) ∨ (∃ p, i = p + 1 ∧ et X Y g i j = et X Y g p j + ab (X.getD p 0 - g)) ∨ (∃ q, j = q + 1 ∧ et X Y g i j = et X Y g i q + ab (Y.getD q 0 - g)) := by
  rcases i with _ | i
  · rcases j with _ | j
    · omega
    · exact .inr (.inr ⟨j, rfl, et_0s _ _ _ _⟩)
  · rcases j with _ | j
    · exact .inr (.inl ⟨i, rfl, et_s0 _ _ _ _⟩)
    · rw [et_ss]
      rcases mn3_or (et X Y g i j + ab (X.getD i 0 - Y.getD j 0)) (et X Y g i (j + 1) + ab (X.getD i 0 - g)) (et X Y g (i + 1) j + ab (Y.getD j 0 - g)) with h | h | h
      · exact .inl ⟨i, j, rfl, rfl, h⟩
      · exact .inr (.inl ⟨i, rfl, h⟩)
      · exact .inr (.inr ⟨j, rfl, h⟩)
theorem et_nn (X Y : List Int) (g : Int) : ∀ (n i j : Nat), i + j = n → 0 ≤ et X Y g i j := by
  intro n
  induction n using Nat.strongRecOn with
  | _ n ih =>
    intro i j h
    rcases Nat.eq_zero_or_pos (i + j) with h0 | h0
    · obtain rfl : i = 0 := by omega
      obtain rfl : j = 0 := by omega
      rw [et_00]; omega
    · rcases et_or X Y g i j h0 with ⟨p, q, rfl, rfl, e⟩ | ⟨p, rfl, e⟩ | ⟨q, rfl, e⟩
      · have := ih (p + q) (by omega) p q rfl; have := ab_nn (X.getD p 0 - Y.getD q 0); omega
      · have := ih (p + j) (by omega) p j rfl; have := ab_nn (X.getD p 0 - g); omega
      · have := ih (i + q) (by omega) i q rfl; have := ab_nn (Y.getD q 0 - g); omega
theorem et_hi {X Y : List Int} {g : Int} (hs : Sam X) (ht : Sam Y) (g0 : -1000 ≤ g) (g1 : g ≤ 1000) : ∀ (n i j : Nat), i + j = n → et X Y g i j ≤ 2000 * (n : Int) := by
  intro n
  induction n using Nat.strongRecOn with
  | _ n ih =>
    intro i j h
    rcases i with _ | i
    · rcases j with _ | j
      · rw [et_00]; omega
      · have := ih j (by omega) 0 j (by omega)
        have a := ht.at j
        have := ab_in (B := 2000) (x := Y.getD j 0 - g) (by omega) (by omega)
        rw [et_0s]; omega
    · have := ih (i + j) (by omega) i j rfl
      have a := hs.at i
      have := ab_in (B := 2000) (x := X.getD i 0 - g) (by omega) (by omega)
      have := et_up X Y g i j
      omega
theorem et_sym (X Y : List Int) (g : Int) : ∀ (n i j : Nat), i + j = n → et X Y g i j = et Y X g j i := by
  intro n
  induction n using Nat.strongRecOn with
  | _ n ih =>
    intro i j h
    rcases i with _ | i
    · rcases j with _ | j
      · rw [et_00, et_00]
      · rw [et_0s, et_s0, ih j (by omega) 0 j (by omega)]
    · rcases j with _ | j
      · rw [et_s0, et_0s, ih i (by omega) i 0 (by omega)]
      · rw [et_ss, et_ss, ih (i + j) (by omega) i j rfl, ih (i + (j + 1)) (by omega) i (j + 1) rfl, ih (i + 1 + j) (by omega) (i + 1) j rfl, mn3_swap, ab_sym]
theorem et_tri (X Y Z : List Int) (g : Int) : ∀ (n i j k : Nat), i + j + k = n → et X Z g i k ≤ et X Y g i j + et Y Z g j k := by
  intro n
  induction n using Nat.strongRecOn with
  | _ n ih =>
    intro i j k h
    rcases Nat.eq_zero_or_pos (i + j) with h1 | h1
    · obtain rfl : i = 0 := by omega
      obtain rfl : j = 0 := by omega
      rw [et_00]
      have : ∀ k, et X Z g 0 k = et Y Z g 0 k := by
        intro k
        induction k with
        | zero => rw [et_00, et_00]
        | succ k ih => rw [et_0s, et_0s, ih]
      rw [this]; omega
    · rcases Nat.eq_zero_or_pos (j + k) with h2 | h2
      · obtain rfl : k = 0 := by omega
        obtain rfl : j = 0 := by omega
        rw [et_00 Y]
        have : ∀ i, et X Z g i 0 = et X Y g i 0 := by
          intro k
          induction k with
          | zero => rw [et_00, et_00]
          | succ k ih => rw [et_s0, et_s0, ih]
        rw [this]; omega
      · rcases et_or X Y g i j h1 with ⟨p, q, rfl, rfl, e⟩ | ⟨p, rfl, e⟩ | ⟨q, rfl, e⟩
        · rcases et_or Y Z g (q + 1) k h2 with ⟨q', r, eq, rfl, f⟩ | ⟨q', eq, f⟩ | ⟨r, rfl, f⟩
          · obtain rfl : q = q' := by omega
            have a := ih (p + q + r) (by omega) p q r rfl
            have b := et_diag X Z g p r
            have c := ab_tri (X.getD p 0) (Y.getD q 0) (Z.getD r 0)
            omega
          · obtain rfl : q = q' := by omega
            have a := ih (p + q + k) (by omega) p q k rfl
            have b := et_up X Z g p k
            have c := ab_tri (X.getD p 0) (Y.getD q 0) g
            omega
          · have a := ih (p + 1 + (q + 1) + r) (by omega) (p + 1) (q + 1) r rfl
            have b := et_left X Z g (p + 1) r
            omega
        · have a := ih (p + j + k) (by omega) p j k rfl
          have b := et_up X Z g p k
          omega
        · rcases et_or Y Z g (q + 1) k h2 with ⟨q', r, eq, rfl, f⟩ | ⟨q', eq, f⟩ | ⟨r, rfl, f⟩
          · obtain rfl : q = q' := by omega
            have a := ih (i + q + r) (by omega) i q r rfl
            have b := et_left X Z g i r
            have c := ab_tri (Z.getD r 0) (Y.getD q 0) g
            rw [ab_sym (Z.getD r 0) (Y.getD q 0)] at c
            omega
          · obtain rfl : q = q' := by omega
            have a := ih (i + q + k) (by omega) i q k rfl
            have := ab_nn (Y.getD q 0 - g)
            omega
          · have a := ih (i + (q + 1) + r) (by omega) i (q + 1) r rfl
            have b := et_left X Z g i r
            omega
theorem et_self (X : List Int) (g : Int) : ∀ i, et X X g i i ≤ 0 := by
  intro i
  induction i with
  | zero => rw [et_00]; omega
  | succ i ih => have := et_diag X X g i i; rw [ab_self] at this; omega
theorem et_zero (X : List Int) (g : Int) (i : Nat) : et X X g i i = 0 := by
  have := et_self X g i
  have := et_nn X X g _ i i rfl
  omega
/-- the table depends on what stands ahead alone, and on differences -/
theorem et_cong {X Y P Q : List Int} {g f : Int} {n m : Nat} (h1 : ∀ i, i < n → X.getD i 0 - g = P.getD i 0 - f) (h2 : ∀ j, j < m → Y.getD j 0 - g = Q.getD j 0 - f) : ∀ (k i j : Nat), i + j = k → i ≤ n → j ≤ m → et X Y g i j = et P Q f i j := by
  intro k
  induction k using Nat.strongRecOn with
  | _ k ih =>
    intro i j h hi hj
    rcases i with _ | i
    · rcases j with _ | j
      · rw [et_00, et_00]
      · rw [et_0s, et_0s, ih j (by omega) 0 j (by omega) (by omega) (by omega), h2 j (by omega)]
    · rcases j with _ | j
      · rw [et_s0, et_s0, ih i (by omega) i 0 (by omega) (by omega) (by omega), h1 i (by omega)]
      · have e : X.getD i 0 - Y.getD j 0 = P.getD i 0 - Q.getD j 0 := by have := h1 i (by omega); have := h2 j (by omega); omega
        rw [et_ss, et_ss, ih (i + j) (by omega) i j rfl (by omega) (by omega), ih (i + (j + 1)) (by omega) i (j + 1) rfl (by omega) (by omega), ih (i + 1 + j) (by omega) (i + 1) j rfl (by omega) (by omega), h1 i (by omega), h2 j (by omega), e]
/-- an alignment of the beginnings, and its cost: 1 both, 2 left, 3 right -/
inductive Al (X Y : List Int) (g : Int) : List Int → Nat → Nat → Int → Prop
  | nil : Al X Y g [] 0 0 0
  | both {l i j k} (h : Al X Y g l i j k) : Al X Y g (l ++ [1]) (i + 1) (j + 1) (k + ab (X.getD i 0 - Y.getD j 0))
  | left {l i j k} (h : Al X Y g l i j k) : Al X Y g (l ++ [2]) (i + 1) j (k + ab (X.getD i 0 - g))
  | right {l i j k} (h : Al X Y g l i j k) : Al X Y g (l ++ [3]) i (j + 1) (k + ab (Y.getD j 0 - g))
theorem al_le {X Y : List Int} {g : Int} {l : List Int} {i j : Nat} {k : Int} (h : Al X Y g l i j k) : et X Y g i j ≤ k := by
  induction h with
  | nil => rw [et_00]; omega
  | both h ih => rename_i l i j k; have := et_diag X Y g i j; omega
  | left h ih => rename_i l i j k; have := et_up X Y g i j; omega
  | right h ih => rename_i l i j k; have := et_left X Y g i j; omega
theorem al_path (X Y : List Int) (g : Int) : ∀ (n i j : Nat), i + j = n → ∃ l, Al X Y g l i j (et X Y g i j) := by
  intro n
  induction n using Nat.strongRecOn with
  | _ n ih =>
    intro i j h
    rcases Nat.eq_zero_or_pos (i + j) with h0 | h0
    · obtain rfl : i = 0 := by omega
      obtain rfl : j = 0 := by omega
      exact ⟨[], by rw [et_00]; exact Al.nil⟩
    · rcases et_or X Y g i j h0 with ⟨p, q, rfl, rfl, e⟩ | ⟨p, rfl, e⟩ | ⟨q, rfl, e⟩
      · obtain ⟨l, hl⟩ := ih (p + q) (by omega) p q rfl
        exact ⟨_, by rw [e]; exact Al.both hl⟩
      · obtain ⟨l, hl⟩ := ih (p + j) (by omega) p j rfl
        exact ⟨_, by rw [e]; exact Al.left hl⟩
      · obtain ⟨l, hl⟩ := ih (i + q) (by omega) i q rfl
        exact ⟨_, by rw [e]; exact Al.right hl⟩
/-- reversed windows -/
def ft (X Y : List Int) (g : Int) (n m i j : Nat) : Int := et X.reverse Y.reverse g (n - i) (m - j)
theorem et_app_left {X Y : List Int} {g : Int} {n m i j : Nat} {l : List Int} {k : Int} (h : Al X Y g l i j k) : i ≤ n → j ≤ m → X.length = n → Y.length = m → ∀ p q, p = n - i → q = m - j → et X.reverse Y.reverse g n m ≤ et X.reverse Y.reverse g p q + k := by
  have rx : ∀ i, X.length = n → i < n → X.reverse.getD (n - 1 - i) 0 = X.getD i 0 := fun i hx hi => by rw [← hx]; exact rev_at (by omega)
  have ry : ∀ i, Y.length = m → i < m → Y.reverse.getD (m - 1 - i) 0 = Y.getD i 0 := fun i hx hi => by rw [← hx]; exact rev_at (by omega)
  induction h with
  | nil =>
    intro hi hj hx hy p q hp hq
    rw [hp, hq]
    simp
  | @both l i j k h ih =>
    intro hi hj hx hy p q hp hq
    have a := ih (by omega) (by omega) hx hy (p + 1) (q + 1) (by omega) (by omega)
    have b := et_diag X.reverse Y.reverse g p q
    rw [show p = n - 1 - i by omega, show q = m - 1 - j by omega, rx i hx (by omega), ry j hy (by omega)] at b
    rw [show p = n - 1 - i by omega, show q = m - 1 - j by omega] at a ⊢
    omega
  | @left l i j k h ih =>
    intro hi hj hx hy p q hp hq
    have a := ih (by omega) (by omega) hx hy (p + 1) q (by omega) (by omega)
    have b := et_up X.reverse Y.reverse g p q
    rw [show p = n - 1 - i by omega, rx i hx (by omega)] at b
    rw [show p = n - 1 - i by omega] at a ⊢
    omega
  | @right l i j k h ih =>
    intro hi hj hx hy p q hp hq
    have a := ih (by omega) (by omega) hx hy p (q + 1) (by omega) (by omega)
    have b := et_left X.reverse Y.reverse g p q
    rw [show q = m - 1 - j by omega, ry j hy (by omega)] at b
    rw [show q = m - 1 - j by omega] at a ⊢
    omega
theorem et_rev (X Y : List Int) (g : Int) : et X.reverse Y.reverse g X.length Y.length = et X Y g X.length Y.length := by
  have le : ∀ X Y : List Int, et X.reverse Y.reverse g X.length Y.length ≤ et X Y g X.length Y.length := by
    intro X Y
    obtain ⟨l, hl⟩ := al_path X Y g _ X.length Y.length rfl
    have := et_app_left hl (Nat.le_refl _) (Nat.le_refl _) rfl rfl 0 0 (by omega) (by omega)
    rw [et_00] at this
    omega
  have h1 := le X Y
  have h2 := le X.reverse Y.reverse
  rw [List.reverse_reverse, List.reverse_reverse, List.length_reverse, List.length_reverse] at h2
  omega
/-- a sample that equals the gap, put in somewhere -/
theorem et_put (X : List Int) (g : Int) (k : Nat) (hk : k ≤ X.length) : et X (X.take k ++ [g] ++ X.drop k) g X.length (X.length + 1) = 0 := by
  have nn := et_nn X (X.take k ++ [g] ++ X.drop k) g _ X.length (X.length + 1) rfl
  have g1 : ∀ i, i < k → (X.take k ++ [g] ++ X.drop k).getD i 0 = X.getD i 0 := fun i hi => by
    rw [List.getD_eq_getElem?_getD, List.getD_eq_getElem?_getD, List.append_assoc, List.getElem?_append_left (by simp; omega), List.getElem?_take_of_lt hi]
  have g2 : (X.take k ++ [g] ++ X.drop k).getD k 0 = g := by
    rw [List.getD_eq_getElem?_getD, List.append_assoc, List.getElem?_append_right (by simp; omega)]
    simp [Nat.min_eq_left hk]
  have g3 : ∀ i, k ≤ i → (X.take k ++ [g] ++ X.drop k).getD (i + 1) 0 = X.getD i 0 := fun i hi => by
    rw [List.getD_eq_getElem?_getD, List.getD_eq_getElem?_getD, List.getElem?_append_right (by simp; omega), List.getElem?_drop]
    congr 2
    simp
    omega
  have a : ∀ i, i ≤ k → et X (X.take k ++ [g] ++ X.drop k) g i i ≤ 0 := by
    intro i
    induction i with
    | zero => intro _; rw [et_00]; omega
    | succ i ih =>
      intro hi
      have := ih (by omega)
      have b := et_diag X (X.take k ++ [g] ++ X.drop k) g i i
      rw [g1 i (by omega), ab_self] at b
      omega
  have b := et_left X (X.take k ++ [g] ++ X.drop k) g k k
  rw [g2, ab_self] at b
  have c : ∀ i, et X (X.take k ++ [g] ++ X.drop k) g (k + i) (k + i + 1) ≤ 0 := by
    intro i
    induction i with
    | zero => have := a k (Nat.le_refl _); simpa using (by omega : et X (X.take k ++ [g] ++ X.drop k) g k (k + 1) ≤ 0)
    | succ i ih =>
      have d := et_diag X (X.take k ++ [g] ++ X.drop k) g (k + i) (k + i + 1)
      rw [g3 (k + i) (by omega), ab_self] at d
      have : et X (X.take k ++ [g] ++ X.drop k) g (k + i + 1) (k + i + 1 + 1) ≤ 0 := by omega
      exact this
  have d := c (X.length - k)
  rw [show k + (X.length - k) = X.length by omega] at d
  omega
/-- the difference of the sums of what is above the gap -/
def ov (X : List Int) (g : Int) (i : Nat) : Int := su ix (X.take i) - (i : Int) * g
theorem ov_next (X : List Int) (g : Int) (i : Nat) (h : i < X.length) : ov X g (i + 1) = ov X g i + (X.getD i 0 - g) := by
  unfold ov
  rw [su_next ix X i h]
  unfold ix
  rw [show ((i + 1 : Nat) : Int) = (i : Int) + 1 by omega]
  grind
theorem et_sum (X Y : List Int) (g : Int) : ∀ (n i j : Nat), i + j = n → i ≤ X.length → j ≤ Y.length → ab (ov X g i - ov Y g j) ≤ et X Y g i j := by
  intro n
  induction n using Nat.strongRecOn with
  | _ n ih =>
    intro i j h hi hj
    rcases Nat.eq_zero_or_pos (i + j) with h0 | h0
    · obtain rfl : i = 0 := by omega
      obtain rfl : j = 0 := by omega
      rw [et_00]; simp [ov, su, ab]
    · rcases et_or X Y g i j h0 with ⟨p, q, rfl, rfl, e⟩ | ⟨p, rfl, e⟩ | ⟨q, rfl, e⟩
      · have a := ih (p + q) (by omega) p q rfl (by omega) (by omega)
        have b := ov_next X g p (by omega)
        have c := ov_next Y g q (by omega)
        rw [e, b, c]
        unfold ab at *
        revert a
        split <;> split <;> split <;> omega
      · have a := ih (p + j) (by omega) p j rfl (by omega) (by omega)
        have b := ov_next X g p (by omega)
        rw [e, b]
        unfold ab at *
        revert a
        split <;> split <;> split <;> omega
      · have a := ih (i + q) (by omega) i q rfl (by omega) (by omega)
        have c := ov_next Y g q (by omega)
        rw [e, c]
        unfold ab at *
        revert a
        split <;> split <;> split <;> omega
def ax (x : Int) : Int := ab x
theorem et_dia (X Y : List Int) (g : Int) (hl : X.length = Y.length) : ∀ i, i ≤ X.length → et X Y g i i ≤ su ax ((df X Y).take i) := by
  intro i
  induction i with
  | zero => intro _; rw [et_00]; simp [su]
  | succ i ih =>
    intro hi
    have a := ih (by omega)
    have b := et_diag X Y g i i
    rw [su_next ax (df X Y) i (by rw [df_len hl]; omega), df_at hl i (by omega)]
    unfold ax at *
    omega
end Go.Proofs.YtpbnabibnkohdaaGreatDoor.Wi
namespace Go.Proofs.YtpbnabibnkohdaaGreatDoor.Ed
open Go.ChangeShapes Go.WideShapes Go.RowKit Wo Sr Wi
set_option linter.unusedVariables false
theorem abs_ok (n : Int) (h0 : -4611686018427387904 ≤ n) (h1 : n ≤ 4611686018427387904) (w : World) : Calls Tryz.prog 47 #[.int .i64 n] w fun e w' => e = .returned (.int .i64 (ab n)) ∧ w = w' := by
  unfold ab
  rcases Int.lt_trichotomy n 0 with h | rfl | h
  · rw [if_pos h]
    go_enter Tryz.func47, Tryz.ntmps47
    go_wp2
    go_ret
    first | exact ⟨rfl, rfl⟩ | exact ⟨ret_int (by omega), rfl⟩
  · go_enter Tryz.func47, Tryz.ntmps47
    go_wp2
    go_ret
    first | exact ⟨rfl, rfl⟩ | exact ⟨ret_int (by omega), rfl⟩
  · rw [if_neg (by omega)]
    go_enter Tryz.func47, Tryz.ntmps47
    go_wp2
    go_ret
    first | exact ⟨rfl, rfl⟩ | exact ⟨ret_int (by omega), rfl⟩
set_option maxHeartbeats 4000000 in
theorem windows_ok (A A' : Option Addr) (c c' n m : Nat) (L M : List Int) (b : Int) (n1 : 2 ≤ n) (n2 : n ≤ 32) (m1 : 2 ≤ m) (m2 : m ≤ 32) (b1 : (n : Int) - (m : Int) ≤ b) (b2 : (m : Int) - (n : Int) ≤ b) (hs : Sam L) (ht : Sam M) (w : World) (h1 : Zi w A n L) (h2 : Zi w A' m M) :
    Calls Tryz.prog 52 #[.slice A n c, .slice A' m c', .int .i64 b] w fun e w' => e = .returned (.int .i64 0) ∧ Bel w w' := by
  have H1 := Lib.hid h1
  have H2 := Lib.hid h2
  have HS := Lib.hid hs
  have HT := Lib.hid ht
  have i1 : 2 ≤ (n : Int) := by omega
  have i2 : (n : Int) ≤ 32 := by omega
  have i3 : 2 ≤ (m : Int) := by omega
  have i4 : (m : Int) ≤ 32 := by omega
  clear h1 h2 hs ht
  go_enter Tryz.func52, Tryz.ntmps52
  go_wp2_with fail
  go_at_call 49
  refine (length_ok (n : Int) i1 i2 _).mono ?_
  rintro e v ⟨rfl, rfl⟩
  go_wp2_with fail
  go_at_call 49
  refine (length_ok (m : Int) i3 i4 _).mono ?_
  rintro e v ⟨rfl, rfl⟩
  go_wp2_with fail
  go_at_call 50
  refine (samples_ok A c n L (by omega) HS.out _ H1.out).mono ?_
  rintro e w1 ⟨rfl, hb1⟩
  have HB1 := Lib.hid hb1
  clear hb1
  go_wp2_with (go_at_call 50; refine (samples_ok A' c' m M (by omega) HT.out _ (H2.out.bel HB1.out)).mono ?_; rintro e w2 ⟨rfl, hb2⟩)
  go_ret
  exact ⟨rfl, HB1.out.tr hb2⟩
theorem check_ok (A A' : Option Addr) (c c' n m : Nat) (L M : List Int) (g : Int) (n1 : 2 ≤ n) (n2 : n ≤ 32) (m1 : 2 ≤ m) (m2 : m ≤ 32) (g0 : -1000 ≤ g) (g1 : g ≤ 1000) (hs : Sam L) (ht : Sam M) (w : World) (h1 : Zi w A n L) (h2 : Zi w A' m M) :
    Calls Tryz.prog 105 #[.slice A n c, .slice A' m c', .int .i64 g] w fun e w' => e = .returned (.int .i64 0) ∧ Bel w w' := by
  have HW := Lib.hid (windows_ok A A' c c' n m L M 32 n1 n2 m1 m2 (by omega) (by omega) hs ht w h1 h2)
  clear h1 h2 hs ht
  go_enter Tryz.func105, Tryz.ntmps105
  go_wp2_with fail
  go_at_call 69
  refine (sample_ok g g0 g1 _).mono ?_
  rintro e v ⟨rfl, rfl⟩
  go_wp2_with (go_at_call 52; refine HW.out.mono ?_; rintro e w2 ⟨rfl, hb2⟩)
  go_ret
  exact ⟨rfl, hb2⟩
theorem own_take {w : World} {base n m c g : Nat} {M : List Int} (h : w.ownsRow base 3 1 (.slice (some ⟨g, 0, none⟩) n c) n (zs M)) (hM : M.length = n) (hm : m ≤ n) : w.ownsRow base 3 1 (.slice (some ⟨g, 0, none⟩) m c) m (zs (M.take m)) := by
  refine ⟨by rw [zs_len, List.length_take]; omega, ?_⟩
  rcases h.2 with ⟨h0, _⟩ | ⟨g', cap, cur, e1, hb, hg, h1, h2, h3, h4⟩
  · cases h0
  · injection e1 with e1 e2 e3
    injection e1 with e1
    cases e1
    subst e3
    refine .inr ⟨g, c, cur, rfl, hb, hg, by omega, h2, h3, ?_⟩
    have e : (cur.toList.take (n * 1)).take (m * 1) = cur.toList.take (m * 1) := by rw [List.take_take]; congr 1; omega
    rw [← e, h4]
    simp [zs, List.map_take]
/-- two windows, the second not longer, and a gap -/
def SomeW (g : Nat) (w : World) (e : Ending) (w' : World) : Prop := ∃ (a b c d n m : Nat) (L M : List Int) (k : Int), e = .returned (.tuple #[.slice (some ⟨a, 0, none⟩) n b, .slice (some ⟨c, 0, none⟩) m d, .int .i64 k]) ∧ 2 ≤ n ∧ n ≤ 32 ∧ 2 ≤ m ∧ m ≤ n ∧ a < c ∧ n ≤ b ∧ m ≤ d ∧ -1000 ≤ k ∧ k ≤ 1000 ∧
  w'.ownsRow w.heap.size 3 1 (.slice (some ⟨a, 0, none⟩) n b) n (zs L) ∧ w'.ownsRow w.heap.size 3 1 (.slice (some ⟨c, 0, none⟩) m d) m (zs M) ∧ L.length = n ∧ M.length = m ∧ Sam L ∧ Sam M ∧ Ok w' g ∧ Ch g w w'
theorem own_cap {w : World} {base h n c : Nat} {xs : List Value} {e : TypeId} (hown : w.ownsRow base e 1 (.slice (some ⟨h, 0, none⟩) n c) n xs) : n ≤ c := by
  rcases hown.2 with ⟨h0, _⟩ | ⟨g, cap, cur, e1, hb, hg, h1, _⟩
  · cases h0
  · injection e1 with e1 e2 e3
    subst e3
    exact h1
end Go.Proofs.YtpbnabibnkohdaaGreatDoor.Ed
namespace Go.Proofs.YtpbnabibnkohdaaGreatDoor.Ed
open Go.ChangeShapes Go.WideShapes Go.RowKit Wo Sr Wi
set_option linter.unusedVariables false
theorem bel_grown {w a b : World} {row : Option Nat} (h : Bel w a) (hg : a.grownBy b row) (hr : ∀ q, row = some q → w.heap.size ≤ q) : Bel w b := Below.grown h hg h.size hr
theorem own_base {w : World} {base size n : Nat} {e : TypeId} {v : Value} {xs : List Value} (h : w.ownsRow base e size v n xs) : ∀ q, v.ownBlock = some q → base ≤ q := fun q e => (h.lt q e).1
theorem zs_one (M : List Int) : ∀ u ∈ zs M, u.oneCell' = true := by
  intro u hu
  obtain ⟨x, _, rfl⟩ := List.mem_map.1 hu
  rfl
theorem zi_news {w : World} {ad : Addr} {m : Nat} {M : List Int} (hz : Zi w (some ad) m M) : ∀ j u, (zs M)[j]? = some u → w.cell? (ad.add j) = some u := by
  intro j u hu
  have hj : j < M.length := by
    rcases Nat.lt_or_ge j M.length with h | h
    · exact h
    · rw [List.getElem?_eq_none (by rw [zs_len]; exact h)] at hu; cases hu
  obtain ⟨ad', e, _, hcc⟩ := hz.2 (by have := hz.1; omega)
  cases e
  rw [zs_at hj] at hu
  cases hu
  exact hcc j (by have := hz.1; omega)
theorem run_app (w : World) (ty : TypeId) (base : Nat) (v : Value) (n : Nat) (L : List Int) (hown : w.ownsRow base 3 1 v n (zs L)) (ad : Addr) (m c : Nat) (M : List Int) (hz : Zi w (some ad) m M) (hn : n + m ≤ 1000000) (hbase : base ≤ w.heap.size) :
    ∃ v' w', (Builtin.append_ #[22, 22] ty #[v, .slice (some ad) m c]).run Tryz.prog w = .ok v' w' ∧ w'.ownsRow base 3 1 v' (n + m) (zs (L ++ M)) ∧ w.grownBy w' v.ownBlock ∧ (v'.ownBlock = v.ownBlock ∨ v'.ownBlock = some w.heap.size) := by
  obtain ⟨i0, hi0, hz0, hz1, hz2⟩ := info_parts info_int
  obtain ⟨v', w', hr, h2, h3, _, h5⟩ := run_append_own_at (P := Tryz.prog) w base 22 ty 3 i0 (.int .i64 0) 1 8 Tryz.underlying22 hi0 hz0 hz1 hz2 (by rfl) (by omega) v n (zs L) hown ad m c (zs M) (by rw [zs_len, hz.1]; omega) (zi_news hz) (zs_one M) (by unfold maxLen; omega) (by omega) hbase
  exact ⟨v', w', hr, by rw [zs_app]; exact h2, h3, h5⟩
theorem wp_app (w : World) {o : Oper} {a : Act} {K : Act → World → Prop} {Q : Exit → Act → World → Prop} (s x : Operand)
    (ho : o.op = .call { callee := .builtin .append, args := #[s, x], argTypes := #[22, 22] })
    (base : Nat) (v : Value) (n : Nat) (L : List Int) (hs : a.eval s = v) (hown : w.ownsRow base 3 1 v n (zs L)) (ad : Addr) (m c : Nat) (M : List Int) (hx : a.eval x = .slice (some ad) m c) (hz : Zi w (some ad) m M) (hn : n + m ≤ 1000000) (hbase : base ≤ w.heap.size)
    (h : ∀ v' w', w'.ownsRow base 3 1 v' (n + m) (zs (L ++ M)) → w.grownBy w' v.ownBlock → (v'.ownBlock = v.ownBlock ∨ v'.ownBlock = some w.heap.size) → K (a.put o.dst v') w') : o.wp Tryz.prog a w K Q := by
  obtain ⟨v', w', hr, h2, h3, h5⟩ := run_app w o.type base v n L hown ad m c M hz hn hbase
  unfold Oper.wp execOp
  simp only [ho, resolve, invoke, builtin, Sem.run_bind, Sem.run_pure, Result.andThen_ok, List.map_toArray, List.map_cons, List.map_nil, hs, hx, hr]
  exact h v' w' h2 h3 h5
theorem step_app (w : World) {ops : Array Oper} {o : Oper} {a : Act} {K : Act → World → Prop} {Q : Exit → Act → World → Prop} {E : Prop} (hgd : o.guard = none) (s x : Operand)
    (ho : o.op = .call { callee := .builtin .append, args := #[s, x], argTypes := #[22, 22] })
    (base : Nat) (v : Value) (n : Nat) (L : List Int) (hs : a.eval s = v) (hown : w.ownsRow base 3 1 v n (zs L)) (ad : Addr) (m c : Nat) (M : List Int) (hx : a.eval x = .slice (some ad) m c) (hz : Zi w (some ad) m M) (hn : n + m ≤ 1000000) (hbase : base ≤ w.heap.size)
    (h : ∀ v' w', w'.ownsRow base 3 1 v' (n + m) (zs (L ++ M)) → w.grownBy w' v.ownBlock → (v'.ownBlock = v.ownBlock ∨ v'.ownBlock = some w.heap.size) → K (a.put o.dst v') w') :
    if Region.wanted o (yielded ops a.tmps) = true then Oper.wp Tryz.prog o a w K Q else E := by
  have hw : Region.wanted o (yielded ops a.tmps) = true := by simp [Region.wanted, hgd]
  rw [if_pos hw]
  exact wp_app w s x ho base v n L hs hown ad m c M hx hz hn hbase h
theorem list_app (w : World) {ops : Array Oper} {rest : List Oper} {o : Oper} {a : Act} {Q : Exit → Act → World → Prop} (hgd : o.guard = none) (s x : Operand)
    (ho : o.op = .call { callee := .builtin .append, args := #[s, x], argTypes := #[22, 22] })
    (base : Nat) (v : Value) (n : Nat) (L : List Int) (hs : a.eval s = v) (hown : w.ownsRow base 3 1 v n (zs L)) (ad : Addr) (m c : Nat) (M : List Int) (hx : a.eval x = .slice (some ad) m c) (hz : Zi w (some ad) m M) (hn : n + m ≤ 1000000) (hbase : base ≤ w.heap.size)
    (h : ∀ v' w', w'.ownsRow base 3 1 v' (n + m) (zs (L ++ M)) → w.grownBy w' v.ownBlock → (v'.ownBlock = v.ownBlock ∨ v'.ownBlock = some w.heap.size) → wpList Tryz.prog ops Q rest (a.put o.dst v') w') : wpList Tryz.prog ops Q (o :: rest) a w :=
  wpList_plain hgd fun _ hK => wp_app w s x ho base v n L hs hown ad m c M hx hz hn hbase fun v' w' h2 h3 h5 => hK _ _ (h v' w' h2 h3 h5)
def mix (f : Int → Int) (L : List Int) (t : Nat) : List Int := (L.map f).take t ++ L.drop t
theorem mix_len (f : Int → Int) (L : List Int) (t : Nat) : (mix f L t).length = L.length := by simp [mix]; omega
theorem mix_at (f : Int → Int) (L : List Int) (t : Nat) (h : t < L.length) : (mix f L t).getD t 0 = L.getD t 0 := by
  simp only [mix, List.getD_eq_getElem?_getD]
  rw [List.getElem?_append_right (by simp; omega)]
  simp [List.length_take, Nat.min_eq_left (Nat.le_of_lt h)]
theorem mix_set (f : Int → Int) (L : List Int) (t : Nat) (h : t < L.length) : (mix f L t).set t (f (L.getD t 0)) = mix f L (t + 1) := by
  unfold mix
  have e : L.drop t = L.getD t 0 :: L.drop (t + 1) := by
    rw [List.drop_eq_getElem_cons h, List.getD_eq_getElem?_getD, List.getElem?_eq_getElem h]; rfl
  rw [e, List.set_append_right _ _ (by simp; omega)]
  have e2 : t - ((L.map f).take t).length = 0 := by simp; omega
  rw [e2, List.set_cons_zero, take_snoc (L.map f) t (by simpa using h), List.append_assoc]
  congr 2
  simp [List.getD_eq_getElem?_getD, h]
theorem mix_all (f : Int → Int) (L : List Int) : mix f L L.length = L.map f := by
  unfold mix
  rw [List.drop_length, List.append_nil, List.take_of_length_le (by simp)]
theorem map_at (f : Int → Int) (L : List Int) (t : Nat) (h : t < L.length) : (L.map f).getD t 0 = f (L.getD t 0) := by
  rw [List.getD_eq_getElem?_getD, List.getD_eq_getElem?_getD, List.getElem?_map, List.getElem?_eq_getElem h]; rfl
theorem zi_one {W : World} {g : Nat} {x : Int} (hb : Bk W g 3 #[.int .i64 x]) : Zi W (some ⟨g, 0, none⟩) 1 [x] := zi_bk (L := [x]) hb 1 rfl
theorem bk_grown {W W' : World} {g N : Nat} {t : TypeId} {cs : Array Value} {row : Option Nat} (h : Bk W g t cs) (hg : W.grownBy W' row) (hr : ∀ b, row = some b → b < N) (hN : N ≤ g) : Bk W' g t cs :=
  (hg.block g h.lt (fun e => by have := hr g e.symm; omega)).trans h
/-- four fifths -/
def fif (a : Int) : Int := (a * 4).tdiv 5
theorem fif_in {a : Int} (h0 : -1000 ≤ a) (h1 : a ≤ 1000) : -800 ≤ fif a ∧ fif a ≤ 800 := by
  unfold fif
  rcases Int.lt_or_le a 0 with h | h
  · have e : (a * 4).tdiv 5 = -((-(a * 4)).tdiv 5) := by rw [Int.neg_tdiv, Int.neg_neg]
    rw [e, Int.tdiv_eq_ediv_of_nonneg (by omega)]
    omega
  · rw [Int.tdiv_eq_ediv_of_nonneg (by omega)]
    omega
/-- t samples have been scaled, and appended shifted -/
def SL (X : List Int) (b : Int) (n h c B0 : Nat) (v : World) (s7 s21 : Value) (wr : World) : Prop := ∃ (t : Nat) (V : World) (u : Value), V = wr ∧ u = s7 ∧ t ≤ n ∧ s21 = .int .i64 (t : Int) ∧
  wr.ownsRow B0 3 1 (.slice (some ⟨h, 0, none⟩) n c) n (zs (mix fif X t)) ∧ wr.ownsRow v.heap.size 3 1 s7 t (zs (((X.map fif).take t).map (· + b))) ∧ Ch h v wr ∧ v.heap.size ≤ wr.heap.size
theorem sl_step {X : List Int} {b y : Int} {n h c B0 t : Nat} {v wr w2 : World} {s7 v' : Value} (ht : t < n) (hL : X.length = n) (hhB : h < v.heap.size) (hy : fif (X.getD t 0) = y)
    (h1 : wr.ownsRow B0 3 1 (.slice (some ⟨h, 0, none⟩) n c) n (zs (mix fif X t))) (h2 : wr.ownsRow v.heap.size 3 1 s7 t (zs (((X.map fif).take t).map (· + b)))) (hb : Ch h v wr) (hB : v.heap.size ≤ wr.heap.size)
    (h3 : w2.ownsRow v.heap.size 3 1 v' (t + 1) (zs (((X.map fif).take t).map (· + b) ++ [y + b])))
    (hgr : ((wr.setCell ⟨h, t, none⟩ (.int .i64 y)).alloc (.cells #[.int .i64 (y + b)] 3)).grownBy w2 s7.ownBlock) :
    SL X b n h c B0 v v' (.int .i64 ((t : Int) + 1)) w2 := by
  have hrow : ∀ q, s7.ownBlock = some q → v.heap.size ≤ q := fun q e => (h2.lt q e).1
  have k1 : ((wr.setCell ⟨h, t, none⟩ (.int .i64 y)).alloc (.cells #[.int .i64 (y + b)] 3)).ownsRow B0 3 1 (.slice (some ⟨h, 0, none⟩) n c) n (zs (mix fif X (t + 1))) := by
    rw [← mix_set fif X t (by omega), hy]
    exact (own_set h1 y).alloc _
  have k2 : Ch h v ((wr.setCell ⟨h, t, none⟩ (.int .i64 y)).alloc (.cells #[.int .i64 (y + b)] 3)) := (hb.st t _).al _
  refine ⟨t + 1, _, _, rfl, rfl, by omega, by congr 1, ?_, ?_, ?_, ?_⟩
  · exact k1.kept hgr (.inr (fun e => by have := hrow h e.symm; omega))
  · have e : ((X.map fif).take (t + 1)).map (· + b) = ((X.map fif).take t).map (· + b) ++ [y + b] := by
      rw [take_snoc (X.map fif) t (by simp; omega), List.map_append]
      have : (X.map fif).getD t 0 = y := by rw [← hy]; simp [List.getD_eq_getElem?_getD, show t < X.length by omega]
      rw [this]; rfl
    rw [e]
    exact h3
  · exact ch_grown k2 hgr hrow
  · have := hgr.size
    simp [World.setCell] at this
    omega
/-- t samples have been appended in reverse order -/
def RL (X : List Int) (n : Nat) (v : World) (s7 s21 : Value) (wr : World) : Prop := ∃ (t : Nat) (V : World) (u : Value), V = wr ∧ u = s7 ∧ t ≤ n ∧ s21 = .int .i64 (t : Int) ∧ wr.ownsRow v.heap.size 3 1 s7 t (zs (X.reverse.take t)) ∧ Bel v wr
theorem rl_step {X : List Int} {y : Int} {n t j : Nat} {v wr w2 : World} {s7 v' : Value} (ht : t < n) (hL : X.length = n) (hj : n - 1 - t = j) (hy : X.getD j 0 = y)
    (h2 : wr.ownsRow v.heap.size 3 1 s7 t (zs (X.reverse.take t))) (hb : Bel v wr)
    (h3 : w2.ownsRow v.heap.size 3 1 v' (t + 1) (zs (X.reverse.take t ++ [y]))) (hgr : (wr.alloc (.cells #[.int .i64 y] 3)).grownBy w2 s7.ownBlock) :
    RL X n v v' (.int .i64 ((t : Int) + 1)) w2 := by
  refine ⟨t + 1, _, _, rfl, rfl, by omega, by congr 1, ?_, bel_grown (hb.al _) hgr (own_base h2)⟩
  have h0 : X.reverse.getD (X.length - 1 - j) 0 = X.getD j 0 := rev_at (by omega)
  have e : X.reverse.getD t 0 = y := by rw [show X.length - 1 - j = t by omega] at h0; rw [h0]; exact hy
  rw [take_snoc X.reverse t (by rw [List.length_reverse]; omega), e]
  exact h3
theorem own_made {base : Nat} (W : World) (q : Nat) (hq : W.heap.size = q) (hb : base ≤ q) : (W.alloc (.cells #[] 3)).ownsRow base 3 1 (.slice (some ⟨q, 0, none⟩) 0 0) 0 (zs []) := by
  subst hq
  exact World.ownsRow_made (base := base) (e := 3) (size := 1) W #[] 0 hb (by unfold maxLen; omega) rfl
theorem zi_none {W : World} {A : Option Addr} : Zi W A 0 [] := ⟨rfl, fun h => by omega⟩
theorem zi_part {w : World} {h N : Nat} {Z : List Int} (hz : Zi w (some ⟨h, 0, none⟩) N Z) (i n : Nat) (hi : i + n ≤ N) : Zi w (some ⟨h, i, none⟩) n ((Z.drop i).take n) := by
  have hl := hz.1
  refine ⟨by simp; omega, fun hn => ?_⟩
  obtain ⟨ad, e, hx, _⟩ := hz.2 (by omega)
  cases e
  refine ⟨_, rfl, hx, fun j hj => ?_⟩
  have := hz.at (i + j) (by omega)
  rw [show (⟨h, i, none⟩ : Addr).add j = ⟨h, i + j, none⟩ by unfold Addr.add; split <;> simp_all, this]
  simp [List.getD_eq_getElem?_getD, hj]
theorem et_move (X Y : List Int) (g b : Int) (n m : Nat) (hx : X.length = n) (hy : Y.length = m) : et (X.map (· + b)) (Y.map (· + b)) (g + b) n m = et X Y g n m := by
  refine (et_cong (n := n) (m := m) (fun i hi => ?_) (fun j hj => ?_) _ n m rfl (Nat.le_refl _) (Nat.le_refl _)).symm
  · rw [map_at _ _ _ (by omega)]; omega
  · rw [map_at _ _ _ (by omega)]; omega
theorem et_puts (X Y : List Int) (g : Int) (k n m : Nat) (hk : k ≤ n) (hx : X.length = n) : et (X.take k ++ [g] ++ X.drop k) Y g (n + 1) m = et X Y g n m := by
  have p := et_put X g k (by omega)
  rw [hx] at p
  have p2 := et_sym X (X.take k ++ [g] ++ X.drop k) g _ n (n + 1) rfl
  have a := et_tri (X.take k ++ [g] ++ X.drop k) X Y g _ (n + 1) n m rfl
  have b := et_tri X (X.take k ++ [g] ++ X.drop k) Y g _ n (n + 1) m rfl
  omega
end Go.Proofs.YtpbnabibnkohdaaGreatDoor.Ed
namespace Go.Proofs.YtpbnabibnkohdaaGreatDoor.Wa
open Go.ChangeShapes Go.WideShapes Go.RowKit Wo Sr Wi Ed
set_option linter.unusedVariables false
theorem warped_ok (A A' : Option Addr) (c c' n m : Nat) (L M : List Int) (b : Int) (n1 : 2 ≤ n) (n2 : n ≤ 32) (m1 : 2 ≤ m) (m2 : m ≤ 32) (b0 : 0 ≤ b) (b32 : b ≤ 32) (b1 : (n : Int) - (m : Int) ≤ b) (b2 : (m : Int) - (n : Int) ≤ b) (hs : Sam L) (ht : Sam M) (w : World) (h1 : Zi w A n L) (h2 : Zi w A' m M) :
    Calls Tryz.prog 31 #[.slice A n c, .slice A' m c', .int .i64 b] w fun e w' => e = .returned (.int .i64 0) ∧ Bel w w' := by
  have HW := Lib.hid (windows_ok A A' c c' n m L M b n1 n2 m1 m2 b1 b2 hs ht w h1 h2)
  clear h1 h2 hs ht
  go_enter Tryz.func31, Tryz.ntmps31
  go_wp2_with (go_at_call 52; refine HW.out.mono ?_; rintro e w2 ⟨rfl, hb2⟩)
  go_ret
  exact ⟨rfl, hb2⟩
/-- two windows in new rows and a band that they fit -/
def SomeU (g : Nat) (w : World) (e : Ending) (w' : World) : Prop := ∃ (a b c d n m : Nat) (L M : List Int) (k : Int), e = .returned (.tuple #[.slice (some ⟨a, 0, none⟩) n b, .slice (some ⟨c, 0, none⟩) m d, .int .i64 k]) ∧ 2 ≤ n ∧ n ≤ 32 ∧ 2 ≤ m ∧ m ≤ 32 ∧ a ≠ c ∧ n ≤ b ∧ m ≤ d ∧ 0 ≤ k ∧ k ≤ 32 ∧ (n : Int) - (m : Int) ≤ k ∧ (m : Int) - (n : Int) ≤ k ∧
  w'.ownsRow w.heap.size 3 1 (.slice (some ⟨a, 0, none⟩) n b) n (zs L) ∧ w'.ownsRow w.heap.size 3 1 (.slice (some ⟨c, 0, none⟩) m d) m (zs M) ∧ L.length = n ∧ M.length = m ∧ Sam L ∧ Sam M ∧ Ok w' g ∧ Ch g w w'
end Go.Proofs.YtpbnabibnkohdaaGreatDoor.Wa
namespace Go.Proofs.YtpbnabibnkohdaaGreatDoor.Wa
open Go.ChangeShapes Go.WideShapes Go.RowKit Wo Sr Wi Ed
set_option linter.unusedVariables false
set_option maxRecDepth 100000 in
theorem square_ok (d : Int) (h0 : -2000 ≤ d) (h1 : d ≤ 2000) (w : World) : Calls Tryz.prog 55 #[.int .i64 d] w fun e w' => e = .returned (.int .i64 (d * d)) ∧ w = w' := by
  have hb := sq_bd (B := 2000) h0 h1
  have w1 : wrap64 (d * d) = d * d := IntWalk.wrap64_in _ (by omega)
  go_enter Tryz.func55, Tryz.ntmps55
  go_wp2
  go_ret
  exact ⟨rfl, rfl⟩
set_option maxRecDepth 100000 in
theorem mul64_one (k : Nat) (hk : k ≤ 1000) (w : World) : Calls Tryz.prog 127 #[.int .u64 1, .int .u64 (k : Int)] w fun e w' => e = .returned (.tuple #[.int .u64 0, .int .u64 (k : Int)]) ∧ w = w' := by
  have a1 : bits .and .u64 1 4294967295 = 1 := by decide
  have a2 : bits .and .u64 (k : Int) 4294967295 = (k : Int) := by
    have h := bits_and_u64_nat k 4294967295 (by omega) (by omega)
    have e : k &&& 4294967295 = k % 4294967296 := Nat.and_two_pow_sub_one_eq_mod k 32
    rw [e, Nat.mod_eq_of_lt (by omega)] at h
    exact h
  have a3 : bits .and .u64 0 4294967295 = 0 := by decide
  have ki : (k : Int) ≤ 1000 := by omega
  have w1 : (k : Int) / 4294967296 = 0 := by omega
  have w2 : (k : Int) % 18446744073709551616 = (k : Int) := by omega
  have w3 : IntKind.u64.wrap (k : Int) = (k : Int) := by rw [IntKind.wrap_u64]; omega
  have w4 : IntKind.u64.wrap 0 = 0 := by decide
  clear ki
  go_enter Tryz.func127, Tryz.ntmps127
  go_wp2
  go_ret2
  exact ⟨rfl, rfl⟩
set_option maxRecDepth 100000 in
theorem mul_one (k : Nat) (hk : k ≤ 1000) (w : World) : Calls Tryz.prog 99 #[.int .u64 1, .int .u64 (k : Int)] w fun e w' => e = .returned (.tuple #[.int .u64 0, .int .u64 (k : Int)]) ∧ w = w' := by
  go_enter Tryz.func99, Tryz.ntmps99
  go_wp2_with (go_at_call 127; refine (mul64_one k hk _).mono ?_; rintro e w2 ⟨rfl, rfl⟩)
  go_ret2
  exact ⟨rfl, rfl⟩
set_option maxRecDepth 100000 in
theorem splice_zs (Z Y : List Int) (n : Nat) : splice (zs Z) n (zs Y) = zs (splice Z n Y) := by
  simp [splice, zs]
theorem splice_rep {Z : List Int} {x : Int} {k n q : Nat} (hl : Z.length = k) (hq : n + q ≤ k) (hz : ∀ i, i < n → Z.getD i 0 = x) : (splice Z n (List.replicate q x)).length = k ∧ ∀ i, i < n + q → (splice Z n (List.replicate q x)).getD i 0 = x := by
  refine ⟨by rw [length_splice _ _ _ (by simp; omega)]; exact hl, fun i hi => ?_⟩
  unfold splice
  rw [List.getD_eq_getElem?_getD]
  rcases Nat.lt_or_ge i n with h | h
  · rw [List.getElem?_append_left (by simp; omega), List.getElem?_take_of_lt h, ← List.getD_eq_getElem?_getD]
    exact hz i h
  · rw [List.getElem?_append_right (by simp; omega), List.getElem?_append_left (by simp; omega)]
    have e : i - min n Z.length < q := by omega
    simp [e]
set_option maxRecDepth 100000 in
theorem all_rep {Z : List Int} {x : Int} {k : Nat} (hl : Z.length = k) (hz : ∀ i, i < k → Z.getD i 0 = x) : Z = List.replicate k x := by
  apply List.ext_getElem?
  intro i
  rcases Nat.lt_or_ge i k with h | h
  · have := hz i h
    rw [List.getD_eq_getElem?_getD, List.getElem?_eq_getElem (by omega)] at this
    rw [List.getElem?_eq_getElem (by omega), List.getElem?_replicate, if_pos h]
    exact congrArg some this
  · rw [List.getElem?_eq_none (by omega), List.getElem?_eq_none (by simpa using h)]
set_option maxRecDepth 100000 in
theorem size_int : (Tryz.prog.info? 3).map (·.size) = some 1 := by kernel_rfl
set_option maxHeartbeats 4000000 in
theorem repeat_ok (g : Nat) (x : Int) (k : Nat) (k1 : 1 ≤ k) (k2 : k ≤ 100) (w : World) (hc : w.cell? ⟨g, 0, none⟩ = some (.int .i64 x)) :
    Calls Tryz.prog 66 #[.slice (some ⟨g, 0, none⟩) 1 1, .int .i64 (k : Int)] w fun e w' => e = .returned (.slice (some ⟨w.heap.size, 0, none⟩) k k) ∧ Bk w' w.heap.size 3 (zs (List.replicate k x)).toArray ∧ Bel w w' := by
  have ki1 : 1 ≤ (k : Int) := by omega
  have ki2 : (k : Int) ≤ 100 := by omega
  have wk : IntKind.u64.wrap (k : Int) = (k : Int) := by rw [IntKind.wrap_u64]; omega
  have wk2 : wrap64 (k : Int) = (k : Int) := IntWalk.wrap64_in _ (by omega)
  have wk3 : IntKind.i64.wrap (k : Int) = (k : Int) := IntWalk.i64_in _ (by omega)
  obtain ⟨i0, hi0, hz0, hz1, hz2⟩ := info_parts info_int
  have HI := Lib.hid (And.intro hi0 (And.intro hz0 (And.intro hz1 hz2)))
  have HC := Lib.hid hc
  have hw := World.block_lt_of_cell? w _ hc
  have HNW := Lib.hid (Bk.nw w 3 (zs (List.replicate k 0)).toArray)
  have HCA : Hid ((w.alloc (.cells (zs (List.replicate k 0)).toArray 3)).cell? ⟨g, 0, none⟩ = some (.int .i64 x)) := kp_al hc _
  have HMIN : Hid ((zs [x]).length = Nat.min 1 k) := by show 1 = min 1 k; omega
  have HFT : Hid (0 + (zs [x]).length ≤ (zs (List.replicate k 0)).length) := by show 0 + 1 ≤ _; rw [zs_len, List.length_replicate]; omega
  have HSR0 : Hid (∀ j v, (zs [x])[j]? = some v → (w.alloc (.cells (zs (List.replicate k 0)).toArray 3)).cell? ((⟨g, 0, none⟩ : Addr).add j) = some v) := fun j v hv => by
    rcases j with _ | j
    · have hv2 : (Value.int .i64 x) = v := by simpa [zs] using hv
      rw [← hv2, add_row]; exact HCA.out
    · simp [zs] at hv
  clear hi0 hz0 hz1 hz2 hc hw
  go_enter Tryz.func66, Tryz.ntmps66
  go_wp2_with (first
    | (go_at_call 99; refine (mul_one k (by omega) _).mono ?_; rintro e w2 ⟨rfl, rfl⟩)
    | (refine wpList_make_any _ rfl (.tmp 29) (.tmp 29) 22 rfl 3 i0 (.int .i64 0) 1 Tryz.underlying22 HI.out.1 HI.out.2.1 HI.out.2.2.1 .i64 .i64 _ _ k k rfl rfl rfl rfl (by omega) (by rw [HI.out.2.2.2]; omega) (by omega) ?_; rw [made_i64])
    | (refine wpList_copy_splice rfl (.tmp 31) (.tmp 32) 22 22 rfl 3 Tryz.underlying22 size_int (some ⟨w.heap.size, 0, none⟩) (some ⟨g, 0, none⟩) k k 1 1 rfl rfl w.heap.size 0 (zs (List.replicate k 0)) 3 HNW.out (zs [x]) HMIN.out (fun _ => ⟨rfl, _, rfl, HSR0.out⟩) HFT.out (zs_one _) w.heap.size w (Bel.rf.al _) (Nat.le_refl _) ?_; intro w2 hg2 hb2))
  go_loopw [8] (fun s8 wr => ∃ (t : Nat) (V : World) (Z : List Int), V = wr ∧ 1 ≤ t ∧ t ≤ k ∧ s8 = .int .i64 (t : Int) ∧ Z.length = k ∧ (∀ i, i < t → Z.getD i 0 = x) ∧ Bk wr w.heap.size 3 (zs Z).toArray ∧ Bel w wr) (fun s8 _ => k - (intOf s8).toNat)
  case atStart =>
    rw [splice_zs] at hg2
    have h := splice_rep (Z := List.replicate k 0) (x := x) (k := k) (n := 0) (q := 1) (by simp) (by omega) (fun i hi => by omega)
    exact ⟨1, _, _, rfl, by omega, by omega, rfl, h.1, h.2, hg2.out, hb2⟩
  case round =>
    obtain ⟨t, wr, Z, hwr, ht1, htk, rfl, hlz, hzt, hk, hb⟩ := hrel
    subst hwr
    clear hg2 hb2 wk wk2 wk3
    have HK := Lib.hid hk
    have HB := Lib.hid hb
    have HZT := Lib.hid hzt
    have HLZ := Lib.hid hlz
    have hlt := hk.lt
    clear hk hb hzt hlz
    rcases Nat.lt_or_ge t k with h | h
    · obtain ⟨y, hy⟩ : ∃ y, Nat.min t (k - t) = y := ⟨_, rfl⟩
      have hy1 : y ≤ t ∧ y ≤ k - t ∧ 1 ≤ y := by rw [← hy]; show min t (k - t) ≤ t ∧ min t (k - t) ≤ k - t ∧ 1 ≤ min t (k - t); omega
      have hkt : ¬ k = t := by omega
      have hti : (t : Int) < (k : Int) := by omega
      have hti2 : (t : Int) ≤ (k : Int) := by omega
      have htl : t ≤ k := htk
      have HSR := Lib.hid (splice_rep HLZ.out (x := x) (n := t) (q := y) (by omega) HZT.out)
      have HY := Lib.hid (And.intro hy hy1)
      obtain ⟨z, hz⟩ : ∃ z, t + y = z := ⟨_, rfl⟩
      have hzi : (t : Int) + (y : Int) = (z : Int) := by omega
      have hzk : z ≤ k ∧ t < z := by omega
      have HZZ := Lib.hid (And.intro hz hzk)
      have HL1 : Hid ((zs (List.replicate y x)).length = Nat.min t (k - t)) := by show _ = _; rw [zs_len, List.length_replicate]; exact HY.out.1.symm
      have HL2 : Hid (t + (zs (List.replicate y x)).length ≤ (zs Z).length) := by show _ ≤ _; rw [zs_len, zs_len, List.length_replicate, HLZ.out]; have := HY.out; omega
      have hzl : (zs (List.replicate y x)).length = y := by rw [zs_len, List.length_replicate]
      have zb : -9223372036854775808 ≤ (z : Int) ∧ (z : Int) ≤ 9223372036854775807 := by omega
      have wy : wrap64 (z : Int) = (z : Int) := IntWalk.wrap64_in _ zb
      have wy3 : IntKind.i64.wrap (z : Int) = (z : Int) := IntWalk.i64_in _ zb
      clear hz hzk zb
      clear hy hy1
      have HSRC : Hid (∀ W, Bk W w.heap.size 3 (zs Z).toArray → ∀ j v, (zs (List.replicate y x))[j]? = some v → W.cell? ((⟨w.heap.size, 0, none⟩ : Addr).add j) = some v) := fun W hW j v hv => by
        have hj : j < y := by
          rcases Nat.lt_or_ge j y with h | h
          · exact h
          · rw [List.getElem?_eq_none (by simpa [zs] using h)] at hv; cases hv
        have hz := (zi_bk hW k HLZ.out).at j (by have := HY.out; omega)
        rw [HZT.out j (by have := HY.out; omega)] at hz
        simp [zs, hj] at hv
        rw [add_row, ← hv]
        exact hz
      go_wp2
      go_region_law (refine step_copy_splice rfl (.tmp 41) (.tmp 44) 22 22 rfl 3 Tryz.underlying22 size_int (some ⟨w.heap.size, t, none⟩) (some ⟨w.heap.size, 0, none⟩) (k - t) (k - t) t k (by simp [Act.eval, Act.put]) (by simp [Act.eval, Act.put]) w.heap.size t (zs Z) 3 (by first | exact HK.out | exact HK.out.drwN _ | exact HK.out.drw) (zs (List.replicate y x)) HL1.out (fun _ => ⟨rfl, _, rfl, by first | exact HSRC.out _ HK.out | exact HSRC.out _ (HK.out.drwN _) | exact HSRC.out _ HK.out.drw⟩) HL2.out (zs_one _) w.heap.size w (by first | exact HB.out | exact HB.out.drwN _ | exact HB.out.drw) (Nat.le_refl _) ?_; intro w4 hg4 hb4)
      all_goals
        rw [splice_zs] at hg4
        (try simp only [hzl, hzi, wy3])
        (try go_simp)
        go_roundw
        case rel =>
          refine ⟨_, _, _, _, _, _, _, _, _, _, _, _, _, _, ?_, rfl⟩
          exact ⟨z, _, _, rfl, by have := HZZ.out; omega, HZZ.out.2.1, by first | rfl | go_num, HSR.out.1, by rw [← HZZ.out.1]; exact HSR.out.2, hg4.out, hb4⟩
        case measure => (have := HZZ.out; simp [intOf]; omega)
    · obtain rfl : t = k := by omega
      have e := all_rep HLZ.out HZT.out
      have HK2 := HK
      rw [e] at HK2
      clear e
      go_wp2
      go_ret
      exact ⟨rfl, HK2.out, HB.out⟩
set_option maxRecDepth 100000 in
theorem border_ok (A : Option Addr) (c m : Nat) (hm : m ≤ 64) (w : World) :
    Calls Tryz.prog 54 #[.slice A m c] w fun e w' => ∃ a, e = .returned (.slice (some ⟨a, 0, none⟩) (m + 1) (m + 1)) ∧ w.heap.size ≤ a ∧ Bk w' a 3 (zs (List.replicate (m + 1) far)).toArray ∧ Bel w w' := by
  have mi : (m : Int) ≤ 64 := by omega
  obtain ⟨k, hk⟩ : ∃ k, m + 1 = k := ⟨_, rfl⟩
  have hki : (m : Int) + 1 = (k : Int) := by omega
  have kb : 1 ≤ k ∧ k ≤ 100 := by omega
  have zb : -9223372036854775808 ≤ (k : Int) ∧ (k : Int) ≤ 9223372036854775807 := by omega
  have wk : wrap64 (k : Int) = (k : Int) := IntWalk.wrap64_in _ zb
  have HR := Lib.hid (repeat_ok w.heap.size far k kb.1 kb.2 (w.alloc (.cells #[.int .i64 far] 3)))
  have HC : Hid ((w.alloc (.cells #[.int .i64 far] 3)).cell? ⟨w.heap.size, 0, none⟩ = some (.int .i64 far)) := by
    exact (Bk.nw w 3 #[.int .i64 far]).cell 0
  clear zb kb
  rw [hk]
  clear hk
  go_enter Tryz.func54, Tryz.ntmps54
  go_wp2_with fail
  go_at_call 66
  refine (HR.out HC.out).mono ?_
  rintro e w2 ⟨rfl, hk2, hb2⟩
  have HK := Lib.hid hk2
  have HB : Hid (Bel w w2) := (Bel.rf.al _).tr hb2
  clear hk2 hb2
  go_wp2
  go_ret
  exact ⟨w.heap.size + 1, rfl, by omega, by have := HK.out; rwa [show (w.alloc (.cells #[.int .i64 far] 3)).heap.size = w.heap.size + 1 by simp] at this, HB.out⟩
end Go.Proofs.YtpbnabibnkohdaaGreatDoor.Wa
namespace Go.Proofs.YtpbnabibnkohdaaGreatDoor.Wa
open Go.ChangeShapes Go.WideShapes Go.RowKit Wo Sr Wi Ed
set_option linter.unusedVariables false
/-- a row of the table -/
def Rw (L M : List Int) (b : Int) (i m : Nat) (Z : List Int) : Prop := Z.length = m + 1 ∧ ∀ t, t ≤ m → Z.getD t 0 = wt L M b i t
theorem mn3_if (a b c : Int) : mn3 a b c = (if c < if b < a then b else a then c else if b < a then b else a) := by
  unfold mn3 mn
  (repeat' split) <;> omega
theorem set_at (A : List Int) (k i : Nat) (y : Int) : (A.set k y).getD i 0 = if i = k ∧ i < A.length then y else A.getD i 0 := by
  rw [List.getD_eq_getElem?_getD, List.getD_eq_getElem?_getD, List.getElem?_set]
  rcases Classical.em (k = i) with rfl | h
  · rcases Nat.lt_or_ge k A.length with h2 | h2
    · simp [h2]
    · simp [Nat.not_lt.2 h2]
  · rw [if_neg h, if_neg (by omega)]
theorem bk_sz {w : World} {q m : Nat} {Z : List Int} (h : Bk w q 3 (zs Z).toArray) (hl : Z.length = m + 1) {t : Nat} (ht : t ≤ m) : w.cell? ⟨q, t, none⟩ = some (.int .i64 (Z.getD t 0)) := by
  rw [h.cell]
  simpa using zs_at (show t < Z.length by omega)
theorem bk_set {w : World} {q : Nat} {Z : List Int} (h : Bk w q 3 (zs Z).toArray) (t : Nat) (y : Int) : Bk (w.setCell ⟨q, t, none⟩ (.int .i64 y)) q 3 (zs (Z.set t y)).toArray := by
  have := h.st t (.int .i64 y)
  rwa [show ((zs Z).toArray.setIfInBounds t (.int .i64 y)) = (zs (Z.set t y)).toArray by simp [zs, List.map_set]] at this
/-- what the shown rows are handed to keeps -/
structure Shows (A A' : Option Addr) (n m : Nat) (L M : List Int) (b : Int) (K : FuncId) (caps : Array Value) (J : Nat → Nat → Nat → World → Prop) : Prop where
  zi : ∀ {p q i : Nat} {W : World}, J p q i W → Zi W A n L ∧ Zi W A' m M
  sw : ∀ {p q i : Nat} {W : World}, J p q i W → J q p i W
  st : ∀ {p q i : Nat} {W : World} (j : Nat) (u : Value), J p q i W → J p q i (W.setCell ⟨q, j, none⟩ u)
  dr : ∀ {p q i : Nat} {W : World}, J p q i W → J p q i W.drew
  dn : ∀ {p q i : Nat} {W : World} (k : Nat), J p q i W → J p q i (W.drewN k)
  call : ∀ {p q i : Nat} {W : World} {Zp Zq : List Int}, i < n → J p q i W → p ≠ q → Bk W p 3 (zs Zp).toArray → Bk W q 3 (zs Zq).toArray → Rw L M b (i + 1) m Zq →
    Calls Tryz.prog K (#[.slice (some ⟨q, 0, none⟩) (m + 1) (m + 1)] ++ caps) W fun e W' => e = .returned (.tuple #[]) ∧ J p q (i + 1) W' ∧ Bk W' p 3 (zs Zp).toArray ∧ Bk W' q 3 (zs Zq).toArray
theorem kp_st {W : World} {b i j : Nat} {v : Value} (h : W.cell? ⟨b, i, none⟩ = some v) (hne : i ≠ j) (u : Value) : (W.setCell ⟨b, j, none⟩ u).cell? ⟨b, i, none⟩ = some v :=
  (World.cell?_setCell_other _ _ _ _ (fun e => by have := congrArg Addr.off e; simp at this; omega)).trans h
theorem kp_fb {W : World} {a b i j : Nat} {v : Value} (h : W.cell? ⟨a, i, none⟩ = some v) (hne : a ≠ b) (u : Value) : (W.setCell ⟨b, j, none⟩ u).cell? ⟨a, i, none⟩ = some v :=
  (World.cell?_setCell_other _ _ _ _ (fun e => by have := congrArg Addr.block e; simp at this; omega)).trans h
set_option maxHeartbeats 8000000 in
set_option maxRecDepth 100000 in
theorem search_any (A A' : Option Addr) (c c' n m : Nat) (L M : List Int) (b : Int) (n1 : 1 ≤ n) (n2 : n ≤ 33) (m1 : 1 ≤ m) (m2 : m ≤ 33) (b0 : 0 ≤ b) (b32 : b ≤ 32) (hs : Sam L) (ht : Sam M) (K : FuncId) (caps : Array Value) (J : Nat → Nat → Nat → World → Prop)
    (eK : ∀ args w, (callFunc K args).run Tryz.prog w = .ok (.enter K args) w) (HJ : Shows A A' n m L M b K caps J) (w : World) (h0 : ∀ p q W, Bel w W → w.heap.size ≤ p → w.heap.size ≤ q → J p q 0 W) (hz : Zi w A' m M) :
    Calls Tryz.prog 32 #[.slice A n c, .slice A' m c', .int .i64 b, .func (.func K) #[] caps] w fun e w' => e = .returned (.tuple #[]) ∧ ∃ p q, J p q n w' := by
  have HS := Lib.hid hs
  have HT := Lib.hid ht
  have HJJ := Lib.hid HJ
  have H0 := Lib.hid h0
  have i1 : 1 ≤ (n : Int) := by omega
  have i2 : (n : Int) ≤ 33 := by omega
  have i3 : 1 ≤ (m : Int) := by omega
  have i4 : (m : Int) ≤ 33 := by omega
  have HE : Hid (∀ i j, i ≤ 64 → j ≤ 64 → 0 ≤ wt L M b i j ∧ wt L M b i j ≤ 4611686018427387904) := fun i j hi hj => ⟨wt_nn hs ht i j, wt_hi hs ht b0 i j hi hj⟩
  clear hs ht HJ h0 hz
  go_enter Tryz.func32, Tryz.ntmps32
  go_wp2_with fail
  go_at_call 54
  refine (border_ok A' c' m (by omega) _).mono ?_
  rintro e w1 ⟨p, rfl, hp1, hp2, hp3⟩
  have HP := Lib.hid hp2
  have HB1 := Lib.hid hp3
  have pz := hp2.lt
  clear hp2 hp3
  go_wp2_with fail
  go_at_call 54
  refine (border_ok A' c' m (by omega) _).mono ?_
  rintro e w2 ⟨q, rfl, hq1, hq2, hq3⟩
  have HQ := Lib.hid hq2
  have HB2 := Lib.hid (HB1.out.tr hq3)
  have HP2 := Lib.hid (HP.out.bel hq3)
  have hpq : p ≠ q := by omega
  have hsz := HB1.out.size
  have f0 := HP2.out.fr 0
  have m1' : ¬ m + 1 = 0 := by omega
  have HR0 : Hid (∃ (Zp Zq : List Int), Bk (w2.setCell ⟨p, 0, none⟩ (.int .i64 0)) p 3 (zs Zp).toArray ∧ Rw L M b 0 m Zp ∧ Bk (w2.setCell ⟨p, 0, none⟩ (.int .i64 0)) q 3 (zs Zq).toArray ∧ Zq.length = m + 1 ∧ J p q 0 (w2.setCell ⟨p, 0, none⟩ (.int .i64 0))) :=
    ⟨_, _, bk_set HP2.out 0 0, ⟨by simp, fun t ht => by
      rw [set_at]
      rcases t with _ | t
      · rw [if_pos (by simp), wt_00]
      · rw [if_neg (by simp), wt_0s, List.getD_eq_getElem?_getD, List.getElem?_replicate, if_pos (by omega)]; rfl⟩, HQ.out.far (by show q ≠ p; omega) _, by simp, H0.out _ _ _ (HB2.out.st (by show _ ≤ p; omega) _) (by omega) (by omega)⟩
  have c0 := bk_sz HP2.out (m := m) (t := 0) (by simp) (by omega)
  clear hq2 hq3 H0 HP HB1
  go_wp2
  go_loopw [8, 9, 20] (fun s8 s9 s20 wr => ∃ (i : Nat) (V : World) (p q : Nat) (Zp Zq : List Int), V = wr ∧ i ≤ n ∧ s8 = .slice (some ⟨p, 0, none⟩) (m + 1) (m + 1) ∧ s9 = .slice (some ⟨q, 0, none⟩) (m + 1) (m + 1) ∧ s20 = .int .i64 (i : Int) ∧ p ≠ q ∧ Bk wr p 3 (zs Zp).toArray ∧ Rw L M b i m Zp ∧ Bk wr q 3 (zs Zq).toArray ∧ Zq.length = m + 1 ∧ J p q i wr) (fun _ _ s20 _ => n - (intOf s20).toNat)
  case atStart =>
    obtain ⟨Zp, Zq, h1, h2, h3, h4, h5⟩ := HR0.out
    exact ⟨0, _, p, q, Zp, Zq, rfl, by omega, rfl, rfl, rfl, hpq, h1, h2, h3, h4, h5⟩
  case round =>
    clear HR0 HP2 HQ HB2 hpq hp1 hq1 pz hsz f0 c0
    obtain ⟨i, wr, p, q, Zp, Zq, hwr, hin, rfl, rfl, rfl, hpq, hp, hrp, hq, hlq, hj⟩ := hrel
    subst hwr
    have HHP := Lib.hid hp
    have HHQ := Lib.hid hq
    have HRP := Lib.hid hrp
    have HLQ := Lib.hid hlq
    have HHJ := Lib.hid hj
    rcases Nat.lt_or_ge i n with hlt | hge
    · obtain ⟨ad, rfl, _, hac⟩ := (HJJ.out.zi hj).1.2 (by omega)
      have px := HS.out.at i
      have HX : Hid (∀ {W}, J p q i W → W.cell? (ad.add i) = some (.int .i64 (L.getD i 0))) := fun h => by
        obtain ⟨ad', e, _, hh⟩ := (HJJ.out.zi h).1.2 (by omega)
        injection e with e
        subst e
        exact hh i hlt
      obtain ⟨x, hx⟩ : ∃ x, L.getD i 0 = x := ⟨_, rfl⟩
      rw [hx] at px HX
      obtain ⟨x0, x1⟩ := px
      have HXE := Lib.hid hx
      have q0 := hq.fr 0
      have cq := bk_sz hq hlq (t := 0) (by omega)
      obtain ⟨z0, hz0⟩ : ∃ z, Zq.getD 0 0 = z := ⟨_, rfl⟩
      rw [hz0] at cq
      have HR1 : Hid (∃ Z : List Int, Bk (wr.setCell ⟨q, 0, none⟩ (.int .i64 4611686018427387904)) q 3 (zs Z).toArray ∧ Z.length = m + 1 ∧ (∀ t, t ≤ 0 → Z.getD t 0 = wt L M b (i + 1) t) ∧ Bk (wr.setCell ⟨q, 0, none⟩ (.int .i64 4611686018427387904)) p 3 (zs Zp).toArray ∧ J p q i (wr.setCell ⟨q, 0, none⟩ (.int .i64 4611686018427387904))) :=
        ⟨_, bk_set hq 0 _, by simpa using hlq, fun t ht => by
          obtain rfl : t = 0 := by omega
          rw [set_at, if_pos ⟨rfl, by omega⟩, wt_s0]; rfl, hp.far (by show p ≠ q; exact hpq) _, HJJ.out.st 0 _ hj⟩
      have ini : (i : Int) < (n : Int) := by omega
      clear hp hq hrp hlq hj hac hx hz0
      go_wp2
      go_loopw [27] (fun s27 wr => ∃ (j : Nat) (V : World) (Z : List Int), V = wr ∧ j ≤ m ∧ s27 = .int .i64 (j : Int) ∧ Bk wr q 3 (zs Z).toArray ∧ Z.length = m + 1 ∧ (∀ t, t ≤ j → Z.getD t 0 = wt L M b (i + 1) t) ∧ Bk wr p 3 (zs Zp).toArray ∧ J p q i wr) (fun s27 _ => m - (intOf s27).toNat)
      case atStart =>
        obtain ⟨Z, h1, h2, h3, h4, h5⟩ := HR1.out
        exact ⟨0, _, Z, rfl, by omega, rfl, h1, h2, h3, h4, h5⟩
      case round =>
        clear HR1 q0 cq HHP HHQ HHJ
        obtain ⟨j, wr, Z, hwr, hjm, rfl, hq, hlz, hzt, hp, hj⟩ := hrel
        subst hwr
        rcases Nat.lt_or_ge j m with hlt2 | hge2
        · obtain ⟨ad', rfl, _, hac'⟩ := (HJJ.out.zi hj).2.2 (by omega)
          have py := HT.out.at j
          have HY : Hid (∀ {W}, J p q i W → W.cell? (ad'.add j) = some (.int .i64 (M.getD j 0))) := fun h => by
            obtain ⟨ad2, e, _, hh⟩ := (HJJ.out.zi h).2.2 (by omega)
            injection e with e
            subst e
            exact hh j hlt2
          obtain ⟨y, hy⟩ : ∃ y, M.getD j 0 = y := ⟨_, rfl⟩
          rw [hy] at py HY
          obtain ⟨y0, y1⟩ := py
          obtain ⟨j', hj'⟩ : ∃ j', j + 1 = j' := ⟨_, rfl⟩
          have hji : (j : Int) + 1 = (j' : Int) := by omega
          have j'm : j' ≤ m := by omega
          have j'k : j' < m + 1 := by omega
          have j'i : (j' : Int) < (m : Int) + 1 := by omega
          have j'i2 : (j' : Int) < ((m + 1 : Nat) : Int) := by omega
          have jk : j < m + 1 := by omega
          have jki : (j : Int) < (m : Int) + 1 := by omega
          have jki2 : (j : Int) < ((m + 1 : Nat) : Int) := by omega
          have ji : (j : Int) < (m : Int) := by omega
          have zj : -9223372036854775808 ≤ (j' : Int) ∧ (j' : Int) ≤ 9223372036854775807 := by omega
          have cz := bk_sz hq hlz (t := j') (by omega)
          have fz := hq.fr j'
          obtain ⟨z1, hz1⟩ : ∃ z, Z.getD j' 0 = z := ⟨_, rfl⟩
          rw [hz1] at cz
          obtain ⟨d0, hd0⟩ : ∃ d, (i : Int) - (j : Int) = d := ⟨_, rfl⟩
          have zd : -9223372036854775808 ≤ d0 ∧ d0 ≤ 9223372036854775807 := by omega
          have HAB : Hid (∀ W, _) := fun W => abs_ok d0 (by omega) (by omega) W
          have HBD : Hid (ab d0 ≤ b ↔ Bnd b i j) := by
            show _ ↔ _
            unfold ab Bnd
            split <;> constructor <;> intro h <;> (try constructor) <;> omega
          obtain ⟨r0, hr0⟩ : ∃ r, ab d0 = r := ⟨_, rfl⟩
          rw [hr0] at HAB HBD
          have HS1 : Hid (Bk (wr.setCell ⟨q, j', none⟩ (.int .i64 4611686018427387904)) q 3 (zs (Z.set j' 4611686018427387904)).toArray ∧ Bk (wr.setCell ⟨q, j', none⟩ (.int .i64 4611686018427387904)) p 3 (zs Zp).toArray ∧ J p q i (wr.setCell ⟨q, j', none⟩ (.int .i64 4611686018427387904))) :=
            ⟨bk_set hq _ _, hp.far (by show p ≠ q; exact hpq) _, HJJ.out.st _ _ hj⟩
          have HZT := Lib.hid hzt
          have HLZ := Lib.hid hlz
          have HIJ : Hid (j + 1 = j' ∧ M.getD j 0 = y) := ⟨hj', hy⟩
          have HD0 : Hid (ab d0 = r0 ∧ Z.getD j' 0 = z1) := ⟨hr0, hz1⟩
          have wj : wrap64 (j' : Int) = (j' : Int) := IntWalk.wrap64_in _ zj
          have wj2 : IntKind.i64.wrap (j' : Int) = (j' : Int) := IntWalk.i64_in _ zj
          have d0w : wrap64 d0 = d0 := IntWalk.wrap64_in _ zd
          have HZJ := Lib.hid zj
          clear hq hp hj hac' hzt hlz hj' hy hr0 hz1 zj zd
          go_wp2_with fail
          go_at_call 47
          refine (HAB.out _).mono ?_
          rintro e w9 ⟨rfl, hw9⟩
          have HS2 : Hid (Bk w9 q 3 (zs (Z.set j' 4611686018427387904)).toArray ∧ Bk w9 p 3 (zs Zp).toArray ∧ J p q i w9) := by
            rw [← hw9]
            first | exact HS1.out | exact ⟨HS1.out.1.drw, HS1.out.2.1.drw, HJJ.out.dr HS1.out.2.2⟩ | exact ⟨HS1.out.1.drwN _, HS1.out.2.1.drwN _, HJJ.out.dn _ HS1.out.2.2⟩
          clear HS1 hw9 cz fz wj wj2 d0w
          rcases Int.lt_or_le b r0 with hout | hinn
          · have HZ2 : Hid (∀ t, t ≤ j' → (Z.set j' 4611686018427387904).getD t 0 = wt L M b (i + 1) t) := fun t ht => by
              rw [set_at]
              rcases Nat.lt_or_ge t j' with h | h
              · rw [if_neg (by omega)]; exact HZT.out t (by have := HIJ.out.1; omega)
              · obtain rfl : t = j' := by omega
                rw [if_pos ⟨rfl, by have := HLZ.out; omega⟩, ← HIJ.out.1, wt_out _ _ _ _ _ (fun h => by have := HBD.out.2 h; omega)]; rfl
            go_wp2
            go_roundw
            case rel => exact ⟨j', _, _, rfl, j'm, by first | rfl | go_num, HS2.out.1, by rw [List.length_set]; exact HLZ.out, HZ2.out, HS2.out.2.1, HS2.out.2.2⟩
            case measure => simp [intOf]; omega
          · have hBB := HBD.out.1 hinn
            have ee := wt_in L M b i j hBB
            have k1 := bk_sz HS2.out.2.1 HRP.out.1 (t := j) (by omega)
            have k2 := bk_sz HS2.out.2.1 HRP.out.1 (t := j') j'm
            have k3 := bk_sz HS2.out.1 (by rw [List.length_set]; exact HLZ.out) (t := j) (by omega)
            have k4 := bk_sz HS2.out.1 (by rw [List.length_set]; exact HLZ.out) (t := j') j'm
            have k5 := HX.out HS2.out.2.2
            have k6 := HY.out HS2.out.2.2
            have fB := HS2.out.1.fr j'
            have b1 := HE.out i j (by omega) (by omega)
            have b2 := HE.out i j' (by omega) (by omega)
            have b3 := HE.out (i + 1) j (by omega) (by omega)
            rw [HRP.out.2 j (by omega)] at k1
            rw [HRP.out.2 j' j'm] at k2
            rw [set_at, if_neg (by have := HIJ.out.1; omega), HZT.out j (Nat.le_refl _)] at k3
            rw [set_at, if_pos ⟨rfl, by have := HLZ.out; omega⟩] at k4
            rw [HIJ.out.1] at ee
            have ec : cst L M i j = (x - y) * (x - y) := by unfold cst; rw [HXE.out, HIJ.out.2]
            rw [ec] at ee
            obtain ⟨a0, ha0⟩ : ∃ v, wt L M b i j = v := ⟨_, rfl⟩
            obtain ⟨e0, he0⟩ : ∃ v, wt L M b i j' = v := ⟨_, rfl⟩
            obtain ⟨g0, hg0⟩ : ∃ v, wt L M b (i + 1) j = v := ⟨_, rfl⟩
            rw [ha0] at k1 b1 ee
            rw [he0] at k2 b2 ee
            rw [hg0] at k3 b3 ee
            obtain ⟨d1, hd1⟩ : ∃ d, x - y = d := ⟨_, rfl⟩
            rw [hd1] at ee
            have hsq := sq_bd (B := 2000) (x := d1) (by omega) (by omega)
            have HSQ : Hid (∀ W, _) := fun W => square_ok d1 (by omega) (by omega) W
            obtain ⟨r1, hr1⟩ : ∃ r, d1 * d1 = r := ⟨_, rfl⟩
            rw [hr1] at HSQ hsq ee
            have hmn := mn3_if a0 e0 g0
            have hml := mn3_or a0 e0 g0
            have z1b : -9223372036854775808 ≤ d1 ∧ d1 ≤ 9223372036854775807 := by omega
            have HEE := Lib.hid ee
            have hne : j ≠ j' := by have := HIJ.out.1; omega
            have HLET := Lib.hid (And.intro ha0 (And.intro he0 (And.intro hg0 (And.intro hr1 hd0))))
            have hcase : (e0 < a0 ∧ g0 < e0 ∧ mn3 a0 e0 g0 = g0) ∨ (e0 < a0 ∧ e0 ≤ g0 ∧ mn3 a0 e0 g0 = e0) ∨ (a0 ≤ e0 ∧ g0 < a0 ∧ mn3 a0 e0 g0 = g0) ∨ (a0 ≤ e0 ∧ a0 ≤ g0 ∧ mn3 a0 e0 g0 = a0) := by
              rw [hmn]
              (repeat' split) <;> omega
            clear ha0 he0 hg0 hr1 hd0 ec hmn hml hBB
            rcases hcase with ⟨l1, l2, l3⟩ | ⟨l1, l2, l3⟩ | ⟨l1, l2, l3⟩ | ⟨l1, l2, l3⟩
            · rw [l3] at ee
              have HEQ := Lib.hid ee
              have z2b : -9223372036854775808 ≤ r1 + g0 ∧ r1 + g0 ≤ 9223372036854775807 := by omega
              have HZ2 : Hid (∀ t, t ≤ j' → ((Z.set j' 4611686018427387904).set j' (r1 + g0)).getD t 0 = wt L M b (i + 1) t) := fun t ht => by
                rw [set_at, set_at, List.length_set]
                rcases Nat.lt_or_ge t j' with h | h
                · rw [if_neg (by omega), if_neg (by omega)]; exact HZT.out t (by have := HIJ.out.1; omega)
                · obtain rfl : t = j' := by omega
                  rw [if_pos ⟨rfl, by have := HLZ.out; omega⟩]
                  exact HEQ.out.symm
              have w1 : IntKind.i64.wrap d1 = d1 := IntWalk.i64_in _ z1b
              have wj2 : IntKind.i64.wrap (j' : Int) = (j' : Int) := IntWalk.i64_in _ HZJ.out
              have w2 : IntKind.i64.wrap (r1 + g0) = r1 + g0 := IntWalk.i64_in _ z2b
              clear ee b1 b2 b3 hsq z1b z2b l3
              go_wp2
              go_region_held3 (fun w' => w'.cell? (ad.add i) = some (.int .i64 x) ∧ w'.cell? (ad'.add j) = some (.int .i64 y) ∧ w'.cell? ⟨p, j, none⟩ = some (.int .i64 a0) ∧ w'.cell? ⟨p, j', none⟩ = some (.int .i64 e0) ∧ w'.cell? ⟨q, j, none⟩ = some (.int .i64 g0))
                ((refine ⟨?_, ?_, ?_, ?_, ?_⟩) <;> (repeat (first | exact k1 | exact k2 | exact k3 | exact k5 | exact k6 | exact HX.out (by repeat (first | exact HS2.out.2.2 | (with_reducible refine HJJ.out.dn _ ?_) | (with_reducible refine HJJ.out.dr ?_) | (with_reducible refine HJJ.out.st _ _ ?_))) | exact HY.out (by repeat (first | exact HS2.out.2.2 | (with_reducible refine HJJ.out.dn _ ?_) | (with_reducible refine HJJ.out.dr ?_) | (with_reducible refine HJJ.out.st _ _ ?_))) | (with_reducible refine kp_drwN ?_ _) | (with_reducible refine kp_drw ?_) | (with_reducible refine kp_st ?_ hne _) | (with_reducible refine kp_fb ?_ hpq _))))
                (first | (go_at_call 55; refine (HSQ.out _).mono ?_; rintro e' w8 ⟨rfl, rfl⟩))
              all_goals
                have HS3 : Hid (Bk (w9.setCell ⟨q, j', none⟩ (.int .i64 (r1 + g0))) q 3 (zs ((Z.set j' 4611686018427387904).set j' (r1 + g0))).toArray ∧ Bk (w9.setCell ⟨q, j', none⟩ (.int .i64 (r1 + g0))) p 3 (zs Zp).toArray ∧ J p q i (w9.setCell ⟨q, j', none⟩ (.int .i64 (r1 + g0)))) :=
                  ⟨bk_set HS2.out.1 _ _, HS2.out.2.1.far (by show p ≠ q; exact hpq) _, HJJ.out.st _ _ HS2.out.2.2⟩
                go_wp2
                go_roundw
                case rel => exact ⟨j', _, _, rfl, j'm, by first | rfl | go_num, HS3.out.1.drw, by rw [List.length_set, List.length_set]; exact HLZ.out, HZ2.out, HS3.out.2.1.drw, HJJ.out.dr HS3.out.2.2⟩
                case measure => simp [intOf]; omega
            · rw [l3] at ee
              have HEQ := Lib.hid ee
              have z2b : -9223372036854775808 ≤ r1 + e0 ∧ r1 + e0 ≤ 9223372036854775807 := by omega
              have HZ2 : Hid (∀ t, t ≤ j' → ((Z.set j' 4611686018427387904).set j' (r1 + e0)).getD t 0 = wt L M b (i + 1) t) := fun t ht => by
                rw [set_at, set_at, List.length_set]
                rcases Nat.lt_or_ge t j' with h | h
                · rw [if_neg (by omega), if_neg (by omega)]; exact HZT.out t (by have := HIJ.out.1; omega)
                · obtain rfl : t = j' := by omega
                  rw [if_pos ⟨rfl, by have := HLZ.out; omega⟩]
                  exact HEQ.out.symm
              have w1 : IntKind.i64.wrap d1 = d1 := IntWalk.i64_in _ z1b
              have wj2 : IntKind.i64.wrap (j' : Int) = (j' : Int) := IntWalk.i64_in _ HZJ.out
              have w2 : IntKind.i64.wrap (r1 + e0) = r1 + e0 := IntWalk.i64_in _ z2b
              clear ee b1 b2 b3 hsq z1b z2b l3
              go_wp2
              go_region_held3 (fun w' => w'.cell? (ad.add i) = some (.int .i64 x) ∧ w'.cell? (ad'.add j) = some (.int .i64 y) ∧ w'.cell? ⟨p, j, none⟩ = some (.int .i64 a0) ∧ w'.cell? ⟨p, j', none⟩ = some (.int .i64 e0) ∧ w'.cell? ⟨q, j, none⟩ = some (.int .i64 g0))
                ((refine ⟨?_, ?_, ?_, ?_, ?_⟩) <;> (repeat (first | exact k1 | exact k2 | exact k3 | exact k5 | exact k6 | exact HX.out (by repeat (first | exact HS2.out.2.2 | (with_reducible refine HJJ.out.dn _ ?_) | (with_reducible refine HJJ.out.dr ?_) | (with_reducible refine HJJ.out.st _ _ ?_))) | exact HY.out (by repeat (first | exact HS2.out.2.2 | (with_reducible refine HJJ.out.dn _ ?_) | (with_reducible refine HJJ.out.dr ?_) | (with_reducible refine HJJ.out.st _ _ ?_))) | (with_reducible refine kp_drwN ?_ _) | (with_reducible refine kp_drw ?_) | (with_reducible refine kp_st ?_ hne _) | (with_reducible refine kp_fb ?_ hpq _))))
                (first | (go_at_call 55; refine (HSQ.out _).mono ?_; rintro e' w8 ⟨rfl, rfl⟩))
              all_goals
                have HS3 : Hid (Bk (w9.setCell ⟨q, j', none⟩ (.int .i64 (r1 + e0))) q 3 (zs ((Z.set j' 4611686018427387904).set j' (r1 + e0))).toArray ∧ Bk (w9.setCell ⟨q, j', none⟩ (.int .i64 (r1 + e0))) p 3 (zs Zp).toArray ∧ J p q i (w9.setCell ⟨q, j', none⟩ (.int .i64 (r1 + e0)))) :=
                  ⟨bk_set HS2.out.1 _ _, HS2.out.2.1.far (by show p ≠ q; exact hpq) _, HJJ.out.st _ _ HS2.out.2.2⟩
                go_wp2
                go_roundw
                case rel => exact ⟨j', _, _, rfl, j'm, by first | rfl | go_num, HS3.out.1.drw, by rw [List.length_set, List.length_set]; exact HLZ.out, HZ2.out, HS3.out.2.1.drw, HJJ.out.dr HS3.out.2.2⟩
                case measure => simp [intOf]; omega
            · rw [l3] at ee
              have HEQ := Lib.hid ee
              have z2b : -9223372036854775808 ≤ r1 + g0 ∧ r1 + g0 ≤ 9223372036854775807 := by omega
              have HZ2 : Hid (∀ t, t ≤ j' → ((Z.set j' 4611686018427387904).set j' (r1 + g0)).getD t 0 = wt L M b (i + 1) t) := fun t ht => by
                rw [set_at, set_at, List.length_set]
                rcases Nat.lt_or_ge t j' with h | h
                · rw [if_neg (by omega), if_neg (by omega)]; exact HZT.out t (by have := HIJ.out.1; omega)
                · obtain rfl : t = j' := by omega
                  rw [if_pos ⟨rfl, by have := HLZ.out; omega⟩]
                  exact HEQ.out.symm
              have w1 : IntKind.i64.wrap d1 = d1 := IntWalk.i64_in _ z1b
              have wj2 : IntKind.i64.wrap (j' : Int) = (j' : Int) := IntWalk.i64_in _ HZJ.out
              have w2 : IntKind.i64.wrap (r1 + g0) = r1 + g0 := IntWalk.i64_in _ z2b
              clear ee b1 b2 b3 hsq z1b z2b l3
              go_wp2
              go_region_held3 (fun w' => w'.cell? (ad.add i) = some (.int .i64 x) ∧ w'.cell? (ad'.add j) = some (.int .i64 y) ∧ w'.cell? ⟨p, j, none⟩ = some (.int .i64 a0) ∧ w'.cell? ⟨p, j', none⟩ = some (.int .i64 e0) ∧ w'.cell? ⟨q, j, none⟩ = some (.int .i64 g0))
                ((refine ⟨?_, ?_, ?_, ?_, ?_⟩) <;> (repeat (first | exact k1 | exact k2 | exact k3 | exact k5 | exact k6 | exact HX.out (by repeat (first | exact HS2.out.2.2 | (with_reducible refine HJJ.out.dn _ ?_) | (with_reducible refine HJJ.out.dr ?_) | (with_reducible refine HJJ.out.st _ _ ?_))) | exact HY.out (by repeat (first | exact HS2.out.2.2 | (with_reducible refine HJJ.out.dn _ ?_) | (with_reducible refine HJJ.out.dr ?_) | (with_reducible refine HJJ.out.st _ _ ?_))) | (with_reducible refine kp_drwN ?_ _) | (with_reducible refine kp_drw ?_) | (with_reducible refine kp_st ?_ hne _) | (with_reducible refine kp_fb ?_ hpq _))))
                (first | (go_at_call 55; refine (HSQ.out _).mono ?_; rintro e' w8 ⟨rfl, rfl⟩))
              all_goals
                have HS3 : Hid (Bk (w9.setCell ⟨q, j', none⟩ (.int .i64 (r1 + g0))) q 3 (zs ((Z.set j' 4611686018427387904).set j' (r1 + g0))).toArray ∧ Bk (w9.setCell ⟨q, j', none⟩ (.int .i64 (r1 + g0))) p 3 (zs Zp).toArray ∧ J p q i (w9.setCell ⟨q, j', none⟩ (.int .i64 (r1 + g0)))) :=
                  ⟨bk_set HS2.out.1 _ _, HS2.out.2.1.far (by show p ≠ q; exact hpq) _, HJJ.out.st _ _ HS2.out.2.2⟩
                go_wp2
                go_roundw
                case rel => exact ⟨j', _, _, rfl, j'm, by first | rfl | go_num, HS3.out.1.drw, by rw [List.length_set, List.length_set]; exact HLZ.out, HZ2.out, HS3.out.2.1.drw, HJJ.out.dr HS3.out.2.2⟩
                case measure => simp [intOf]; omega
            · rw [l3] at ee
              have HEQ := Lib.hid ee
              have z2b : -9223372036854775808 ≤ r1 + a0 ∧ r1 + a0 ≤ 9223372036854775807 := by omega
              have HZ2 : Hid (∀ t, t ≤ j' → ((Z.set j' 4611686018427387904).set j' (r1 + a0)).getD t 0 = wt L M b (i + 1) t) := fun t ht => by
                rw [set_at, set_at, List.length_set]
                rcases Nat.lt_or_ge t j' with h | h
                · rw [if_neg (by omega), if_neg (by omega)]; exact HZT.out t (by have := HIJ.out.1; omega)
                · obtain rfl : t = j' := by omega
                  rw [if_pos ⟨rfl, by have := HLZ.out; omega⟩]
                  exact HEQ.out.symm
              have w1 : IntKind.i64.wrap d1 = d1 := IntWalk.i64_in _ z1b
              have wj2 : IntKind.i64.wrap (j' : Int) = (j' : Int) := IntWalk.i64_in _ HZJ.out
              have w2 : IntKind.i64.wrap (r1 + a0) = r1 + a0 := IntWalk.i64_in _ z2b
              clear ee b1 b2 b3 hsq z1b z2b l3
              go_wp2
              go_region_held3 (fun w' => w'.cell? (ad.add i) = some (.int .i64 x) ∧ w'.cell? (ad'.add j) = some (.int .i64 y) ∧ w'.cell? ⟨p, j, none⟩ = some (.int .i64 a0) ∧ w'.cell? ⟨p, j', none⟩ = some (.int .i64 e0) ∧ w'.cell? ⟨q, j, none⟩ = some (.int .i64 g0))
                ((refine ⟨?_, ?_, ?_, ?_, ?_⟩) <;> (repeat (first | exact k1 | exact k2 | exact k3 | exact k5 | exact k6 | exact HX.out (by repeat (first | exact HS2.out.2.2 | (with_reducible refine HJJ.out.dn _ ?_) | (with_reducible refine HJJ.out.dr ?_) | (with_reducible refine HJJ.out.st _ _ ?_))) | exact HY.out (by repeat (first | exact HS2.out.2.2 | (with_reducible refine HJJ.out.dn _ ?_) | (with_reducible refine HJJ.out.dr ?_) | (with_reducible refine HJJ.out.st _ _ ?_))) | (with_reducible refine kp_drwN ?_ _) | (with_reducible refine kp_drw ?_) | (with_reducible refine kp_st ?_ hne _) | (with_reducible refine kp_fb ?_ hpq _))))
                (first | (go_at_call 55; refine (HSQ.out _).mono ?_; rintro e' w8 ⟨rfl, rfl⟩))
              all_goals
                have HS3 : Hid (Bk (w9.setCell ⟨q, j', none⟩ (.int .i64 (r1 + a0))) q 3 (zs ((Z.set j' 4611686018427387904).set j' (r1 + a0))).toArray ∧ Bk (w9.setCell ⟨q, j', none⟩ (.int .i64 (r1 + a0))) p 3 (zs Zp).toArray ∧ J p q i (w9.setCell ⟨q, j', none⟩ (.int .i64 (r1 + a0)))) :=
                  ⟨bk_set HS2.out.1 _ _, HS2.out.2.1.far (by show p ≠ q; exact hpq) _, HJJ.out.st _ _ HS2.out.2.2⟩
                go_wp2
                go_roundw
                case rel => exact ⟨j', _, _, rfl, j'm, by first | rfl | go_num, HS3.out.1.drw, by rw [List.length_set, List.length_set]; exact HLZ.out, HZ2.out, HS3.out.2.1.drw, HJJ.out.dr HS3.out.2.2⟩
                case measure => simp [intOf]; omega
        · obtain rfl : j = m := by omega
          have HHP := Lib.hid hp
          have HHQ := Lib.hid hq
          have HHJ := Lib.hid hj
          have HRQ : Hid (Rw L M b (i + 1) j Z) := ⟨hlz, hzt⟩
          clear hp hq hj hzt hlz
          go_wp2_with (go_at_fn K; refine (HJJ.out.call hlt HHJ.out hpq HHP.out HHQ.out HRQ.out).mono ?_; rintro e w4 ⟨rfl, hj4, hp4, hq4⟩)
          go_roundw
          case rel => exact ⟨i + 1, _, q, p, Z, Zp, rfl, by omega, rfl, rfl, by go_num, fun e => hpq e.symm, hq4, HRQ.out, hp4, HRP.out.1, HJJ.out.sw hj4⟩
          case measure => simp [intOf]; omega
    · obtain rfl : i = n := by omega
      clear hp hq hrp hlq hj
      go_wp2
      go_end0
      exact ⟨rfl, p, q, HHJ.out⟩
end Go.Proofs.YtpbnabibnkohdaaGreatDoor.Wa
namespace Go.Proofs.YtpbnabibnkohdaaGreatDoor.Wa
open Go.ChangeShapes Go.WideShapes Go.RowKit Wo Sr Wi Ed
set_option linter.unusedVariables false
theorem shown_d (A' : Option Addr) (c' m gy gd q : Nat) (v0 : Int) (Z : List Int) (hm : m ≤ 1000) (W : World) (hgy : Bk W gy 22 #[.slice A' m c']) (hgd : Bk W gd 3 #[.int .i64 v0]) (hq : Bk W q 3 (zs Z).toArray) (hl : Z.length = m + 1) (hne : q ≠ gd) (hne2 : gy ≠ gd) :
    Calls Tryz.prog 33 #[.slice (some ⟨q, 0, none⟩) (m + 1) (m + 1), .pointer (some ⟨gy, 0, none⟩), .pointer (some ⟨gd, 0, none⟩)] W fun e W' => e = .returned (.tuple #[]) ∧ Bk W' gd 3 #[.int .i64 (Z.getD m 0)] ∧ Ch gd W W' := by
  have c1 := hgy.cell 0
  have c2 := hgd.cell 0
  have c3 := bk_sz hq hl (t := m) (Nat.le_refl _)
  have fd := hgd.fr 0
  have mi : (m : Int) < (m : Int) + 1 := by omega
  have mi2 : (m : Int) < ((m + 1 : Nat) : Int) := by omega
  have mk : m < m + 1 := by omega
  obtain ⟨x, hx⟩ : ∃ x, Z.getD m 0 = x := ⟨_, rfl⟩
  rw [hx] at c3
  rw [hx]
  simp at c1 c2
  have HS := Lib.hid (And.intro (hgd.st 0 (.int .i64 x)) (Ch.rf.st (a := W) (g := gd) 0 (.int .i64 x)))
  clear hgy hgd hq hx
  go_enter Tryz.func33, Tryz.ntmps33
  go_wp2
  go_end0
  exact ⟨rfl, HS.out.1, HS.out.2⟩
/-- what stands while Distance's search goes on -/
def JD (w0 : World) (gy gd : Nat) (A' : Option Addr) (c' m : Nat) (L M : List Int) (b : Int) (p q i : Nat) (W : World) : Prop :=
  Bel w0 W ∧ gy ≠ gd ∧ w0.heap.size ≤ gd ∧ (w0.heap.size ≤ p ∧ p ≠ gy ∧ p ≠ gd) ∧ (w0.heap.size ≤ q ∧ q ≠ gy ∧ q ≠ gd) ∧ Bk W gy 22 #[.slice A' m c'] ∧ ∃ v, Bk W gd 3 #[.int .i64 v] ∧ (0 < i → v = wt L M b i m)
theorem shows_d (w0 : World) (gy gd : Nat) (A A' : Option Addr) (c' n m : Nat) (hm : m ≤ 1000) (L M : List Int) (b : Int) (h1 : Zi w0 A n L) (h2 : Zi w0 A' m M) :
    Shows A A' n m L M b 33 #[.pointer (some ⟨gy, 0, none⟩), .pointer (some ⟨gd, 0, none⟩)] (JD w0 gy gd A' c' m L M b) where
  zi h := ⟨h1.bel h.1, h2.bel h.1⟩
  sw := by
    rintro p q i W ⟨a1, a2, a3, a4, a5, a6⟩
    exact ⟨a1, a2, a3, a5, a4, a6⟩
  st := by
    rintro p q i W j u ⟨a1, a2, a3, a4, a5, a6, v, a7, a8⟩
    exact ⟨a1.st a5.1 _, a2, a3, a4, a5, a6.far (fun e => a5.2.1 e.symm) _, v, a7.far (fun e => a5.2.2 e.symm) _, a8⟩
  dr := by
    rintro p q i W ⟨a1, a2, a3, a4, a5, a6, v, a7, a8⟩
    exact ⟨a1.drw, a2, a3, a4, a5, a6.drw, v, a7.drw, a8⟩
  dn := by
    rintro p q i W k ⟨a1, a2, a3, a4, a5, a6, v, a7, a8⟩
    exact ⟨a1.drwN _, a2, a3, a4, a5, a6.drwN _, v, a7.drwN _, a8⟩
  call := by
    rintro p q i W Zp Zq hi ⟨a1, a2, a3, a4, a5, a6, v, a7, a8⟩ hpq hp hq hr
    refine (shown_d A' c' m gy gd q v Zq hm W a6 a7 hq hr.1 a5.2.2 a2).mono ?_
    rintro e W' ⟨rfl, h3, h4⟩
    exact ⟨rfl, ⟨Bel.ch a1 h4 a3, a2, a3, a4, a5, h4.bk a6 a2, _, h3, fun _ => hr.2 m (Nat.le_refl _)⟩, h4.bk hp a4.2.2, h4.bk hq a5.2.2⟩
theorem enters_d : ∀ args w, (callFunc 33 args).run Tryz.prog w = .ok (.enter 33 args) w := enters_of Tryz.func33 (by kernel_rfl) rfl
set_option maxHeartbeats 4000000 in
theorem distance_ok (A A' : Option Addr) (c c' n m : Nat) (L M : List Int) (b : Int) (n1 : 2 ≤ n) (n2 : n ≤ 32) (m1 : 2 ≤ m) (m2 : m ≤ 32) (b0 : 0 ≤ b) (b32 : b ≤ 32) (b1 : (n : Int) - (m : Int) ≤ b) (b2 : (m : Int) - (n : Int) ≤ b) (hs : Sam L) (ht : Sam M) (w : World) (h1 : Zi w A n L) (h2 : Zi w A' m M) :
    Calls Tryz.prog 12 #[.slice A n c, .slice A' m c', .int .i64 b] w fun e w' => e = .returned (.tuple #[.int .i64 (wt L M b n m), .int .i64 0]) ∧ Bel w w' := by
  have hmf : ∀ (fn : Fn) (first cap : Array Value) (w : World), (Instr.makeFunc fn first cap).run Tryz.prog w = .ok (.func fn first cap) w := fun _ _ _ _ => rfl
  have HW : Hid (∀ W, Bel w W → Calls Tryz.prog 31 #[.slice A n c, .slice A' m c', .int .i64 b] W fun e w' => e = .returned (.int .i64 0) ∧ Bel W w') := fun W hW => warped_ok A A' c c' n m L M b n1 n2 m1 m2 b0 b32 b1 b2 hs ht W (h1.bel hW) (h2.bel hW)
  have HB : Hid (Bk (w.alloc (.cells #[.slice A' m c'] 22)) w.heap.size 22 #[.slice A' m c']) := Bk.nw _ _ _
  have HS : Hid (∀ w2 : World, Bel (w.alloc (.cells #[.slice A' m c'] 22)) w2 → Calls Tryz.prog 32 #[.slice A n c, .slice A' m c', .int .i64 b, .func (.func 33) #[] #[.pointer (some ⟨w.heap.size, 0, none⟩), .pointer (some ⟨w2.heap.size, 0, none⟩)]] (w2.alloc (.cells #[.int .i64 0] 3)) fun e w' => e = .returned (.tuple #[]) ∧ Bel w w' ∧ Bk w' w2.heap.size 3 #[.int .i64 (wt L M b n m)]) := fun w2 hb2 => by
    have hz := hb2.size
    have hz2 : w.heap.size < w2.heap.size := by simp at hz; omega
    have hbw : Bel w w2 := (Bel.rf.al _).tr hb2
    refine (search_any A A' c c' n m L M b (by omega) (by omega) (by omega) (by omega) b0 b32 hs ht 33 _ (JD w w.heap.size w2.heap.size A' c' m L M b) enters_d (shows_d w w.heap.size w2.heap.size A A' c' n m (by omega) L M b h1 h2) _ (fun p q W hW hp hq => ?_) ((h2.bel hbw).bel (Bel.rf.al _))).mono ?_
    · simp at hp hq
      exact ⟨hbw.tr ((Bel.rf.al _).tr hW), by omega, by omega, ⟨by omega, by omega, by omega⟩, ⟨by omega, by omega, by omega⟩, (((Bk.nw _ _ _).bel hb2).al _).bel hW, 0, (Bk.nw _ _ _).bel hW, fun h => by omega⟩
    · rintro e w' ⟨rfl, p, q, a1, _, _, _, _, _, v, a7, a8⟩
      refine ⟨rfl, a1, ?_⟩
      rw [← a8 (by omega)]
      exact a7
  clear h1 h2 hs ht
  go_enter Tryz.func12, Tryz.ntmps12
  go_wp2_with fail
  go_at_call 31
  refine (HW.out _ (Bel.rf.al _)).mono ?_
  rintro e w2 ⟨rfl, hb2⟩
  have HB2 := Lib.hid hb2
  have c1 := (HB.out.bel hb2).cell 0
  simp at c1
  have c1x : ∀ o, (w2.alloc o).cell? ⟨w.heap.size, 0, none⟩ = some (.slice A' m c') := kp_al c1
  clear hb2
  go_wp2_with fail
  go_at_call 32
  refine (HS.out w2 HB2.out).mono ?_
  rintro e w3 ⟨rfl, hb3, hk3⟩
  have HB3 := Lib.hid hb3
  have c3 := hk3.cell 0
  simp at c3
  clear hb3 hk3 c1x
  go_wp2
  go_ret2
  exact ⟨rfl, HB3.out⟩
end Go.Proofs.YtpbnabibnkohdaaGreatDoor.Wa
namespace Go.Proofs.YtpbnabibnkohdaaGreatDoor.Un
open Go.ChangeShapes Go.WideShapes Go.RowKit Wo
set_option linter.unusedVariables false
structure Sc where
  digits : Int
  whole : Int
  places : Int
  point : Bool
  leading : Bool
  some : Bool
  wrong : Bool
def Sc.cells (s : Sc) : Array Value := #[.int .i64 s.digits, .int .i64 s.whole, .int .i64 s.places, .bool s.point, .bool s.leading, .bool s.some, .bool s.wrong]
/-- the number with one more digit; what is too great stays too great -/
def cap (n : Int) : Int := if n < 1000000001 then n else 1000000001
def Sc.digit (s : Sc) (d : Int) : Sc :=
  if s.point then { s with places := s.places + 1, digits := cap (10 * s.digits + d) }
  else { s with leading := s.leading || (s.whole == 1 && s.digits == 0), whole := s.whole + 1, digits := cap (10 * s.digits + d) }
def Sc.take (s : Sc) (c : Nat) : Sc :=
  if 49 ≤ c ∧ c ≤ 57 then ({ s with some := true }).digit ((c : Int) - 48)
  else if c = 48 then s.digit 0
  else if c = 46 ∧ s.point = false then { s with point := true }
  else { s with wrong := true }
def Sc.ok (s : Sc) (n : Int) : Prop := 0 ≤ s.digits ∧ s.digits ≤ 1000000001 ∧ 0 ≤ s.whole ∧ s.whole ≤ n ∧ 0 ≤ s.places ∧ s.places ≤ n
def Ch1 (g : Nat) (w w' : World) : Prop := w.grownBy w' (some g)
theorem ch1_st {g : Nat} {a b : World} (h : Ch1 g a b) (i : Nat) (u : Value) : Ch1 g a (b.setCell ⟨g, i, none⟩ u) :=
  ⟨h.os, h.tape, h.output, by simpa [World.setCell] using h.size, fun k hk hn => (Below.heap_setCell b ⟨g, i, none⟩ u k (fun e => hn (by rw [e]))).trans (h.block k hk hn)⟩
theorem ch1_rf {g : Nat} {a : World} : Ch1 g a a := World.grownBy.refl _ _
theorem ch1_tr {g : Nat} {a b c : World} (h : Ch1 g a b) (k : Ch1 g b c) : Ch1 g a c :=
  ⟨k.os.trans h.os, k.tape.trans h.tape, k.output.trans h.output, Nat.le_trans h.size k.size, fun i hi hn => (k.block i (Nat.lt_of_lt_of_le hi h.size) hn).trans (h.block i hi hn)⟩
theorem bel_ch1 {g : Nat} {a b c : World} (h : Bel a b) (k : Ch1 g b c) (hg : a.heap.size ≤ g) : Bel a c :=
  ⟨k.os.trans h.bl.os, k.tape.trans h.bl.tape, k.output.trans h.bl.output, Nat.le_trans h.size k.size, fun i hi => (k.block i (Nat.lt_of_lt_of_le hi h.size) (fun e => by injection e with e; omega)).trans (h.bl.block i hi)⟩
theorem cap_lt {n : Int} (h : n < 1000000001) : cap n = n := if_pos h
theorem cap_ge {n : Int} (h : 1000000001 ≤ n) : cap n = 1000000001 := if_neg (by omega)
set_option maxHeartbeats 4000000 in
theorem digit_point (g : Nat) (d a b e : Int) (l s r : Bool) (w : World) (hb : Bk w g 169 (Sc.mk a b e true l s r).cells) (d0 : 0 ≤ d) (d1 : d ≤ 9) (a0 : 0 ≤ a) (a1 : a ≤ 1000000001) (b0 : 0 ≤ b) (b1 : b ≤ 4611686018427387904) (e0 : 0 ≤ e) (e1 : e ≤ 4611686018427387904) :
    Calls Tryz.prog 145 #[.pointer (some ⟨g, 0, none⟩), .int .i64 d] w fun x w' => x = .returned (.tuple #[]) ∧ Ch1 g w w' ∧ Bk w' g 169 (Sc.mk (cap (10 * a + d)) b (e + 1) true l s r).cells := by
  have k0 : w.cell? ⟨g, 0, none⟩ = some (.int .i64 a) := hb.cell 0
  have k1 : w.cell? ⟨g, 1, none⟩ = some (.int .i64 b) := hb.cell 1
  have k2 : w.cell? ⟨g, 2, none⟩ = some (.int .i64 e) := hb.cell 2
  have k3 : w.cell? ⟨g, 3, none⟩ = some (.bool true) := hb.cell 3
  have k4 : w.cell? ⟨g, 4, none⟩ = some (.bool l) := hb.cell 4
  have f0 : w.frozen? ⟨g, 0, none⟩ = false := hb.fr 0
  have f1 : w.frozen? ⟨g, 1, none⟩ = false := hb.fr 1
  have f2 : w.frozen? ⟨g, 2, none⟩ = false := hb.fr 2
  have f4 : w.frozen? ⟨g, 4, none⟩ = false := hb.fr 4
  have HB := Lib.hid hb
  clear hb
  rcases Int.lt_trichotomy (10 * a + d) 1000000001 with h | h | h
  · have HC := Lib.hid (show cap (10 * a + d) = _ from cap_lt h)
    go_enter Tryz.func145, Tryz.ntmps145
    go_wp2
    go_end0
    refine ⟨rfl, ch1_st (ch1_st (ch1_rf) _ _) _ _, ?_⟩
    rw [HC.out]
    have hz := ((HB.out.st 2 (.int .i64 (e + 1))).st 0 (.int .i64 (10 * a + d)))
    first | exact hz | (rw [h]; exact hz) | (rw [h] at hz; exact hz) | (rw [← h]; exact hz)
  · have HC := Lib.hid (show cap (10 * a + d) = _ from cap_ge (by omega))
    go_enter Tryz.func145, Tryz.ntmps145
    go_wp2
    go_end0
    refine ⟨rfl, ch1_st (ch1_st (ch1_rf) _ _) _ _, ?_⟩
    rw [HC.out]
    have hz := ((HB.out.st 2 (.int .i64 (e + 1))).st 0 (.int .i64 (1000000001)))
    first | exact hz | (rw [h]; exact hz) | (rw [h] at hz; exact hz) | (rw [← h]; exact hz)
  · have HC := Lib.hid (show cap (10 * a + d) = _ from cap_ge (by omega))
    go_enter Tryz.func145, Tryz.ntmps145
    go_wp2
    go_end0
    refine ⟨rfl, ch1_st (ch1_st (ch1_rf) _ _) _ _, ?_⟩
    rw [HC.out]
    have hz := ((HB.out.st 2 (.int .i64 (e + 1))).st 0 (.int .i64 (1000000001)))
    first | exact hz | (rw [h]; exact hz) | (rw [h] at hz; exact hz) | (rw [← h]; exact hz)
set_option maxHeartbeats 4000000 in
theorem digit_a (g : Nat) (d a b e : Int) (l s r : Bool) (w : World) (hb : Bk w g 169 (Sc.mk a b e false true s r).cells) (d0 : 0 ≤ d) (d1 : d ≤ 9) (a0 : 0 ≤ a) (a1 : a ≤ 1000000001) (b0 : 0 ≤ b) (b1 : b ≤ 4611686018427387904) (e0 : 0 ≤ e) (e1 : e ≤ 4611686018427387904) :
    Calls Tryz.prog 145 #[.pointer (some ⟨g, 0, none⟩), .int .i64 d] w fun x w' => x = .returned (.tuple #[]) ∧ Ch1 g w w' ∧ Bk w' g 169 (Sc.mk (cap (10 * a + d)) (b + 1) e false true s r).cells := by
  have k0 : w.cell? ⟨g, 0, none⟩ = some (.int .i64 a) := hb.cell 0
  have k1 : w.cell? ⟨g, 1, none⟩ = some (.int .i64 b) := hb.cell 1
  have k2 : w.cell? ⟨g, 2, none⟩ = some (.int .i64 e) := hb.cell 2
  have k3 : w.cell? ⟨g, 3, none⟩ = some (.bool false) := hb.cell 3
  have k4 : w.cell? ⟨g, 4, none⟩ = some (.bool true) := hb.cell 4
  have f0 : w.frozen? ⟨g, 0, none⟩ = false := hb.fr 0
  have f1 : w.frozen? ⟨g, 1, none⟩ = false := hb.fr 1
  have f2 : w.frozen? ⟨g, 2, none⟩ = false := hb.fr 2
  have f4 : w.frozen? ⟨g, 4, none⟩ = false := hb.fr 4
  have HB := Lib.hid hb
  clear hb
  rcases Int.lt_trichotomy (10 * a + d) 1000000001 with h | h | h
  · have HC := Lib.hid (show cap (10 * a + d) = _ from cap_lt h)
    go_enter Tryz.func145, Tryz.ntmps145
    go_wp2
    go_end0
    refine ⟨rfl, ch1_st (ch1_st (ch1_st (ch1_rf) _ _) _ _) _ _, ?_⟩
    rw [HC.out]
    have hz := (((HB.out.st 4 (.bool true)).st 1 (.int .i64 (b + 1))).st 0 (.int .i64 (10 * a + d)))
    first | exact hz | (rw [h]; exact hz) | (rw [h] at hz; exact hz) | (rw [← h]; exact hz)
  · have HC := Lib.hid (show cap (10 * a + d) = _ from cap_ge (by omega))
    go_enter Tryz.func145, Tryz.ntmps145
    go_wp2
    go_end0
    refine ⟨rfl, ch1_st (ch1_st (ch1_st (ch1_rf) _ _) _ _) _ _, ?_⟩
    rw [HC.out]
    have hz := (((HB.out.st 4 (.bool true)).st 1 (.int .i64 (b + 1))).st 0 (.int .i64 (1000000001)))
    first | exact hz | (rw [h]; exact hz) | (rw [h] at hz; exact hz) | (rw [← h]; exact hz)
  · have HC := Lib.hid (show cap (10 * a + d) = _ from cap_ge (by omega))
    go_enter Tryz.func145, Tryz.ntmps145
    go_wp2
    go_end0
    refine ⟨rfl, ch1_st (ch1_st (ch1_st (ch1_rf) _ _) _ _) _ _, ?_⟩
    rw [HC.out]
    have hz := (((HB.out.st 4 (.bool true)).st 1 (.int .i64 (b + 1))).st 0 (.int .i64 (1000000001)))
    first | exact hz | (rw [h]; exact hz) | (rw [h] at hz; exact hz) | (rw [← h]; exact hz)
set_option maxHeartbeats 4000000 in
theorem digit_b (g : Nat) (d a b e : Int) (l s r : Bool) (w : World) (hb : Bk w g 169 (Sc.mk a b e false false s r).cells) (d0 : 0 ≤ d) (d1 : d ≤ 9) (a0 : 0 ≤ a) (a1 : a ≤ 1000000001) (b0 : 0 ≤ b) (b1 : b ≤ 4611686018427387904) (e0 : 0 ≤ e) (e1 : e ≤ 4611686018427387904) (hx : (b == 1) = false) :
    Calls Tryz.prog 145 #[.pointer (some ⟨g, 0, none⟩), .int .i64 d] w fun x w' => x = .returned (.tuple #[]) ∧ Ch1 g w w' ∧ Bk w' g 169 (Sc.mk (cap (10 * a + d)) (b + 1) e false false s r).cells := by
  have k0 : w.cell? ⟨g, 0, none⟩ = some (.int .i64 a) := hb.cell 0
  have k1 : w.cell? ⟨g, 1, none⟩ = some (.int .i64 b) := hb.cell 1
  have k2 : w.cell? ⟨g, 2, none⟩ = some (.int .i64 e) := hb.cell 2
  have k3 : w.cell? ⟨g, 3, none⟩ = some (.bool false) := hb.cell 3
  have k4 : w.cell? ⟨g, 4, none⟩ = some (.bool false) := hb.cell 4
  have f0 : w.frozen? ⟨g, 0, none⟩ = false := hb.fr 0
  have f1 : w.frozen? ⟨g, 1, none⟩ = false := hb.fr 1
  have f2 : w.frozen? ⟨g, 2, none⟩ = false := hb.fr 2
  have f4 : w.frozen? ⟨g, 4, none⟩ = false := hb.fr 4
  have HB := Lib.hid hb
  clear hb
  rcases Int.lt_trichotomy (10 * a + d) 1000000001 with h | h | h
  · have HC := Lib.hid (show cap (10 * a + d) = _ from cap_lt h)
    go_enter Tryz.func145, Tryz.ntmps145
    go_wp2
    go_end0
    refine ⟨rfl, ch1_st (ch1_st (ch1_st (ch1_rf) _ _) _ _) _ _, ?_⟩
    rw [HC.out]
    have hz := (((HB.out.st 4 (.bool false)).st 1 (.int .i64 (b + 1))).st 0 (.int .i64 (10 * a + d)))
    first | exact hz | (rw [h]; exact hz) | (rw [h] at hz; exact hz) | (rw [← h]; exact hz)
  · have HC := Lib.hid (show cap (10 * a + d) = _ from cap_ge (by omega))
    go_enter Tryz.func145, Tryz.ntmps145
    go_wp2
    go_end0
    refine ⟨rfl, ch1_st (ch1_st (ch1_st (ch1_rf) _ _) _ _) _ _, ?_⟩
    rw [HC.out]
    have hz := (((HB.out.st 4 (.bool false)).st 1 (.int .i64 (b + 1))).st 0 (.int .i64 (1000000001)))
    first | exact hz | (rw [h]; exact hz) | (rw [h] at hz; exact hz) | (rw [← h]; exact hz)
  · have HC := Lib.hid (show cap (10 * a + d) = _ from cap_ge (by omega))
    go_enter Tryz.func145, Tryz.ntmps145
    go_wp2
    go_end0
    refine ⟨rfl, ch1_st (ch1_st (ch1_st (ch1_rf) _ _) _ _) _ _, ?_⟩
    rw [HC.out]
    have hz := (((HB.out.st 4 (.bool false)).st 1 (.int .i64 (b + 1))).st 0 (.int .i64 (1000000001)))
    first | exact hz | (rw [h]; exact hz) | (rw [h] at hz; exact hz) | (rw [← h]; exact hz)
set_option maxHeartbeats 4000000 in
theorem digit_c (g : Nat) (d a b e : Int) (l s r : Bool) (w : World) (hb : Bk w g 169 (Sc.mk a b e false false s r).cells) (d0 : 0 ≤ d) (d1 : d ≤ 9) (a0 : 0 ≤ a) (a1 : a ≤ 1000000001) (b0 : 0 ≤ b) (b1 : b ≤ 4611686018427387904) (e0 : 0 ≤ e) (e1 : e ≤ 4611686018427387904) (hx : (b == 1) = true) (hy : (a == 0) = false) :
    Calls Tryz.prog 145 #[.pointer (some ⟨g, 0, none⟩), .int .i64 d] w fun x w' => x = .returned (.tuple #[]) ∧ Ch1 g w w' ∧ Bk w' g 169 (Sc.mk (cap (10 * a + d)) (b + 1) e false false s r).cells := by
  have k0 : w.cell? ⟨g, 0, none⟩ = some (.int .i64 a) := hb.cell 0
  have k1 : w.cell? ⟨g, 1, none⟩ = some (.int .i64 b) := hb.cell 1
  have k2 : w.cell? ⟨g, 2, none⟩ = some (.int .i64 e) := hb.cell 2
  have k3 : w.cell? ⟨g, 3, none⟩ = some (.bool false) := hb.cell 3
  have k4 : w.cell? ⟨g, 4, none⟩ = some (.bool false) := hb.cell 4
  have f0 : w.frozen? ⟨g, 0, none⟩ = false := hb.fr 0
  have f1 : w.frozen? ⟨g, 1, none⟩ = false := hb.fr 1
  have f2 : w.frozen? ⟨g, 2, none⟩ = false := hb.fr 2
  have f4 : w.frozen? ⟨g, 4, none⟩ = false := hb.fr 4
  have HB := Lib.hid hb
  clear hb
  rcases Int.lt_trichotomy (10 * a + d) 1000000001 with h | h | h
  · have HC := Lib.hid (show cap (10 * a + d) = _ from cap_lt h)
    go_enter Tryz.func145, Tryz.ntmps145
    go_wp2
    go_end0
    refine ⟨rfl, ch1_st (ch1_st (ch1_st (ch1_rf) _ _) _ _) _ _, ?_⟩
    rw [HC.out]
    have hz := (((HB.out.st 4 (.bool false)).st 1 (.int .i64 (b + 1))).st 0 (.int .i64 (10 * a + d)))
    first | exact hz | (rw [h]; exact hz) | (rw [h] at hz; exact hz) | (rw [← h]; exact hz)
  · have HC := Lib.hid (show cap (10 * a + d) = _ from cap_ge (by omega))
    go_enter Tryz.func145, Tryz.ntmps145
    go_wp2
    go_end0
    refine ⟨rfl, ch1_st (ch1_st (ch1_st (ch1_rf) _ _) _ _) _ _, ?_⟩
    rw [HC.out]
    have hz := (((HB.out.st 4 (.bool false)).st 1 (.int .i64 (b + 1))).st 0 (.int .i64 (1000000001)))
    first | exact hz | (rw [h]; exact hz) | (rw [h] at hz; exact hz) | (rw [← h]; exact hz)
  · have HC := Lib.hid (show cap (10 * a + d) = _ from cap_ge (by omega))
    go_enter Tryz.func145, Tryz.ntmps145
    go_wp2
    go_end0
    refine ⟨rfl, ch1_st (ch1_st (ch1_st (ch1_rf) _ _) _ _) _ _, ?_⟩
    rw [HC.out]
    have hz := (((HB.out.st 4 (.bool false)).st 1 (.int .i64 (b + 1))).st 0 (.int .i64 (1000000001)))
    first | exact hz | (rw [h]; exact hz) | (rw [h] at hz; exact hz) | (rw [← h]; exact hz)
set_option maxHeartbeats 4000000 in
theorem digit_d (g : Nat) (d a b e : Int) (l s r : Bool) (w : World) (hb : Bk w g 169 (Sc.mk a b e false false s r).cells) (d0 : 0 ≤ d) (d1 : d ≤ 9) (a0 : 0 ≤ a) (a1 : a ≤ 1000000001) (b0 : 0 ≤ b) (b1 : b ≤ 4611686018427387904) (e0 : 0 ≤ e) (e1 : e ≤ 4611686018427387904) (hx : (b == 1) = true) (hy : (a == 0) = true) :
    Calls Tryz.prog 145 #[.pointer (some ⟨g, 0, none⟩), .int .i64 d] w fun x w' => x = .returned (.tuple #[]) ∧ Ch1 g w w' ∧ Bk w' g 169 (Sc.mk (cap (10 * a + d)) (b + 1) e false true s r).cells := by
  have k0 : w.cell? ⟨g, 0, none⟩ = some (.int .i64 a) := hb.cell 0
  have k1 : w.cell? ⟨g, 1, none⟩ = some (.int .i64 b) := hb.cell 1
  have k2 : w.cell? ⟨g, 2, none⟩ = some (.int .i64 e) := hb.cell 2
  have k3 : w.cell? ⟨g, 3, none⟩ = some (.bool false) := hb.cell 3
  have k4 : w.cell? ⟨g, 4, none⟩ = some (.bool false) := hb.cell 4
  have f0 : w.frozen? ⟨g, 0, none⟩ = false := hb.fr 0
  have f1 : w.frozen? ⟨g, 1, none⟩ = false := hb.fr 1
  have f2 : w.frozen? ⟨g, 2, none⟩ = false := hb.fr 2
  have f4 : w.frozen? ⟨g, 4, none⟩ = false := hb.fr 4
  have HB := Lib.hid hb
  clear hb
  rcases Int.lt_trichotomy (10 * a + d) 1000000001 with h | h | h
  · have HC := Lib.hid (show cap (10 * a + d) = _ from cap_lt h)
    go_enter Tryz.func145, Tryz.ntmps145
    go_wp2
    go_end0
    refine ⟨rfl, ch1_st (ch1_st (ch1_st (ch1_rf) _ _) _ _) _ _, ?_⟩
    rw [HC.out]
    have hz := (((HB.out.st 4 (.bool true)).st 1 (.int .i64 (b + 1))).st 0 (.int .i64 (10 * a + d)))
    first | exact hz | (rw [h]; exact hz) | (rw [h] at hz; exact hz) | (rw [← h]; exact hz)
  · have HC := Lib.hid (show cap (10 * a + d) = _ from cap_ge (by omega))
    go_enter Tryz.func145, Tryz.ntmps145
    go_wp2
    go_end0
    refine ⟨rfl, ch1_st (ch1_st (ch1_st (ch1_rf) _ _) _ _) _ _, ?_⟩
    rw [HC.out]
    have hz := (((HB.out.st 4 (.bool true)).st 1 (.int .i64 (b + 1))).st 0 (.int .i64 (1000000001)))
    first | exact hz | (rw [h]; exact hz) | (rw [h] at hz; exact hz) | (rw [← h]; exact hz)
  · have HC := Lib.hid (show cap (10 * a + d) = _ from cap_ge (by omega))
    go_enter Tryz.func145, Tryz.ntmps145
    go_wp2
    go_end0
    refine ⟨rfl, ch1_st (ch1_st (ch1_st (ch1_rf) _ _) _ _) _ _, ?_⟩
    rw [HC.out]
    have hz := (((HB.out.st 4 (.bool true)).st 1 (.int .i64 (b + 1))).st 0 (.int .i64 (1000000001)))
    first | exact hz | (rw [h]; exact hz) | (rw [h] at hz; exact hz) | (rw [← h]; exact hz)
theorem digit_any (g : Nat) (d : Int) (S : Sc) (w : World) (hb : Bk w g 169 S.cells) (d0 : 0 ≤ d) (d1 : d ≤ 9) (n : Int) (hn : n ≤ 4611686018427387904) (hS : S.ok n) :
    Calls Tryz.prog 145 #[.pointer (some ⟨g, 0, none⟩), .int .i64 d] w fun x w' => x = .returned (.tuple #[]) ∧ Ch1 g w w' ∧ Bk w' g 169 (S.digit d).cells := by
  obtain ⟨a, b, e, p, l, s, r⟩ := S
  obtain ⟨a0, a1, b0, b1, e0, e1⟩ := hS
  simp only at a0 a1 b0 b1 e0 e1
  cases p
  · cases l
    · rcases hx : (b == 1)
      · have := digit_b g d a b e false s r w hb d0 d1 a0 a1 b0 (by omega) e0 (by omega) hx
        simpa [Sc.digit, hx] using this
      · rcases hy : (a == 0)
        · have := digit_c g d a b e false s r w hb d0 d1 a0 a1 b0 (by omega) e0 (by omega) hx hy
          simpa [Sc.digit, hx, hy] using this
        · have := digit_d g d a b e false s r w hb d0 d1 a0 a1 b0 (by omega) e0 (by omega) hx hy
          simpa [Sc.digit, hx, hy] using this
    · have := digit_a g d a b e true s r w hb d0 d1 a0 a1 b0 (by omega) e0 (by omega)
      simpa [Sc.digit] using this
  · have := digit_point g d a b e l s r w hb d0 d1 a0 a1 b0 (by omega) e0 (by omega)
    simpa [Sc.digit] using this
theorem cap_bound {n : Int} (h : 0 ≤ n) : 0 ≤ cap n ∧ cap n ≤ 1000000001 := by unfold cap; split <;> omega
theorem digit_ok {S : Sc} {n d : Int} (h : S.ok n) (d0 : 0 ≤ d) : (S.digit d).ok (n + 1) := by
  obtain ⟨a0, a1, b0, b1, e0, e1⟩ := h
  have := cap_bound (n := 10 * S.digits + d) (by omega)
  unfold Sc.digit
  split <;> exact ⟨this.1, this.2, by simp only; omega, by simp only; omega, by simp only; omega, by simp only; omega⟩
theorem take_ok {S : Sc} {n : Int} {c : Nat} (h : S.ok n) : (S.take c).ok (n + 1) := by
  have hw : S.ok (n + 1) := ⟨h.1, h.2.1, h.2.2.1, by have := h.2.2.2.1; omega, h.2.2.2.2.1, by have := h.2.2.2.2.2; omega⟩
  unfold Sc.take
  split
  · exact digit_ok (S := { S with some := true }) h (by omega)
  · split
    · exact digit_ok h (by omega)
    · split
      · exact hw
      · exact hw
end Go.Proofs.YtpbnabibnkohdaaGreatDoor.Un
namespace Go.Proofs.YtpbnabibnkohdaaGreatDoor.Un
open Go.ChangeShapes Go.WideShapes Go.RowKit Wo
set_option linter.unusedVariables false
set_option maxHeartbeats 4000000 in
set_option maxRecDepth 100000 in
theorem take_any (g : Nat) (c : Nat) (hc : c < 256) (S : Sc) (w : World) (hb : Bk w g 169 S.cells) (n : Int) (hn : n ≤ 4611686018427387904) (hS : S.ok n) :
    Calls Tryz.prog 112 #[.pointer (some ⟨g, 0, none⟩), .int .u8 (c : Int)] w fun x w' => x = .returned (.tuple #[]) ∧ Ch1 g w w' ∧ Bk w' g 169 (S.take c).cells := by
  have k3 : w.cell? ⟨g, 3, none⟩ = some (.bool S.point) := hb.cell 3
  have k5 : w.cell? ⟨g, 5, none⟩ = some (.bool S.some) := hb.cell 5
  have k6 : w.cell? ⟨g, 6, none⟩ = some (.bool S.wrong) := hb.cell 6
  have f3 : w.frozen? ⟨g, 3, none⟩ = false := hb.fr 3
  have f5 : w.frozen? ⟨g, 5, none⟩ = false := hb.fr 5
  have f6 : w.frozen? ⟨g, 6, none⟩ = false := hb.fr 6
  have ci : (c : Int) < 256 := by omega
  rcases Classical.em (49 ≤ c ∧ c ≤ 57) with h | h
  · have HT : Hid (S.take c = ({ S with some := true } : Sc).digit ((c : Int) - 48)) := by show S.take c = _; unfold Sc.take; rw [if_pos h]
    obtain ⟨h1, h2⟩ := h
    have i1 : (49 : Int) ≤ (c : Int) := by omega
    have i2 : (c : Int) ≤ 57 := by omega
    have HB2 : Hid (Bk (w.setCell ⟨g, 5, none⟩ (.bool true)) g 169 ({ S with some := true } : Sc).cells) := hb.st 5 _
    have HD : Hid (Calls Tryz.prog 145 #[.pointer (some ⟨g, 0, none⟩), .int .i64 ((c : Int) - 48)] (w.setCell ⟨g, 5, none⟩ (.bool true)) fun x w' => x = .returned (.tuple #[]) ∧ Ch1 g (w.setCell ⟨g, 5, none⟩ (.bool true)) w' ∧ Bk w' g 169 (({ S with some := true } : Sc).digit ((c : Int) - 48)).cells) :=
      digit_any g _ _ _ HB2.out (by omega) (by omega) n hn hS
    clear hb HB2 h1 h2
    go_enter Tryz.func112, Tryz.ntmps112
    go_wp2_with fail
    go_at_call 145
    refine (HD.out).mono ?_
    rintro x w1 ⟨rfl, hc1, hb1⟩
    have HC1 := Lib.hid (ch1_tr (ch1_st ch1_rf 5 (.bool true)) hc1)
    have HB1 := Lib.hid hb1
    clear hc1 hb1
    go_wp2
    go_end0
    exact ⟨rfl, HC1.out, by rw [HT.out]; exact HB1.out⟩
  · rcases Classical.em (c = 48) with h0 | h0
    · have HT : Hid (S.take c = S.digit 0) := by show S.take c = _; unfold Sc.take; rw [if_neg h, if_pos h0]
      subst h0
      have HD : Hid (Calls Tryz.prog 145 #[.pointer (some ⟨g, 0, none⟩), .int .i64 0] w fun x w' => x = .returned (.tuple #[]) ∧ Ch1 g w w' ∧ Bk w' g 169 (S.digit 0).cells) :=
        digit_any g _ _ _ hb (by omega) (by omega) n hn hS
      clear hb h hc ci
      go_enter Tryz.func112, Tryz.ntmps112
      go_wp2_with fail
      go_at_call 145
      refine (HD.out).mono ?_
      rintro x w1 ⟨rfl, hc1, hb1⟩
      have HC1 := Lib.hid hc1
      have HB1 := Lib.hid hb1
      clear hc1 hb1
      go_wp2
      go_end0
      exact ⟨rfl, HC1.out, by rw [HT.out]; exact HB1.out⟩
    · have n48 : ((c : Int) == 48) = false := by simpa using (by omega : (c : Int) ≠ 48)
      rcases Classical.em (c = 46 ∧ S.point = false) with h1 | h1
      · have HT : Hid (S.take c = { S with point := true }) := by show S.take c = _; unfold Sc.take; rw [if_neg h, if_neg h0, if_pos h1]
        obtain ⟨rfl, hp⟩ := h1
        rw [hp] at k3
        have HB := Lib.hid hb
        clear hb h h0 hc ci n48 hp
        go_enter Tryz.func112, Tryz.ntmps112
        go_wp2
        go_end0
        exact ⟨rfl, ch1_st ch1_rf _ _, by rw [HT.out]; exact HB.out.st 3 (.bool true)⟩
      · have HT : Hid (S.take c = { S with wrong := true }) := by show S.take c = _; unfold Sc.take; rw [if_neg h, if_neg h0, if_neg h1]
        have HB := Lib.hid hb
        have o1 : decide (49 ≤ (c : Int)) = false ∨ decide (49 ≤ (c : Int)) = true ∧ decide ((c : Int) ≤ 57) = false := by
          rcases Nat.lt_or_ge c 49 with h | h
          · exact .inl (decide_eq_false (by omega))
          · exact .inr ⟨decide_eq_true (by omega), decide_eq_false (by omega)⟩
        have o2 : ((c : Int) == 46) = false ∨ ((c : Int) == 46) = true ∧ S.point = true := by
          rcases Classical.em (c = 46) with h | h
          · refine .inr ⟨by simpa using (by omega : (c : Int) = 46), ?_⟩
            rcases hp : S.point
            · exact absurd ⟨h, hp⟩ h1
            · rfl
          · exact .inl (by simpa using (by omega : (c : Int) ≠ 46))
        clear hb h h0 h1 hc ci
        rcases o1 with g1 | ⟨g1, g2⟩ <;> rcases o2 with g3 | ⟨g3, g4⟩
        all_goals
          first
          | (rw [g4] at k3; clear g4)
          | skip
          go_enter Tryz.func112, Tryz.ntmps112
          go_wp2
          go_end0
          exact ⟨rfl, ch1_st ch1_rf _ _, by rw [HT.out]; exact HB.out.st 6 (.bool true)⟩
end Go.Proofs.YtpbnabibnkohdaaGreatDoor.Un
namespace Go.Proofs.YtpbnabibnkohdaaGreatDoor.Un
open Go.ChangeShapes Go.WideShapes Go.RowKit Wo
set_option linter.unusedVariables false
/-- the state behind the bytes of a text -/
def rn (l : List UInt8) : Sc := l.foldl (fun S c => S.take c.toNat) ⟨0, 0, 0, false, false, false, false⟩
theorem rn_snoc (l : List UInt8) (c : UInt8) : rn (l ++ [c]) = (rn l).take c.toNat := by simp [rn, List.foldl_append]
theorem rn_ok_aux (l : List UInt8) : ∀ (S : Sc) (n : Int), S.ok n → (l.foldl (fun S c => S.take c.toNat) S).ok (n + l.length) := by
  induction l with
  | nil => intro S n h; simpa using h
  | cons c l ih =>
    intro S n h
    have := ih (S.take c.toNat) (n + 1) (take_ok h)
    rw [List.foldl_cons, List.length_cons]
    rwa [show n + 1 + (l.length : Int) = n + ((l.length + 1 : Nat) : Int) by omega] at this
theorem rn_ok (l : List UInt8) : (rn l).ok l.length := by
  have := rn_ok_aux l ⟨0, 0, 0, false, false, false, false⟩ 0 ⟨by decide, by decide, by decide, by decide, by decide, by decide⟩
  simpa [rn] using this
theorem take_snoc (s : ByteArray) (k : Nat) (h : k < s.size) : s.data.toList.take (k + 1) = s.data.toList.take k ++ [s[k]] := by
  rw [List.take_succ_eq_append_getElem (by simpa using h)]; rfl
/-- whether the text is refused -/
def rej (S : Sc) (m : Bool) : Bool := S.wrong || (S.leading || (S.whole == 0 || ((S.point && S.places == 0) || (decide (6 < S.places) || (m && !S.some)))))
/-- what Parse returns -/
def prs (S : Sc) (m : Bool) : Value :=
  if rej S m = true then .tuple #[.agg #[.int .i64 0, .int .i64 0], .int .i64 3]
  else if 1000000000 < S.digits then .tuple #[.agg #[.int .i64 0, .int .i64 0], .int .i64 1]
  else .tuple #[.agg #[.int .i64 (if m = true then -S.digits else S.digits), .int .i64 S.places], .int .i64 0]
set_option maxHeartbeats 16000000 in
set_option maxRecDepth 100000 in
theorem parse_core (s body : ByteArray) (m : Bool) (hs : body.size ≤ 4611686018427387904) (w : World)
    (hcut : ∀ w, Calls Tryz.prog 111 #[.string s, .string ⟨#[45]⟩] w fun e w' => e = .returned (.tuple #[.string body, .bool m]) ∧ w = w') :
    Calls Tryz.prog 84 #[.string s] w fun e w' => e = .returned (prs (rn body.data.toList) m) ∧ Bel w w' := by
  have HCUT := Lib.hid hcut
  clear hcut
  have si : (body.size : Int) ≤ 4611686018427387904 := by omega
  go_enter Tryz.func84, Tryz.ntmps84
  go_wp2_with fail
  go_at_call 111
  refine (HCUT.out _).mono ?_
  rintro e w1 ⟨rfl, hw1⟩
  subst hw1
  go_wp2_with fail
  have HI : Hid (∀ W : World, Bk (W.alloc (.cells (Sc.mk 0 0 0 false false false false).cells 169)) W.heap.size 169 (Sc.mk 0 0 0 false false false false).cells) := fun W => Bk.nw _ _ _
  go_loopw [15] (fun t wr => ∃ k : Nat, k ≤ body.size ∧ t = .int .i64 (k : Int) ∧ Bel w wr ∧ Bk wr (w.heap.size + 1) 169 (rn (body.data.toList.take k)).cells ∧ Bk wr w.heap.size 128 #[.int .i64 0, .int .i64 0]) (fun t _ => body.size - (intOf t).toNat)
  case atStart => exact ⟨0, by omega, rfl, (Bel.rf.al _).al _, Bk.nq (w.alloc _) _ _ (by simp), (Bk.nw _ _ _).al _⟩
  case round =>
    obtain ⟨k, hk, rfl, hb, hg, hr⟩ := hrel
    rename_i wr
    rcases Nat.lt_or_ge k body.size with hlt | hge
    · have hkl : (body.data.toList.take k).length ≤ k := List.length_take_le _ _
      have hok := rn_ok (body.data.toList.take k)
      have hok2 : (rn (body.data.toList.take k)).ok 4611686018427387904 := ⟨hok.1, hok.2.1, hok.2.2.1, by have := hok.2.2.2.1; omega, hok.2.2.2.2.1, by have := hok.2.2.2.2.2; omega⟩
      have HT : Hid (Calls Tryz.prog 112 #[.pointer (some ⟨w.heap.size + 1, 0, none⟩), .int .u8 (body[k].toNat : Int)] wr fun x w' => x = .returned (.tuple #[]) ∧ Ch1 (w.heap.size + 1) wr w' ∧ Bk w' (w.heap.size + 1) 169 ((rn (body.data.toList.take k)).take body[k].toNat).cells) :=
        take_any _ _ (UInt8.toNat_lt _) _ _ hg 4611686018427387904 (by decide) hok2
      have HE : Hid (rn (body.data.toList.take (k + 1)) = (rn (body.data.toList.take k)).take body[k].toNat) := by
        show rn _ = _
        rw [take_snoc body k hlt, rn_snoc]
      have HB := Lib.hid hb
      have HR := Lib.hid hr
      have hi : (k : Int) < (body.size : Int) := by omega
      clear hb hg hr hok hok2 hkl
      go_wp2_with fail
      go_at_call 112
      refine (HT.out).mono ?_
      rintro x w2 ⟨rfl, hc2, hg2⟩
      have HB2 : Hid (Bel w w2) := bel_ch1 HB.out hc2 (by omega)
      have HR2 : Hid (Bk w2 w.heap.size 128 #[.int .i64 0, .int .i64 0]) := (hc2.block _ HR.out.lt (fun e => by injection e with e; omega)).trans HR.out
      have HG2 := Lib.hid hg2
      clear hc2 hg2
      go_wp2_with fail
      go_roundw
      case rel => exact ⟨k + 1, by omega, by go_num, HB2.out, by rw [HE.out]; exact HG2.out, HR2.out⟩
      case measure => simp [intOf]; omega
    · obtain rfl : k = body.size := by omega
      have hall : body.data.toList.take body.size = body.data.toList := List.take_of_length_le (by simp)
      rw [hall] at hg
      have hok := rn_ok body.data.toList
      have hlen : (body.data.toList.length : Int) ≤ 4611686018427387904 := by simpa using si
      obtain ⟨o0, o1, o2, o3, o4, o5⟩ := hok
      obtain ⟨S, hS⟩ : ∃ S, rn body.data.toList = S := ⟨_, rfl⟩
      rw [hS] at hg o0 o1 o2 o3 o4 o5
      have HSS := Lib.hid hS
      clear hS
      have l0 : wr.cell? ⟨w.heap.size, 0, none⟩ = some (.int .i64 0) := hr.cell 0
      have l1 : wr.cell? ⟨w.heap.size, 1, none⟩ = some (.int .i64 0) := hr.cell 1
      have j0 : wr.frozen? ⟨w.heap.size, 0, none⟩ = false := hr.fr 0
      have j1 : wr.frozen? ⟨w.heap.size, 1, none⟩ = false := hr.fr 1
      obtain ⟨a, b, c, p, l, q, r⟩ := S
      simp only at o0 o1 o2 o3 o4 o5
      have k0 : wr.cell? ⟨w.heap.size + 1, 0, none⟩ = some (.int .i64 a) := hg.cell 0
      have k1 : wr.cell? ⟨w.heap.size + 1, 1, none⟩ = some (.int .i64 b) := hg.cell 1
      have k2 : wr.cell? ⟨w.heap.size + 1, 2, none⟩ = some (.int .i64 c) := hg.cell 2
      have k3 : wr.cell? ⟨w.heap.size + 1, 3, none⟩ = some (.bool p) := hg.cell 3
      have k4 : wr.cell? ⟨w.heap.size + 1, 4, none⟩ = some (.bool l) := hg.cell 4
      have k5 : wr.cell? ⟨w.heap.size + 1, 5, none⟩ = some (.bool q) := hg.cell 5
      have k6 : wr.cell? ⟨w.heap.size + 1, 6, none⟩ = some (.bool r) := hg.cell 6
      have f0 : wr.frozen? ⟨w.heap.size + 1, 0, none⟩ = false := hg.fr 0
      have HB := Lib.hid hb
      clear hg hr hb HI hall hlen hk hge o3 o5
      rcases hj : rej ⟨a, b, c, p, l, q, r⟩ m
      · have HV : Hid (prs (rn body.data.toList) m = if 1000000000 < a then .tuple #[.agg #[.int .i64 0, .int .i64 0], .int .i64 1] else .tuple #[.agg #[.int .i64 (if m = true then -a else a), .int .i64 c], .int .i64 0]) := by
          show prs _ _ = _
          rw [HSS.out]
          unfold prs
          rw [hj]
          rfl
        simp only [rej, Bool.or_eq_false_iff] at hj
        obtain ⟨rfl, rfl, h3, h4, h5, h6⟩ := hj
        have h5' : ¬ 6 < c := by simpa using h5
        rcases Int.lt_or_le 1000000000 a with ha | ha
        · rw [if_pos ha] at HV
          rcases p
          · clear h4
            rcases m <;> rcases q <;> first | (simp at h6; done) | (clear h5 h6; go_wp2; exact bodyPost_ret (v := .tuple #[.agg #[.int .i64 0, .int .i64 0], .int .i64 1]) (by simp [results, Tryz.results84, go_sem, l0, l1]) rfl ⟨by rw [HV.out], (by repeat (first | exact HB.out | (with_reducible refine Bel.drwN ?_ _) | (with_reducible refine Bel.drw ?_) | (with_reducible refine Bel.al ?_ _) | ((with_reducible refine Bel.st2 ?_ ?_ _); (show _ ≤ _); (simp only []; omega))))⟩)
          · simp only [Bool.true_and] at h4
            rcases m <;> rcases q <;> first | (simp at h6; done) | (clear h5 h6; go_wp2; exact bodyPost_ret (v := .tuple #[.agg #[.int .i64 0, .int .i64 0], .int .i64 1]) (by simp [results, Tryz.results84, go_sem, l0, l1]) rfl ⟨by rw [HV.out], (by repeat (first | exact HB.out | (with_reducible refine Bel.drwN ?_ _) | (with_reducible refine Bel.drw ?_) | (with_reducible refine Bel.al ?_ _) | ((with_reducible refine Bel.st2 ?_ ?_ _); (show _ ≤ _); (simp only []; omega))))⟩)
        · rw [if_neg (by omega)] at HV
          rcases p
          · clear h4
            rcases m
            · clear h5 h6
              go_wp2
              exact bodyPost_ret (v := .tuple #[.agg #[.int .i64 a, .int .i64 c], .int .i64 0]) (by simp [results, Tryz.results84, go_sem, l0, l1]) rfl ⟨by rw [HV.out]; rfl, (by repeat (first | exact HB.out | (with_reducible refine Bel.drwN ?_ _) | (with_reducible refine Bel.drw ?_) | (with_reducible refine Bel.al ?_ _) | ((with_reducible refine Bel.st2 ?_ ?_ _); (show _ ≤ _); (simp only []; omega))))⟩
            · rcases q
              · simp at h6
              · clear h5 h6
                go_wp2
                exact bodyPost_ret (v := .tuple #[.agg #[.int .i64 (-a), .int .i64 c], .int .i64 0]) (by simp [results, Tryz.results84, go_sem, l0, l1]) rfl ⟨by rw [HV.out]; rfl, (by repeat (first | exact HB.out | (with_reducible refine Bel.drwN ?_ _) | (with_reducible refine Bel.drw ?_) | (with_reducible refine Bel.al ?_ _) | ((with_reducible refine Bel.st2 ?_ ?_ _); (show _ ≤ _); (simp only []; omega))))⟩
          · simp only [Bool.true_and] at h4
            rcases m
            · clear h5 h6
              go_wp2
              exact bodyPost_ret (v := .tuple #[.agg #[.int .i64 a, .int .i64 c], .int .i64 0]) (by simp [results, Tryz.results84, go_sem, l0, l1]) rfl ⟨by rw [HV.out]; rfl, (by repeat (first | exact HB.out | (with_reducible refine Bel.drwN ?_ _) | (with_reducible refine Bel.drw ?_) | (with_reducible refine Bel.al ?_ _) | ((with_reducible refine Bel.st2 ?_ ?_ _); (show _ ≤ _); (simp only []; omega))))⟩
            · rcases q
              · simp at h6
              · clear h5 h6
                go_wp2
                exact bodyPost_ret (v := .tuple #[.agg #[.int .i64 (-a), .int .i64 c], .int .i64 0]) (by simp [results, Tryz.results84, go_sem, l0, l1]) rfl ⟨by rw [HV.out]; rfl, (by repeat (first | exact HB.out | (with_reducible refine Bel.drwN ?_ _) | (with_reducible refine Bel.drw ?_) | (with_reducible refine Bel.al ?_ _) | ((with_reducible refine Bel.st2 ?_ ?_ _); (show _ ≤ _); (simp only []; omega))))⟩
      · have HV : Hid (prs (rn body.data.toList) m = .tuple #[.agg #[.int .i64 0, .int .i64 0], .int .i64 3]) := by
          show prs _ _ = _
          rw [HSS.out]
          unfold prs
          rw [hj]
          rfl
        rcases r
        · rcases l
          · rcases h3 : (b == 0)
            · rcases h4 : (p && c == 0)
              · rcases h5 : decide (6 < c)
                · simp only [rej, h3, h4, h5, Bool.false_or, Bool.and_eq_true, Bool.not_eq_true'] at hj
                  obtain ⟨rfl, rfl⟩ := hj
                  have h5' : ¬ 6 < c := by simpa using h5
                  rcases p
                  · clear h4 h5
                    go_wp2
                    exact bodyPost_ret (v := .tuple #[.agg #[.int .i64 0, .int .i64 0], .int .i64 3]) (by simp [results, Tryz.results84, go_sem, l0, l1]) rfl ⟨by rw [HV.out], (by repeat (first | exact HB.out | (with_reducible refine Bel.drwN ?_ _) | (with_reducible refine Bel.drw ?_) | (with_reducible refine Bel.al ?_ _) | ((with_reducible refine Bel.st2 ?_ ?_ _); (show _ ≤ _); (simp only []; omega))))⟩
                  · simp only [Bool.true_and] at h4
                    clear h5
                    go_wp2
                    exact bodyPost_ret (v := .tuple #[.agg #[.int .i64 0, .int .i64 0], .int .i64 3]) (by simp [results, Tryz.results84, go_sem, l0, l1]) rfl ⟨by rw [HV.out], (by repeat (first | exact HB.out | (with_reducible refine Bel.drwN ?_ _) | (with_reducible refine Bel.drw ?_) | (with_reducible refine Bel.al ?_ _) | ((with_reducible refine Bel.st2 ?_ ?_ _); (show _ ≤ _); (simp only []; omega))))⟩
                · have h5' : 6 < c := by simpa using h5
                  have h4' : (c == 0) = false := by simp; omega
                  clear h4 h5 hj
                  rcases p
                  · go_wp2
                    exact bodyPost_ret (v := .tuple #[.agg #[.int .i64 0, .int .i64 0], .int .i64 3]) (by simp [results, Tryz.results84, go_sem, l0, l1]) rfl ⟨by rw [HV.out], (by repeat (first | exact HB.out | (with_reducible refine Bel.drwN ?_ _) | (with_reducible refine Bel.drw ?_) | (with_reducible refine Bel.al ?_ _) | ((with_reducible refine Bel.st2 ?_ ?_ _); (show _ ≤ _); (simp only []; omega))))⟩
                  · go_wp2
                    exact bodyPost_ret (v := .tuple #[.agg #[.int .i64 0, .int .i64 0], .int .i64 3]) (by simp [results, Tryz.results84, go_sem, l0, l1]) rfl ⟨by rw [HV.out], (by repeat (first | exact HB.out | (with_reducible refine Bel.drwN ?_ _) | (with_reducible refine Bel.drw ?_) | (with_reducible refine Bel.al ?_ _) | ((with_reducible refine Bel.st2 ?_ ?_ _); (show _ ≤ _); (simp only []; omega))))⟩
              · rcases p
                · simp at h4
                · simp only [Bool.true_and] at h4
                  clear hj
                  go_wp2
                  exact bodyPost_ret (v := .tuple #[.agg #[.int .i64 0, .int .i64 0], .int .i64 3]) (by simp [results, Tryz.results84, go_sem, l0, l1]) rfl ⟨by rw [HV.out], (by repeat (first | exact HB.out | (with_reducible refine Bel.drwN ?_ _) | (with_reducible refine Bel.drw ?_) | (with_reducible refine Bel.al ?_ _) | ((with_reducible refine Bel.st2 ?_ ?_ _); (show _ ≤ _); (simp only []; omega))))⟩
            · clear hj
              go_wp2
              exact bodyPost_ret (v := .tuple #[.agg #[.int .i64 0, .int .i64 0], .int .i64 3]) (by simp [results, Tryz.results84, go_sem, l0, l1]) rfl ⟨by rw [HV.out], (by repeat (first | exact HB.out | (with_reducible refine Bel.drwN ?_ _) | (with_reducible refine Bel.drw ?_) | (with_reducible refine Bel.al ?_ _) | ((with_reducible refine Bel.st2 ?_ ?_ _); (show _ ≤ _); (simp only []; omega))))⟩
          · clear hj
            go_wp2
            exact bodyPost_ret (v := .tuple #[.agg #[.int .i64 0, .int .i64 0], .int .i64 3]) (by simp [results, Tryz.results84, go_sem, l0, l1]) rfl ⟨by rw [HV.out], (by repeat (first | exact HB.out | (with_reducible refine Bel.drwN ?_ _) | (with_reducible refine Bel.drw ?_) | (with_reducible refine Bel.al ?_ _) | ((with_reducible refine Bel.st2 ?_ ?_ _); (show _ ≤ _); (simp only []; omega))))⟩
        · clear hj
          go_wp2
          exact bodyPost_ret (v := .tuple #[.agg #[.int .i64 0, .int .i64 0], .int .i64 3]) (by simp [results, Tryz.results84, go_sem, l0, l1]) rfl ⟨by rw [HV.out], (by repeat (first | exact HB.out | (with_reducible refine Bel.drwN ?_ _) | (with_reducible refine Bel.drw ?_) | (with_reducible refine Bel.al ?_ _) | ((with_reducible refine Bel.st2 ?_ ?_ _); (show _ ≤ _); (simp only []; omega))))⟩
end Go.Proofs.YtpbnabibnkohdaaGreatDoor.Un
namespace Go.Proofs.YtpbnabibnkohdaaGreatDoor.Un
open Go.Lib
set_option linter.unusedVariables false
def isD (c : UInt8) : Prop := 48 ≤ c.toNat ∧ c.toNat ≤ 57
def allD (l : List UInt8) : Prop := ∀ c ∈ l, isD c
/-- the number of a list of digits -/
def val (l : List UInt8) : Nat := l.foldl (fun v c => 10 * v + (c.toNat - 48)) 0
theorem val_snoc (l : List UInt8) (c : UInt8) : val (l ++ [c]) = 10 * val l + (c.toNat - 48) := by simp [val]
def nz (l : List UInt8) : Bool := l.any fun c => c != 48
theorem nz_snoc (l : List UInt8) (c : UInt8) : nz (l ++ [c]) = (nz l || c != 48) := by simp [nz]
def ld (l : List UInt8) : Bool := decide (2 ≤ l.length) && (l.head? == some 48)
def capN (n : Nat) : Int := cap (n : Int)
theorem u8_eq {c : UInt8} (h : c.toNat = 48) : c = 48 := UInt8.toNat_inj.1 (by simpa using h)
theorem u8_of {d : Nat} (h : d < 10) : (UInt8.ofNat (48 + d)).toNat = 48 + d := by rw [UInt8.toNat_ofNat']; omega
theorem cap_step (n d : Nat) : cap (10 * capN n + (d : Int)) = capN (10 * n + d) := by
  unfold capN cap
  split <;> split <;> split <;> omega
theorem snoc_ind {P : List UInt8 → Prop} (h0 : P []) (h1 : ∀ l c, P l → P (l ++ [c])) (l : List UInt8) : P l := by
  have : ∀ n (l : List UInt8), l.length = n → P l := by
    intro n
    induction n with
    | zero => intro l h; rw [List.eq_nil_of_length_eq_zero h]; exact h0
    | succ n ih =>
      intro l h
      have hne : l ≠ [] := by intro e; rw [e] at h; simp at h
      rw [← List.dropLast_concat_getLast hne]
      exact h1 _ _ (ih _ (by simp [h]))
  exact this _ l rfl
theorem allD_snoc {l : List UInt8} {c : UInt8} (h : allD (l ++ [c])) : allD l ∧ isD c := ⟨fun x hx => h x (by simp [hx]), h c (by simp)⟩
/-- what a digit does -/
theorem take_digit (S : Sc) (c : UInt8) (h : isD c) : S.take c.toNat = ({ S with some := S.some || c != 48 }).digit (((c.toNat - 48 : Nat) : Int)) := by
  unfold isD at h
  unfold Sc.take
  rcases Nat.lt_or_ge 48 c.toNat with h1 | h1
  · rw [if_pos ⟨by omega, h.2⟩]
    have hn : (c != 48) = true := by
      rw [bne_iff_ne]; intro e; rw [e] at h1; simp at h1
    rw [hn, Bool.or_true]
    congr 1
    omega
  · have e : c.toNat = 48 := by omega
    rw [if_neg (by omega), if_pos e, u8_eq e]
    simp
theorem ld_snoc (l : List UInt8) (c : UInt8) (h : allD l) : ld (l ++ [c]) = (ld l || ((l.length : Int) == 1 && capN (val l) == 0)) := by
  match l, h with
  | [], _ => simp [ld]
  | [x], h =>
    have hx := h x (by simp)
    unfold isD at hx
    have hc : capN (val [x]) = ((x.toNat - 48 : Nat) : Int) := by
      unfold capN cap val
      simp
      intro hh; omega
    rw [hc]
    simp [ld]
    by_cases e : x = 48
    · subst e; rfl
    · have e2 : x.toNat ≠ 48 := fun h => e (u8_eq h)
      rw [beq_eq_false_iff_ne.2 e]
      symm
      rw [beq_eq_false_iff_ne]
      omega
  | x :: y :: l, _ =>
    have e : ((((x :: y :: l).length : Nat) : Int) == 1) = false := by simp; omega
    rw [e]
    simp [ld]
/-- the scan of digits -/
theorem rn_digits (l : List UInt8) : allD l → rn l = ⟨capN (val l), l.length, 0, false, ld l, nz l, false⟩ := by
  refine snoc_ind (P := fun l => allD l → rn l = ⟨capN (val l), l.length, 0, false, ld l, nz l, false⟩) ?_ ?_ l
  · intro _; rfl
  · intro l c ih h
    obtain ⟨h1, h2⟩ := allD_snoc h
    rw [rn_snoc, ih h1, take_digit _ c h2, val_snoc, nz_snoc, ld_snoc l c h1, ← cap_step]
    simp [Sc.digit]
/-- the scan of digits, a point, and digits -/
theorem rn_point (A : List UInt8) (hA : allD A) (B : List UInt8) : allD B → rn (A ++ 46 :: B) = ⟨capN (val (A ++ B)), A.length, B.length, true, ld A, nz (A ++ B), false⟩ := by
  refine snoc_ind (P := fun B => allD B → rn (A ++ 46 :: B) = ⟨capN (val (A ++ B)), A.length, B.length, true, ld A, nz (A ++ B), false⟩) ?_ ?_ B
  · intro _
    rw [List.append_nil, show A ++ 46 :: [] = A ++ [46] from rfl, rn_snoc, rn_digits A hA]
    show Sc.take _ 46 = _
    unfold Sc.take
    simp
  · intro l c ih h
    obtain ⟨h1, h2⟩ := allD_snoc h
    rw [show A ++ 46 :: (l ++ [c]) = (A ++ 46 :: l) ++ [c] by simp, rn_snoc, ih h1, take_digit _ c h2, ← List.append_assoc, val_snoc, nz_snoc, ← cap_step]
    simp [Sc.digit]
theorem take_wrong (S : Sc) (c : Nat) (h : S.wrong = true) : (S.take c).wrong = true := by
  unfold Sc.take
  split
  · unfold Sc.digit; split <;> exact h
  · split
    · unfold Sc.digit; split <;> exact h
    · split
      · exact h
      · rfl
/-- what is not refused for a sign that does not belong there -/
theorem rn_shape (l : List UInt8) : (rn l).wrong = false → allD l ∨ ∃ A B, l = A ++ 46 :: B ∧ allD A ∧ allD B := by
  refine snoc_ind (P := fun l => (rn l).wrong = false → allD l ∨ ∃ A B, l = A ++ 46 :: B ∧ allD A ∧ allD B) ?_ ?_ l
  · intro _; exact .inl (by simp [allD])
  · intro l c ih h
    rw [rn_snoc] at h
    have hw : (rn l).wrong = false := by
      rcases hx : (rn l).wrong
      · rfl
      · have := take_wrong _ c.toNat hx; rw [this] at h; cases h
    have hc : isD c ∨ (c = 46 ∧ (rn l).point = false) := by
      rcases Nat.lt_or_ge c.toNat 48 with h1 | h1
      · by_cases h2 : c.toNat = 46 ∧ (rn l).point = false
        · exact .inr ⟨UInt8.toNat_inj.1 (by simpa using h2.1), h2.2⟩
        · unfold Sc.take at h
          rw [if_neg (by omega), if_neg (by omega), if_neg h2] at h
          cases h
      · rcases Nat.lt_or_ge 57 c.toNat with h2 | h2
        · unfold Sc.take at h
          rw [if_neg (by omega), if_neg (by omega), if_neg (by omega)] at h
          cases h
        · exact .inl ⟨h1, h2⟩
    rcases ih hw with hd | ⟨A, B, rfl, hA, hB⟩
    · rcases hc with hc | ⟨rfl, _⟩
      · exact .inl (fun x hx => by
          rcases List.mem_append.1 hx with h' | h'
          · exact hd x h'
          · simp at h'; subst h'; exact hc)
      · exact .inr ⟨l, [], rfl, hd, by simp [allD]⟩
    · rcases hc with hc | ⟨_, hp⟩
      · refine .inr ⟨A, B ++ [c], by simp, hA, fun x hx => ?_⟩
        rcases List.mem_append.1 hx with h' | h'
        · exact hB x h'
        · simp at h'; subst h'; exact hc
      · rw [rn_point A hA B hB] at hp; cases hp
/-- the digits of a number -/
theorem dec_small {u : Nat} (h : u < 10) : decDigits u = [UInt8.ofNat (48 + u)] := by rw [decDigits, dif_pos h]
theorem dec_big {u : Nat} (h : ¬ u < 10) : decDigits u = decDigits (u / 10) ++ [UInt8.ofNat (48 + u % 10)] := by rw [decDigits, dif_neg h]
theorem dec_facts (u : Nat) : allD (decDigits u) ∧ val (decDigits u) = u ∧ nz (decDigits u) = decide (1 ≤ u) ∧ (1 ≤ u → ∀ c, (decDigits u).head? = some c → c ≠ 48) := by
  induction u using Nat.strongRecOn with
  | _ u ih =>
    by_cases h : u < 10
    · rw [dec_small h]
      have e := u8_of h
      refine ⟨?_, ?_, ?_, ?_⟩
      · intro c hc; rw [List.mem_singleton.1 hc]; unfold isD; omega
      · simp only [val, List.foldl_cons, List.foldl_nil]; omega
      · simp only [nz, List.any_cons, List.any_nil, Bool.or_false]
        rcases Nat.eq_zero_or_pos u with h0 | h0
        · subst h0; rfl
        · rw [decide_eq_true (by omega : 1 ≤ u), bne_iff_ne]
          intro e2; rw [e2] at e; have : (48 : UInt8).toNat = 48 := rfl; omega
      · intro h1 c hc e2
        injection hc with hc
        rw [hc, e2] at e
        have : (48 : UInt8).toNat = 48 := rfl
        omega
    · rw [dec_big h]
      obtain ⟨a, b, c, d⟩ := ih (u / 10) (by omega)
      have e := u8_of (show u % 10 < 10 by omega)
      refine ⟨?_, ?_, ?_, ?_⟩
      · intro x hx
        rcases List.mem_append.1 hx with h' | h'
        · exact a x h'
        · rw [List.mem_singleton.1 h']; unfold isD; omega
      · rw [val_snoc, b, e]; omega
      · rw [nz_snoc, c, decide_eq_true (by omega : 1 ≤ u / 10), decide_eq_true (by omega : 1 ≤ u)]; rfl
      · intro h1 x hx
        refine d (by omega) x ?_
        have hl : 0 < (decDigits (u / 10)).length := by rw [decDigits_length]; exact nDigits_pos _
        rcases hd : decDigits (u / 10) with _ | ⟨y, t⟩
        · rw [hd] at hl; simp at hl
        · rw [hd] at hx; simpa using hx
/-- a list of digits is the digits of its number behind zeros -/
theorem digits_form (D : List UInt8) : allD D → D ≠ [] → D = List.replicate (D.length - nDigits (val D)) 48 ++ decDigits (val D) ∧ nDigits (val D) ≤ D.length := by
  refine snoc_ind (P := fun D => allD D → D ≠ [] → D = List.replicate (D.length - nDigits (val D)) 48 ++ decDigits (val D) ∧ nDigits (val D) ≤ D.length) ?_ ?_ D
  · intro _ h; exact absurd rfl h
  · intro l c ih h _
    obtain ⟨h1, h2⟩ := allD_snoc h
    have hcb : c.toNat - 48 < 10 := by unfold isD at h2; omega
    have hc : UInt8.ofNat (48 + (c.toNat - 48)) = c := by
      apply UInt8.toNat_inj.1
      rw [u8_of hcb]; unfold isD at h2; omega
    rw [val_snoc, List.length_append]
    by_cases hl : l = []
    · subst hl
      have e0 : val [] = 0 := rfl
      rw [e0, Nat.mul_zero, Nat.zero_add, nDigits_small hcb, dec_small hcb, hc]
      exact ⟨rfl, by simp⟩
    · obtain ⟨e, hle⟩ := ih h1 hl
      have hlen : 0 < l.length := List.length_pos_iff.2 hl
      rcases Nat.eq_zero_or_pos (val l) with h0 | h0
      · rw [h0] at e ⊢
        have e1 : decDigits 0 = [48] := by rw [dec_small (by omega)]; rfl
        rw [e1, nDigits_small (by omega)] at e
        rw [Nat.mul_zero, Nat.zero_add, nDigits_small hcb, dec_small hcb, hc]
        refine ⟨?_, by simp⟩
        have : l = List.replicate l.length 48 := by
          conv => lhs; rw [e]
          have : l.length = (l.length - 1) + 1 := by omega
          conv => rhs; rw [this, List.replicate_succ']
        conv => lhs; rw [this]
        simp
      · have hb : ¬ 10 * val l + (c.toNat - 48) < 10 := by omega
        rw [nDigits_big hb, dec_big hb, show (10 * val l + (c.toNat - 48)) / 10 = val l by omega, show (10 * val l + (c.toNat - 48)) % 10 = c.toNat - 48 by omega, hc]
        refine ⟨?_, by simp; omega⟩
        rw [show l.length + [c].length - (nDigits (val l) + 1) = l.length - nDigits (val l) by simp, ← List.append_assoc, ← e]
end Go.Proofs.YtpbnabibnkohdaaGreatDoor.Un
namespace Go.Proofs.YtpbnabibnkohdaaGreatDoor.Un
open Go.Lib
set_option linter.unusedVariables false
/-- the digits, with zeros ahead of them so that one stands ahead of the places -/
def pad (n p : Nat) : List UInt8 := List.replicate (p + 1 - nDigits n) 48 ++ decDigits n
def fb (n p : Nat) : List UInt8 := if p = 0 then pad n p else (pad n p).take ((pad n p).length - p) ++ 46 :: (pad n p).drop ((pad n p).length - p)
def fm (x : Int) (p : Nat) : List UInt8 := if x < 0 then 45 :: fb x.natAbs p else fb x.natAbs p
theorem pad_len (n p : Nat) : (pad n p).length = max (p + 1) (nDigits n) := by
  have := nDigits_pos n
  simp only [pad, List.length_append, List.length_replicate, decDigits_length]; omega
theorem val_zeros (k : Nat) (l : List UInt8) : val (List.replicate k 48 ++ l) = val l := by
  have : ∀ k, (List.replicate k (48 : UInt8)).foldl (fun v c => 10 * v + (c.toNat - 48)) 0 = 0 := by
    intro k
    induction k with
    | zero => rfl
    | succ k ih => rw [List.replicate_succ', List.foldl_append, ih]; rfl
  unfold val
  rw [List.foldl_append, this]
theorem nz_zeros (k : Nat) (l : List UInt8) : nz (List.replicate k 48 ++ l) = nz l := by
  unfold nz
  rw [List.any_append]
  have : (List.replicate k (48 : UInt8)).any (fun c => c != 48) = false := by
    induction k with
    | zero => rfl
    | succ k ih => rw [List.replicate_succ, List.any_cons, ih]; rfl
  rw [this, Bool.false_or]
theorem pad_facts (n p : Nat) : allD (pad n p) ∧ val (pad n p) = n ∧ nz (pad n p) = decide (1 ≤ n) ∧ (p + 2 ≤ (pad n p).length → (pad n p).head? ≠ some 48) := by
  obtain ⟨a, b, c, d⟩ := dec_facts n
  refine ⟨?_, ?_, ?_, ?_⟩
  · intro x hx
    rcases List.mem_append.1 hx with h | h
    · rw [(List.mem_replicate.1 h).2]; exact ⟨by decide, by decide⟩
    · exact a x h
  · unfold pad; rw [val_zeros, b]
  · unfold pad; rw [nz_zeros, c]
  · intro h
    rw [pad_len] at h
    have h2 : p + 1 - nDigits n = 0 := by omega
    have h3 : 1 ≤ n := by
      rcases Nat.eq_zero_or_pos n with h0 | h0
      · subst h0; rw [nDigits_small (by omega)] at h; omega
      · exact h0
    unfold pad
    rw [h2]
    intro e
    exact d h3 48 e rfl
theorem allD_take {l : List UInt8} (h : allD l) (k : Nat) : allD (l.take k) := fun x hx => h x (List.mem_of_mem_take hx)
theorem allD_drop {l : List UInt8} (h : allD l) (k : Nat) : allD (l.drop k) := fun x hx => h x (List.mem_of_mem_drop hx)
theorem allD_head {l : List UInt8} (h : allD l) {c : UInt8} (hc : l.head? = some c) : c ≠ 45 := by
  rintro rfl
  have := h 45 (List.mem_of_mem_head? hc)
  unfold isD at this
  have e : (45 : UInt8).toNat = 45 := rfl
  omega
theorem head_app {l r : List UInt8} (h : l ≠ []) : (l ++ r).head? = l.head? := by
  rcases l with _ | ⟨c, t⟩
  · exact absurd rfl h
  · rfl
theorem fb_head (n p : Nat) {c : UInt8} (hc : (fb n p).head? = some c) : c ≠ 45 := by
  unfold fb at hc
  split at hc
  · exact allD_head (pad_facts n p).1 hc
  · have hl := pad_len n p
    have hne : (pad n p).take ((pad n p).length - p) ≠ [] := by
      intro e
      have := congrArg List.length e
      simp at this
      omega
    rw [head_app hne] at hc
    exact allD_head (allD_take (pad_facts n p).1 _) hc
theorem capN_le {n : Nat} (h : n ≤ 1000000000) : capN n = n := by unfold capN cap; rw [if_pos (by omega)]
/-- the text of a decimal is read as this decimal -/
theorem fm_back (x : Int) (p : Nat) (h0 : -1000000000 ≤ x) (h1 : x ≤ 1000000000) (hp : p ≤ 6) :
    prs (rn (fb x.natAbs p)) (decide (x < 0)) = .tuple #[.agg #[.int .i64 x, .int .i64 (p : Int)], .int .i64 0] := by
  obtain ⟨a, b, c, d⟩ := pad_facts x.natAbs p
  have hl := pad_len x.natAbs p
  have hn : x.natAbs ≤ 1000000000 := by omega
  have fin : ∀ (wh : Int) (pt : Bool), 1 ≤ wh → (pt = true → 1 ≤ p) → (pt = false → p = 0) →
      prs ⟨capN x.natAbs, wh, (p : Int), pt, false, decide (1 ≤ x.natAbs), false⟩ (decide (x < 0)) = .tuple #[.agg #[.int .i64 x, .int .i64 (p : Int)], .int .i64 0] := by
    intro wh pt g1 g2 g3
    unfold prs
    rw [if_neg, capN_le hn, if_neg (by simp only []; omega)]
    · have hval : (if decide (x < 0) = true then -((x.natAbs : Nat) : Int) else ((x.natAbs : Nat) : Int)) = x := by
        rcases Int.lt_or_le x 0 with hx | hx
        · rw [if_pos (decide_eq_true hx)]; omega
        · rw [if_neg (by rw [decide_eq_false (by omega)]; decide)]; omega
      simp only [hval]
    · simp only [rej, Bool.false_or, Bool.or_eq_true, Bool.and_eq_true, beq_iff_eq, decide_eq_true_eq, Bool.not_eq_true', decide_eq_false_iff_not]
      rintro (h | ⟨h, h'⟩ | h | ⟨h, h'⟩)
      · omega
      · have := g2 h; omega
      · omega
      · omega
  unfold fb
  split
  · rename_i e
    subst e
    rw [rn_digits _ a, b, c]
    have hld : ld (pad x.natAbs 0) = false := by
      unfold ld
      rcases Nat.lt_or_ge (pad x.natAbs 0).length 2 with h | h
      · rw [decide_eq_false (by omega)]; rfl
      · rw [Bool.and_eq_false_iff]; right
        exact beq_eq_false_iff_ne.2 (d h)
    rw [hld]
    exact fin _ false (by omega) (by simp) (fun _ => rfl)
  · rename_i e
    have hA := allD_take a ((pad x.natAbs p).length - p)
    have hB := allD_drop a ((pad x.natAbs p).length - p)
    rw [rn_point _ hA _ hB, List.take_append_drop, b, c]
    have hld : ld ((pad x.natAbs p).take ((pad x.natAbs p).length - p)) = false := by
      unfold ld
      rcases Nat.lt_or_ge (pad x.natAbs p).length (p + 2) with h | h
      · rw [decide_eq_false (by simp; omega)]; rfl
      · rw [Bool.and_eq_false_iff]; right
        refine beq_eq_false_iff_ne.2 ?_
        rw [List.head?_take, if_neg (by omega)]
        exact d h
    rw [hld, show (((pad x.natAbs p).drop ((pad x.natAbs p).length - p)).length : Int) = (p : Int) by simp; omega]
    exact fin _ true (by simp; omega) (fun _ => by omega) (by simp)
/-- what is read has the text that it was read from -/
theorem fm_again (l : List UInt8) (m : Bool) (X P : Int) (h : prs (rn l) m = .tuple #[.agg #[.int .i64 X, .int .i64 P], .int .i64 0]) :
    ∃ p : Nat, P = (p : Int) ∧ p ≤ 6 ∧ -1000000000 ≤ X ∧ X ≤ 1000000000 ∧ fb X.natAbs p = l ∧ decide (X < 0) = m := by
  unfold prs at h
  split at h
  · simp at h
  · rename_i hr
    split at h
    · simp at h
    · rename_i hd
      have hr' : rej (rn l) m = false := by simpa using hr
      simp only [rej, Bool.or_eq_false_iff] at hr'
      obtain ⟨r1, r2, r3, r4, r5, r6⟩ := hr'
      simp only [Value.tuple.injEq, Array.mk.injEq, List.cons.injEq, Value.agg.injEq, Value.int.injEq, true_and, and_true] at h
      obtain ⟨hX, hP⟩ := h
      have key : ∀ (n : Nat), (rn l).digits = capN n → (rn l).some = decide (1 ≤ n) → -1000000000 ≤ X ∧ X ≤ 1000000000 ∧ X.natAbs = n ∧ decide (X < 0) = m := by
        intro n e1 e2
        have hle : n ≤ 1000000000 := by
          rw [e1] at hd
          unfold capN cap at hd
          split at hd <;> omega
        rw [e1, capN_le hle] at hX
        rcases m
        · simp only [Bool.false_eq_true, if_false] at hX
          exact ⟨by omega, by omega, by omega, decide_eq_false (by omega)⟩
        · simp only [if_true] at hX
          rw [e2] at r6
          have h1 : 1 ≤ n := by simpa using r6
          exact ⟨by omega, by omega, by omega, decide_eq_true (by omega)⟩
      rcases rn_shape l r1 with hD | ⟨A, B, rfl, hA, hB⟩
      · have E := rn_digits l hD
        have e1 : (rn l).digits = capN (val l) := by rw [E]
        have e2 : (rn l).leading = ld l := by rw [E]
        have e3 : (rn l).whole = (l.length : Int) := by rw [E]
        have e4 : (rn l).places = 0 := by rw [E]
        have e5 : (rn l).some = nz l := by rw [E]
        rw [e2] at r2
        rw [e3] at r3
        rw [e4] at hP
        clear E
        have hne : l ≠ [] := by rintro rfl; simp at r3
        obtain ⟨hf, hle⟩ := digits_form l hD hne
        have hnz : nz l = decide (1 ≤ val l) := by
          conv => lhs; rw [hf]
          rw [nz_zeros, (dec_facts _).2.2.1]
        obtain ⟨k1, k2, k3, k4⟩ := key (val l) e1 (e5.trans hnz)
        refine ⟨0, hP.symm, by omega, k1, k2, ?_, k4⟩
        rw [k3]
        have hk : l.length - nDigits (val l) = 0 := by
          rcases Nat.eq_zero_or_pos (l.length - nDigits (val l)) with h0 | h0
          · exact h0
          · exfalso
            have hp := nDigits_pos (val l)
            simp only [ld] at r2
            rw [decide_eq_true (by omega : 2 ≤ l.length), Bool.true_and] at r2
            have : l.head? = some 48 := by
              rw [hf]
              obtain ⟨k, hk⟩ : ∃ k, l.length - nDigits (val l) = k + 1 := ⟨_, (Nat.sub_add_cancel h0).symm⟩
              rw [hk, List.replicate_succ]; rfl
            rw [this] at r2
            simp at r2
        rw [hk] at hf
        simp only [fb, if_true, pad]
        rw [show 0 + 1 - nDigits (val l) = 0 by have := nDigits_pos (val l); omega]
        exact hf.symm
      · have E := rn_point A hA B hB
        have e1 : (rn (A ++ 46 :: B)).digits = capN (val (A ++ B)) := by rw [E]
        have e2 : (rn (A ++ 46 :: B)).leading = ld A := by rw [E]
        have e3 : (rn (A ++ 46 :: B)).whole = (A.length : Int) := by rw [E]
        have e4 : (rn (A ++ 46 :: B)).places = (B.length : Int) := by rw [E]
        have e5 : (rn (A ++ 46 :: B)).some = nz (A ++ B) := by rw [E]
        have e6 : (rn (A ++ 46 :: B)).point = true := by rw [E]
        rw [e2] at r2
        rw [e3] at r3
        rw [e4, e6] at r4
        rw [e4] at r5 hP
        clear E
        have hAB : allD (A ++ B) := fun x hx => by
          rcases List.mem_append.1 hx with h' | h'
          · exact hA x h'
          · exact hB x h'
        have hA0 : 1 ≤ A.length := by
          rcases Nat.eq_zero_or_pos A.length with h0 | h0
          · simp [h0] at r3
          · exact h0
        have hB0 : 1 ≤ B.length := by
          rcases Nat.eq_zero_or_pos B.length with h0 | h0
          · simp [h0] at r4
          · exact h0
        have hB6 : B.length ≤ 6 := by have := of_decide_eq_false r5; omega
        have hne : A ++ B ≠ [] := by
          intro e; have := congrArg List.length e; rw [List.length_append, List.length_nil] at this; omega
        obtain ⟨hf, hle⟩ := digits_form (A ++ B) hAB hne
        have hnz : nz (A ++ B) = decide (1 ≤ val (A ++ B)) := by
          conv => lhs; rw [hf]
          rw [nz_zeros, (dec_facts _).2.2.1]
        obtain ⟨k1, k2, k3, k4⟩ := key (val (A ++ B)) e1 (e5.trans hnz)
        refine ⟨B.length, hP.symm, hB6, k1, k2, ?_, k4⟩
        rw [k3]
        have hlen : (A ++ B).length = A.length + B.length := List.length_append
        have hk : (A ++ B).length - nDigits (val (A ++ B)) = B.length + 1 - nDigits (val (A ++ B)) := by
          rcases Nat.lt_or_ge A.length 2 with h2 | h2
          · omega
          · rcases Nat.eq_zero_or_pos ((A ++ B).length - nDigits (val (A ++ B))) with h0 | h0
            · omega
            · exfalso
              simp only [ld] at r2
              rw [decide_eq_true h2, Bool.true_and] at r2
              have h48 : (A ++ B).head? = some 48 := by
                rw [hf]
                obtain ⟨k, hk⟩ : ∃ k, (A ++ B).length - nDigits (val (A ++ B)) = k + 1 := ⟨_, (Nat.sub_add_cancel h0).symm⟩
                rw [hk, List.replicate_succ]; rfl
              rw [head_app (by rintro rfl; simp at hA0)] at h48
              rw [h48] at r2
              simp at r2
        have hpad : pad (val (A ++ B)) B.length = A ++ B := by
          unfold pad
          rw [← hk]
          exact hf.symm
        simp only [fb, hpad]
        rw [if_neg (by omega), show (A ++ B).length - B.length = A.length by omega, List.take_left, List.drop_left]
theorem pre_of (l : List UInt8) (h : hasPrefix l [45] = true) : l = 45 :: trimPrefix l [45] := by
  unfold trimPrefix
  rw [if_pos h]
  unfold hasPrefix at h
  rcases l with _ | ⟨c, t⟩
  · simp at h
  · simp at h; rw [← h]; rfl
theorem pre_no (l : List UInt8) (h : hasPrefix l [45] = false) : trimPrefix l [45] = l := by
  unfold trimPrefix
  rw [if_neg (by rw [h]; decide)]
theorem fm_pre (x : Int) (p : Nat) : hasPrefix (fm x p) [45] = decide (x < 0) ∧ trimPrefix (fm x p) [45] = fb x.natAbs p := by
  unfold fm
  split
  · rename_i h
    have e : hasPrefix (45 :: fb x.natAbs p) [45] = true := by simp [hasPrefix]
    refine ⟨e.trans (decide_eq_true h).symm, ?_⟩
    have := pre_of _ e
    exact (List.cons.inj this).2.symm
  · rename_i h
    have e : hasPrefix (fb x.natAbs p) [45] = false := by
      unfold hasPrefix
      rcases hb : fb x.natAbs p with _ | ⟨c, t⟩
      · rfl
      · have := fb_head x.natAbs p (c := c) (by rw [hb]; rfl)
        simp [List.isPrefixOf]
        exact fun e => this e.symm
    exact ⟨by rw [e, decide_eq_false h], pre_no _ e⟩
end Go.Proofs.YtpbnabibnkohdaaGreatDoor.Un
