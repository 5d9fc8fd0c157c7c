/- channels.Together of bundles that fit. -/
import Derived.Test.YthmdponfigepjaaChT
import Derived.Laws.EntriesVeiled
namespace Go.Proofs.Ythmdponfigepjaa.Ch
open Go.ChangeShapes Go.WideShapes Go.RowKit Wo Sr Wi Nr
set_option linter.unusedVariables false
theorem fs_fb {Ls Ms : Nat → List Int} {q : Nat} (q4 : q ≤ 4) (h : ∀ c, c < q → Sam (Ls c) ∧ Sam (Ms c)) : Fb (fs Ls Ms q) := fun i j => by have := fs_in q h i j; omega
set_option maxHeartbeats 16000000 in
set_option maxRecDepth 100000 in
theorem together_ok (g1 g2 q n m c1 c2 : Nat) (As Bs : Nat → Option Addr) (cs ds : Nat → Nat) (Ls Ms : Nat → List Int) (b : Int) (q1 : 1 ≤ q) (q4 : q ≤ 4) (n2 : 2 ≤ n) (n32 : n ≤ 32) (m2 : 2 ≤ m) (m32 : m ≤ 32) (b0 : 0 ≤ b) (b32 : b ≤ 32)
    (hb1 : (n : Int) - (m : Int) ≤ b) (hb2 : (m : Int) - (n : Int) ≤ b) (w : World) (hX : Bun w g1 q n As cs Ls) (hY : Bun w g2 q m Bs ds Ms) :
    Calls Try.prog 20 #[.slice (some ⟨g1, 0, none⟩) q c1, .slice (some ⟨g2, 0, none⟩) q c2, .int .i64 b] w fun e w' => e = .returned (.tuple #[.int .i64 (wg (fs Ls Ms q) b n m), .int .i64 0]) ∧ Bel w w' := by
  have HX := Lib.hid hX
  have HY := Lib.hid hY
  have i2 : (q : Int) ≤ 4 := by omega
  have i3 : (0 : Int) < (q : Int) := by omega
  have i5 : 0 < q := q1
  have i6 : ((0 : Int) < (q : Int)) = True := eq_true i3
  have i7 : (0 < q) = True := eq_true i5
  have HQ := Lib.hid (And.intro q1 (And.intro q4 (And.intro n2 (And.intro n32 (And.intro m2 (And.intro m32 (And.intro b0 b32)))))))
  have CB : Hid (∀ W, Bel w W → Calls Try.prog 38 #[.slice (some ⟨g1, 0, none⟩) q c1, .slice (some ⟨g2, 0, none⟩) q c2, .int .i64 b] W fun e w' => e = .returned (.int .i64 0) ∧ Bel W w') := fun W h =>
    band_ok g1 g2 q n m c1 c2 As Bs cs ds Ls Ms b q1 q4 n2 n32 m2 m32 b0 b32 hb1 hb2 W (hX.bel h) (hY.bel h)
  have HBX : Hid (Bk ((w.alloc (.cells #[.slice (some ⟨g1, 0, none⟩) q c1] 39)).alloc (.cells #[.slice (some ⟨g2, 0, none⟩) q c2] 39)) w.heap.size 39 #[.slice (some ⟨g1, 0, none⟩) q c1]) := (Bk.nw _ _ _).al _
  have HBY : Hid (Bk ((w.alloc (.cells #[.slice (some ⟨g1, 0, none⟩) q c1] 39)).alloc (.cells #[.slice (some ⟨g2, 0, none⟩) q c2] 39)) (w.heap.size + 1) 39 #[.slice (some ⟨g2, 0, none⟩) q c2]) := Bk.nq _ _ _ (by simp)
  have HW0 : Hid (Bel w ((w.alloc (.cells #[.slice (some ⟨g1, 0, none⟩) q c1] 39)).alloc (.cells #[.slice (some ⟨g2, 0, none⟩) q c2] 39))) := (Bel.rf.al _).al _
  clear hX hY hb1 hb2 n2 n32 m2 m32 b0 b32
  go_enter Try.func20, Try.ntmps20
  go_wp2_with fail
  go_at_call 38
  refine (CB.out _ HW0.out).mono ?_
  rintro e w1 ⟨rfl, hb⟩
  have HB1 : Hid (Bel w w1) := HW0.out.tr hb
  have HX1 := Lib.hid (HBX.out.bel hb)
  have HY1 := Lib.hid (HBY.out.bel hb)
  have e1 : w1.cell? ⟨w.heap.size, 0, none⟩ = some (.slice (some ⟨g1, 0, none⟩) q c1) := HX1.out.cell 0
  have e2 : w1.cell? ⟨w.heap.size + 1, 0, none⟩ = some (.slice (some ⟨g2, 0, none⟩) q c2) := HY1.out.cell 0
  have e4 := ((HX.out.bel HB1.out).2 0 HQ.out.1).1
  have e5 := ((HY.out.bel HB1.out).2 0 HQ.out.1).1
  have KS : Hid (∀ W', Bel w1 W' → ((fun w' => w'.cell? ⟨w.heap.size, 0, none⟩ = some (.slice (some ⟨g1, 0, none⟩) q c1) ∧ w'.cell? ⟨w.heap.size + 1, 0, none⟩ = some (.slice (some ⟨g2, 0, none⟩) q c2) ∧ w'.cell? ⟨g1, 0, none⟩ = some (.slice (As 0) n (cs 0)) ∧ w'.cell? ⟨g2, 0, none⟩ = some (.slice (Bs 0) m (ds 0))) W')) := fun W' h => ⟨h.kp e1, h.kp e2, h.kp e4, h.kp e5⟩
  have hqq := HQ.out
  have LE : Hid (∀ W, Bel w1 W → Calls Try.prog 41 #[.agg #[.int .i64 (n : Int), .int .i64 (m : Int), .int .i64 b, .func (.func 42) #[] #[.pointer (some ⟨w.heap.size, 0, none⟩), .pointer (some ⟨w.heap.size + 1, 0, none⟩)]]] W fun e w' => e = .returned (.int .i64 (wg (fs Ls Ms q) b n m)) ∧ Bel W w') := fun W h =>
    least_together n m b (fs Ls Ms q) (by omega) (by omega) (by omega) (by omega) hqq.2.2.2.2.2.2.1 hqq.2.2.2.2.2.2.2 (fs_fb hqq.2.1 (fun c hc => ⟨(HX.out.2 c hc).2.2, (HY.out.2 c hc).2.2⟩)) _ _ W
      (fun W' h' i j hi hj => together1_ok w.heap.size (w.heap.size + 1) g1 g2 q n m c1 c2 As Bs cs ds Ls Ms (by omega) i j hi hj (by omega) (by omega) W' (KS.out W' (h.tr h')).1 (KS.out W' (h.tr h')).2.1 (HX.out.bel (HB1.out.tr (h.tr h'))) (HY.out.bel (HB1.out.tr (h.tr h'))))
  clear hb HBX HBY HW0 CB e1 e2 e4 e5 hqq
  go_wp2_with fail
  go_region_held3 (fun w' => w'.cell? ⟨w.heap.size, 0, none⟩ = some (.slice (some ⟨g1, 0, none⟩) q c1) ∧ w'.cell? ⟨w.heap.size + 1, 0, none⟩ = some (.slice (some ⟨g2, 0, none⟩) q c2) ∧ w'.cell? ⟨g1, 0, none⟩ = some (.slice (As 0) n (cs 0)) ∧ w'.cell? ⟨g2, 0, none⟩ = some (.slice (Bs 0) m (ds 0)))
    (first
      | (refine KS.out _ ?_; (repeat (first | exact Bel.rf | (with_reducible refine Bel.drwN ?_ _) | (with_reducible refine Bel.drw ?_) | (with_reducible refine Bel.al ?_ _) | ((with_reducible refine Bel.st2 ?_ ?_ _); (show _ ≤ _); (simp only [World.size_alloc, World.heap_drew]; omega)))); done))
    (fail)
  all_goals
    go_wp2_with fail
    go_at_call 41
    refine (LE.out _ (by repeat (first | exact Bel.rf | (with_reducible refine Bel.drwN ?_ _) | (with_reducible refine Bel.drw ?_) | (with_reducible refine Bel.al ?_ _)))).mono ?_
    rintro e w9 ⟨rfl, h9⟩
    have HB9 : Hid (Bel w w9) := HB1.out.tr (((Bel.rf.al _).drw).tr h9)
    clear h9
    go_wp2
    exact bodyPost_ret (v := .tuple #[.int .i64 (wg (fs Ls Ms q) b n m), .int .i64 0]) (by simp [results, Try.results20, go_sem]) rfl ⟨rfl, HB9.out⟩
end Go.Proofs.Ythmdponfigepjaa.Ch
