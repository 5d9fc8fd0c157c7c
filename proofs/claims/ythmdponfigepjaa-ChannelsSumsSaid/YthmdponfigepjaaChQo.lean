/- channels.Apart, from an offset on. -/
import Derived.Test.YthmdponfigepjaaChPo
namespace Go.Proofs.Ythmdponfigepjaa.Co
open Go.ChangeShapes Go.WideShapes Go.RowKit Wo Sr Wi Ch Nr
set_option linter.unusedVariables false
set_option maxHeartbeats 16000000 in
set_option maxRecDepth 100000 in
theorem apart_ok (o g1 g2 q n m c1 c2 : Nat) (As Bs : Nat → Option Addr) (cs ds : Nat → Nat) (Ls Ms : Nat → List Int) (b : Int) (q1 : 1 ≤ q) (q4 : q ≤ 4) (n2 : 2 ≤ n) (n32 : n ≤ 32) (m2 : 2 ≤ m) (m32 : m ≤ 32) (b0 : 0 ≤ b) (b32 : b ≤ 32)
    (hb1 : (n : Int) - (m : Int) ≤ b) (hb2 : (m : Int) - (n : Int) ≤ b) (w : World) (hX : Bun w g1 o q n As cs Ls) (hY : Bun w g2 o q m Bs ds Ms) :
    Calls Try.prog 19 #[.slice (some ⟨g1, o, none⟩) q c1, .slice (some ⟨g2, o, none⟩) q c2, .int .i64 b] w fun e w' => e = .returned (.tuple #[.int .i64 (aps b n m Ls Ms q), .int .i64 0]) ∧ Bel w w' := by
  have HX := Lib.hid hX
  have HY := Lib.hid hY
  have i2 : (q : Int) ≤ 4 := by omega
  have HQ := Lib.hid (And.intro q1 (And.intro q4 (And.intro n2 (And.intro n32 (And.intro m2 (And.intro m32 (And.intro hb1 hb2)))))))
  have CB : Hid (∀ W, Bel w W → Calls Try.prog 38 #[.slice (some ⟨g1, o, none⟩) q c1, .slice (some ⟨g2, o, none⟩) q c2, .int .i64 b] W fun e w' => e = .returned (.int .i64 0) ∧ Bel W w') := fun W h =>
    band_ok o g1 g2 q n m c1 c2 As Bs cs ds Ls Ms b q1 q4 n2 n32 m2 m32 b0 b32 hb1 hb2 W (hX.bel h) (hY.bel h)
  have WB : Hid (∀ c, c < q → 0 ≤ wg (cst (Ls c) (Ms c)) b n m ∧ wg (cst (Ls c) (Ms c)) b n m ≤ 2000000000) := fun c hc => wg_bd (hX.2 c hc).2.2 (hY.2 c hc).2.2 b0 (by omega) (by omega) n32 m32 hb1 hb2
  have HBX : Hid (Bk ((w.alloc (.cells #[.slice (some ⟨g1, o, none⟩) q c1] 39)).alloc (.cells #[.slice (some ⟨g2, o, none⟩) q c2] 39)) w.heap.size 39 #[.slice (some ⟨g1, o, none⟩) q c1]) := (Bk.nw _ _ _).al _
  have HBY : Hid (Bk ((w.alloc (.cells #[.slice (some ⟨g1, o, none⟩) q c1] 39)).alloc (.cells #[.slice (some ⟨g2, o, none⟩) q c2] 39)) (w.heap.size + 1) 39 #[.slice (some ⟨g2, o, none⟩) q c2]) := Bk.nq _ _ _ (by simp)
  have HW0 : Hid (Bel w ((w.alloc (.cells #[.slice (some ⟨g1, o, none⟩) q c1] 39)).alloc (.cells #[.slice (some ⟨g2, o, none⟩) q c2] 39))) := (Bel.rf.al _).al _
  have hb0 : Hid (0 ≤ b) := b0
  have hb32 : Hid (b ≤ 32) := b32
  clear hX hY hb1 hb2 n2 n32 m2 m32 b0 b32
  go_enter Try.func19, Try.ntmps19
  go_wp2_with fail
  go_at_call 38
  refine (CB.out _ HW0.out).mono ?_
  rintro e w1 ⟨rfl, hb⟩
  have HB1 : Hid (Bel w w1) := HW0.out.tr hb
  have HX1 := Lib.hid (HBX.out.bel hb)
  have HY1 := Lib.hid (HBY.out.bel hb)
  have k1 : w1.cell? ⟨w.heap.size, 0, none⟩ = some (.slice (some ⟨g1, o, none⟩) q c1) := HX1.out.cell 0
  clear hb HBX HBY HW0 CB
  go_wp2
  go_loopw [9, 21] (fun s9 s21 wr => ∃ (t : Nat) (V : World), V = wr ∧ t ≤ q ∧ s9 = .int .i64 (aps b n m Ls Ms t) ∧ s21 = .int .i64 (t : Int) ∧ Bel w1 wr) (fun _ s21 _ => q - (intOf s21).toNat)
  case atStart => exact ⟨0, _, rfl, by omega, rfl, rfl, Bel.rf⟩
  case round =>
    obtain ⟨t, wr, hwr, ht, rfl, rfl, hb⟩ := hrel
    subst hwr
    have HB := Lib.hid hb
    clear hb k1
    rcases Nat.lt_or_ge t q with hlt | hge
    · have ti : (t : Int) < (q : Int) := by omega
      have HN0 : Hid (Bk (wr.alloc (.cells #[.int .i64 (t : Int)] 3)) wr.heap.size 3 #[.int .i64 (t : Int)]) := Bk.nw _ _ _
      have HV0 : Hid (Bel w1 (wr.alloc (.cells #[.int .i64 (t : Int)] 3))) := HB.out.al _
      have e1 := (HX1.out.bel HV0.out).cell 0
      have e2 := (HY1.out.bel HV0.out).cell 0
      have e3 := HN0.out.cell 0
      have e4 := ((HX.out.bel (HB1.out.tr HV0.out)).2 t hlt).1
      have e5 := ((HY.out.bel (HB1.out.tr HV0.out)).2 t hlt).1
      have KS : Hid (∀ W', Bel (wr.alloc (.cells #[.int .i64 (t : Int)] 3)) W' → ((fun w' => w'.cell? ⟨w.heap.size, 0, none⟩ = some (.slice (some ⟨g1, o, none⟩) q c1) ∧ w'.cell? ⟨w.heap.size + 1, 0, none⟩ = some (.slice (some ⟨g2, o, none⟩) q c2) ∧ w'.cell? ⟨wr.heap.size, 0, none⟩ = some (.int .i64 (t : Int)) ∧ w'.cell? ⟨g1, o + t, none⟩ = some (.slice (As t) n (cs t)) ∧ w'.cell? ⟨g2, o + t, none⟩ = some (.slice (Bs t) m (ds t))) W')) := fun W' h => ⟨h.kp e1, h.kp e2, h.kp e3, h.kp e4, h.kp e5⟩
      have hqq := HQ.out
      have LE : Hid (∀ W, Bel (wr.alloc (.cells #[.int .i64 (t : Int)] 3)) W → Calls Try.prog 41 #[.agg #[.int .i64 (n : Int), .int .i64 (m : Int), .int .i64 b, .func (.func 39) #[] #[.pointer (some ⟨w.heap.size, 0, none⟩), .pointer (some ⟨wr.heap.size, 0, none⟩), .pointer (some ⟨w.heap.size + 1, 0, none⟩)]]] W fun e w' => e = .returned (.int .i64 (wg (cst (Ls t) (Ms t)) b n m)) ∧ Bel W w') := fun W h =>
        least_apart n m b (cst (Ls t) (Ms t)) (by omega) (by omega) (by omega) (by omega) hb0.out hb32.out (cst_fb (HX.out.2 t hlt).2.2 (HY.out.2 t hlt).2.2) _ _ _ W
          (fun W' h' i j hi hj => apart1_ok o w.heap.size wr.heap.size (w.heap.size + 1) g1 g2 q n m c1 c2 t As Bs cs ds Ls Ms hlt (by omega) i j hi hj (by omega) (by omega) W' (KS.out W' (h.tr h')).1 (KS.out W' (h.tr h')).2.2.1 (KS.out W' (h.tr h')).2.1 (HX.out.bel (HB1.out.tr (HV0.out.tr (h.tr h')))) (HY.out.bel (HB1.out.tr (HV0.out.tr (h.tr h')))))
      have HA : Hid (aps b n m Ls Ms (t + 1) = aps b n m Ls Ms t + wg (cst (Ls t) (Ms t)) b n m) := rfl
      have bd := aps_bd (t + 1) (fun c hc => WB.out c (by omega)) (b := b) (n := n) (m := m) (Ls := Ls) (Ms := Ms)
      have bd0 := aps_bd t (fun c hc => WB.out c (by omega)) (b := b) (n := n) (m := m) (Ls := Ls) (Ms := Ms)
      have wa : IntKind.i64.wrap (aps b n m Ls Ms t + wg (cst (Ls t) (Ms t)) b n m) = aps b n m Ls Ms t + wg (cst (Ls t) (Ms t)) b n m := by
        rw [← HA.out]; exact IntWalk.i64_in _ ⟨by omega, by omega⟩
      obtain ⟨u, hu⟩ : ∃ u, wg (cst (Ls t) (Ms t)) b n m = u := ⟨_, rfl⟩
      rw [hu] at wa LE HA
      obtain ⟨v, hv⟩ : ∃ v, aps b n m Ls Ms t = v := ⟨_, rfl⟩
      rw [hv] at wa HA ⊢
      clear e1 e2 e3 e4 e5 hqq bd bd0 hu hv
      go_wp2_with fail
      go_region_held3 (fun w' => w'.cell? ⟨w.heap.size, 0, none⟩ = some (.slice (some ⟨g1, o, none⟩) q c1) ∧ w'.cell? ⟨w.heap.size + 1, 0, none⟩ = some (.slice (some ⟨g2, o, none⟩) q c2) ∧ w'.cell? ⟨wr.heap.size, 0, none⟩ = some (.int .i64 (t : Int)) ∧ w'.cell? ⟨g1, o + t, none⟩ = some (.slice (As t) n (cs t)) ∧ w'.cell? ⟨g2, o + t, none⟩ = some (.slice (Bs t) m (ds t)))
        (first
          | (refine KS.out _ ?_; (repeat (first | exact Bel.rf | (with_reducible refine Bel.drwN ?_ _) | (with_reducible refine Bel.drw ?_) | (with_reducible refine Bel.al ?_ _) | ((with_reducible refine Bel.st2 ?_ ?_ _); (show _ ≤ _); (simp only [World.size_alloc, World.heap_drew]; omega)) | (refine Bel.tr ?_ (by assumption)))); done))
        (fail)
      all_goals
        go_wp2_with fail
        go_at_call 41
        refine (LE.out _ (by repeat (first | exact Bel.rf | (with_reducible refine Bel.drwN ?_ _) | (with_reducible refine Bel.drw ?_) | (with_reducible refine Bel.al ?_ _)))).mono ?_
        rintro e w9 ⟨rfl, h9⟩
        have HB9 : Hid (Bel w1 w9) := HV0.out.tr (((Bel.rf.al _).drw).tr h9)
        clear h9
        go_wp2
        go_roundw
        case rel => exact ⟨t + 1, _, rfl, by omega, by rw [HA.out], by go_num, by first | exact HB9.out | exact HB9.out.drw | exact HB9.out.drwN _⟩
        case measure => simp [intOf]; omega
    · obtain rfl : t = q := by omega
      go_wp2
      exact bodyPost_ret (v := .tuple #[.int .i64 (aps b n m Ls Ms t), .int .i64 0]) (by simp [results, Try.results19, go_sem]) rfl ⟨rfl, HB1.out.tr HB.out⟩
end Go.Proofs.Ythmdponfigepjaa.Co
