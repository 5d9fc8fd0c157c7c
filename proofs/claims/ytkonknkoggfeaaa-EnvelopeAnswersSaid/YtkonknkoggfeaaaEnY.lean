/- envelope and the reference of layer 20, where they refuse and where they do not. (mkem.py) -/
import Derived.Test.YtkonknkoggfeaaaEnv3
import Derived.Test.YtkonknkoggfeaaaEuM
import Derived.Test.YtkonknkoggfeaaaEnX
import Derived.Test.YtkonknkoggfeaaaAppW
namespace Go.Proofs.Ytkonknkoggfeaaa.Say
open Go.ChangeShapes Go.WideShapes Go.RowKit Wo Sr Wi Ra Eu Pc
set_option linter.unusedVariables false
/-- a list and an error -/
def SomeZ (E : Int) (N : Nat) (L : List Int) (w : World) (e : Ending) (w' : World) : Prop := ∃ A c, e = .returned (.tuple #[.slice A N c, .int .i64 E]) ∧ Zi w' A N L ∧ Bel w w'
theorem zi_nil {W : World} {A : Option Addr} : Zi W A 0 [] := ⟨rfl, fun h => by omega⟩
theorem some_nil {E : Int} {w w' : World} (h : Bel w w') : SomeZ E 0 [] w (.returned (.tuple #[.slice none 0 0, .int .i64 E])) w' := ⟨none, 0, rfl, zi_nil, h⟩
def kOk (m k : Int) : Prop := 1 ≤ k ∧ k ≤ 8 ∧ k ≤ m
theorem pieces_no (m k : Int) (h : ¬ kOk m k) (w : World) :
    Calls Try.prog 50 #[.int .i64 m, .int .i64 k] w fun e w' => e = .returned (.int .i64 1) ∧ Bel w w' := by
  rcases (by unfold kOk at h; omega : k < 1 ∨ (1 ≤ k ∧ 8 < k) ∨ (1 ≤ k ∧ k ≤ 8 ∧ m < k)) with h1 | ⟨h1, h2⟩ | ⟨h1, h2, h3⟩
  · have d1 : decide (k < 1) = true := decide_eq_true h1
    go_enter Try.func50, Try.ntmps50
    go_wp2
    go_ret
    exact ⟨rfl, by first | exact Bel.rf | exact Bel.rf.drw⟩
  · have g1 : ¬ k < 1 := by omega
    have d1 : decide (k < 1) = false := decide_eq_false g1
    have d2 : decide (8 < k) = true := decide_eq_true h2
    go_enter Try.func50, Try.ntmps50
    go_wp2
    go_ret
    exact ⟨rfl, by first | exact Bel.rf | exact Bel.rf.drw⟩
  · have g1 : ¬ k < 1 := by omega
    have g2 : ¬ 8 < k := by omega
    have d1 : decide (k < 1) = false := decide_eq_false g1
    have d2 : decide (8 < k) = false := decide_eq_false g2
    have d3 : decide (m < k) = true := decide_eq_true h3
    go_enter Try.func50, Try.ntmps50
    go_wp2
    go_ret
    exact ⟨rfl, by first | exact Bel.rf | exact Bel.rf.drw⟩
theorem length_no (m : Int) (h : ¬ (2 ≤ m ∧ m ≤ 32)) (w : World) :
    Calls Try.prog 23 #[.int .i64 m] w fun e w' => e = .returned (.bool false) ∧ Bel w w' := by
  rcases (by omega : m < 2 ∨ (2 ≤ m ∧ 32 < m)) with h1 | ⟨h1, h2⟩
  · have g1 : ¬ 2 ≤ m := by omega
    have d1 : decide (2 ≤ m) = false := decide_eq_false g1
    have d4 : decide (m < 2) = true := decide_eq_true h1
    go_enter Try.func23, Try.ntmps23
    go_wp2
    go_ret
    first | exact ⟨rfl, Bel.rf⟩ | exact ⟨rfl, Bel.rf.drw⟩
  · have g1 : ¬ m ≤ 32 := by omega
    have g2 : ¬ m < 2 := by omega
    have d1 : decide (2 ≤ m) = true := decide_eq_true h1
    have d2 : decide (m ≤ 32) = false := decide_eq_false g1
    have d3 : decide (m < 2) = false := decide_eq_false g2
    have d4 : decide (32 < m) = true := decide_eq_true h2
    go_enter Try.func23, Try.ntmps23
    go_wp2
    go_ret
    first | exact ⟨rfl, Bel.rf⟩ | exact ⟨rfl, Bel.rf.drw⟩
theorem starts_len (m k : Int) (h : ¬ (2 ≤ m ∧ m ≤ 32)) (w : World) : Calls Try.prog 32 #[.int .i64 m, .int .i64 k] w (SomeZ 8 0 [] w) := by
  have HL : Hid (∀ W, _) := fun W => length_no m h W
  clear h
  go_enter Try.func32, Try.ntmps32
  go_wp2_with fail
  go_at_call 23
  refine (HL.out _).mono ?_
  rintro e w1 ⟨rfl, hb⟩
  go_wp2
  go_ret2
  exact some_nil hb
theorem starts_no (m k : Int) (hm : 2 ≤ m ∧ m ≤ 32) (h : ¬ kOk m k) (w : World) : Calls Try.prog 32 #[.int .i64 m, .int .i64 k] w (SomeZ 1 0 [] w) := by
  have HL : Hid (∀ W, _) := fun W => length_ok m hm.1 hm.2 W
  have HP : Hid (∀ W, _) := fun W => pieces_no m k h W
  clear h hm
  go_enter Try.func32, Try.ntmps32
  go_wp2_with fail
  go_at_call 23
  refine (HL.out _).mono ?_
  rintro e w1 ⟨rfl, rfl⟩
  go_wp2_with fail
  go_at_call 50
  refine (HP.out _).mono ?_
  rintro e w2 ⟨rfl, hb⟩
  go_wp2
  go_ret2
  exact some_nil hb
theorem rstarts_len (m k : Int) (h : ¬ (2 ≤ m ∧ m ≤ 32)) (w : World) : Calls Try.prog 36 #[.int .i64 m, .int .i64 k] w (SomeZ 8 0 [] w) := by
  rcases (by omega : m < 2 ∨ (2 ≤ m ∧ 32 < m)) with h1 | ⟨h1, h2⟩
  · have g1 : ¬ 2 ≤ m := by omega
    have d1 : decide (2 ≤ m) = false := decide_eq_false g1
    have d4 : decide (m < 2) = true := decide_eq_true h1
    go_enter Try.func36, Try.ntmps36
    go_wp2
    go_ret2
    exact some_nil (by repeat (first | exact Bel.rf | (with_reducible refine Bel.drwN ?_ _) | (with_reducible refine Bel.drw ?_) | (with_reducible refine Bel.al ?_ _)))
  · have g1 : ¬ m ≤ 32 := by omega
    have g2 : ¬ m < 2 := by omega
    have d1 : decide (2 ≤ m) = true := decide_eq_true h1
    have d2 : decide (m ≤ 32) = false := decide_eq_false g1
    have d3 : decide (m < 2) = false := decide_eq_false g2
    have d4 : decide (32 < m) = true := decide_eq_true h2
    go_enter Try.func36, Try.ntmps36
    go_wp2
    go_ret2
    exact some_nil (by repeat (first | exact Bel.rf | (with_reducible refine Bel.drwN ?_ _) | (with_reducible refine Bel.drw ?_) | (with_reducible refine Bel.al ?_ _)))
theorem rstarts_no (m k : Int) (hm : 2 ≤ m ∧ m ≤ 32) (h : ¬ kOk m k) (w : World) : Calls Try.prog 36 #[.int .i64 m, .int .i64 k] w (SomeZ 1 0 [] w) := by
  obtain ⟨m1, m2⟩ := hm
  have q1 : ¬ m < 2 := by omega
  have q2 : ¬ 32 < m := by omega
  have q3 : decide (m < 2) = false := decide_eq_false q1
  have q4 : decide (32 < m) = false := decide_eq_false q2
  rcases (by unfold kOk at h; omega : k < 1 ∨ (1 ≤ k ∧ 8 < k) ∨ (1 ≤ k ∧ k ≤ 8 ∧ m < k)) with h1 | ⟨h1, h2⟩ | ⟨h1, h2, h3⟩
  · have d1 : decide (k < 1) = true := decide_eq_true h1
    go_enter Try.func36, Try.ntmps36
    go_wp2
    go_ret2
    exact some_nil (by repeat (first | exact Bel.rf | (with_reducible refine Bel.drwN ?_ _) | (with_reducible refine Bel.drw ?_) | (with_reducible refine Bel.al ?_ _)))
  · have g1 : ¬ k < 1 := by omega
    have d1 : decide (k < 1) = false := decide_eq_false g1
    have d2 : decide (8 < k) = true := decide_eq_true h2
    go_enter Try.func36, Try.ntmps36
    go_wp2
    go_ret2
    exact some_nil (by repeat (first | exact Bel.rf | (with_reducible refine Bel.drwN ?_ _) | (with_reducible refine Bel.drw ?_) | (with_reducible refine Bel.al ?_ _)))
  · have g1 : ¬ k < 1 := by omega
    have g2 : ¬ 8 < k := by omega
    have d1 : decide (k < 1) = false := decide_eq_false g1
    have d2 : decide (8 < k) = false := decide_eq_false g2
    have d3 : decide (m < k) = true := decide_eq_true h3
    go_enter Try.func36, Try.ntmps36
    go_wp2
    go_ret2
    exact some_nil (by repeat (first | exact Bel.rf | (with_reducible refine Bel.drwN ?_ _) | (with_reducible refine Bel.drw ?_) | (with_reducible refine Bel.al ?_ _)))
/-- the error of two windows and a band -/
def wk (n m : Nat) (L M : List Int) (b : Int) : Int := if 0 ≤ b ∧ b ≤ 32 then two n m L M b.toNat else 1
theorem wk_in {n m : Nat} {L M : List Int} {b : Int} (h : 0 ≤ b ∧ b ≤ 32) : ∃ q : Nat, b = (q : Int) ∧ q ≤ 32 ∧ wk n m L M b = two n m L M q := by
  obtain ⟨q, rfl⟩ := Int.eq_ofNat_of_zero_le h.1
  exact ⟨q, rfl, by omega, by unfold wk; rw [if_pos h]; rfl⟩
theorem wk_out {n m : Nat} {L M : List Int} {b : Int} (h : ¬ (0 ≤ b ∧ b ≤ 32)) : wk n m L M b = 1 := by unfold wk; rw [if_neg h]
theorem wk_yes {n m : Nat} {L M : List Int} {b : Int} (h : wk n m L M b = 0) : (0 ≤ b ∧ b ≤ 32) ∧ lenOk n ∧ lenOk m ∧ Sam L ∧ Sam M ∧ (n : Int) - (m : Int) ≤ b ∧ (m : Int) - (n : Int) ≤ b := by
  rcases Classical.em (0 ≤ b ∧ b ≤ 32) with hb | hb
  · obtain ⟨q, rfl, hq, e⟩ := wk_in (n := n) (m := m) (L := L) (M := M) hb
    rw [e] at h
    obtain ⟨h1, h2, h3, h4, h5, h6⟩ := two_yes h
    exact ⟨hb, h1, h2, h3, h4, by omega, by omega⟩
  · rw [wk_out hb] at h; cases h
set_option maxHeartbeats 2000000 in
theorem warped_any (A A' : Option Addr) (c c' n m : Nat) (L M : List Int) (b : Int) (hn : n ≤ 100000000) (hm : m ≤ 100000000) (w : World) (h1 : Zi w A n L) (h2 : Zi w A' m M) :
    Calls Try.prog 28 #[.slice A n c, .slice A' m c', .int .i64 b] w fun e w' => e = .returned (.int .i64 (wk n m L M b)) ∧ Bel w w' := by
  rcases Classical.em (0 ≤ b ∧ b ≤ 32) with hb | hb
  · obtain ⟨q, rfl, hq, e⟩ := wk_in (n := n) (m := m) (L := L) (M := M) hb
    rw [e]
    have HW := Lib.hid (windows_any A A' c c' n m L M q (by omega) hn hm w h1 h2)
    obtain ⟨b, hbq⟩ : ∃ b : Int, (q : Int) = b := ⟨_, rfl⟩
    rw [hbq] at HW hb ⊢
    obtain ⟨E, hE⟩ : ∃ E, two n m L M q = E := ⟨_, rfl⟩
    rw [hE] at HW ⊢
    have g1 : ¬ b < 0 := by omega
    have g2 : ¬ 32 < b := by omega
    have d1 : decide (b < 0) = false := decide_eq_false g1
    have d2 : decide (32 < b) = false := decide_eq_false g2
    clear h1 h2 e hE hbq
    go_enter Try.func28, Try.ntmps28
    go_wp2_with fail
    go_at_call 47
    refine HW.out.mono ?_
    rintro e w1 ⟨rfl, hb1⟩
    go_wp2
    go_ret
    exact ⟨rfl, hb1⟩
  · rw [wk_out hb]
    clear h1 h2
    rcases (by omega : b < 0 ∨ (0 ≤ b ∧ 32 < b)) with g1 | ⟨g1, g2⟩
    · have d1 : decide (b < 0) = true := decide_eq_true g1
      go_enter Try.func28, Try.ntmps28
      go_wp2
      go_ret; exact ⟨rfl, by first | exact Bel.rf | exact Bel.rf.drw⟩
    · have g3 : ¬ b < 0 := by omega
      have d1 : decide (b < 0) = false := decide_eq_false g3
      have d2 : decide (32 < b) = true := decide_eq_true g2
      go_enter Try.func28, Try.ntmps28
      go_wp2
      go_ret; exact ⟨rfl, by first | exact Bel.rf | exact Bel.rf.drw⟩
set_option maxHeartbeats 2000000 in
theorem rcheck_any (A A' : Option Addr) (c c' n m : Nat) (L M : List Int) (b : Int) (hn : n ≤ 100000000) (hm : m ≤ 100000000) (w : World) (h1 : Zi w A n L) (h2 : Zi w A' m M) :
    Calls Try.prog 30 #[.slice A n c, .slice A' m c', .int .i64 b] w fun e w' => e = .returned (.int .i64 (wk n m L M b)) ∧ Bel w w' := by
  rcases Classical.em (0 ≤ b ∧ b ≤ 32) with hb | hb
  · obtain ⟨q, rfl, hq, e⟩ := wk_in (n := n) (m := m) (L := L) (M := M) hb
    rw [e]
    have HW := Lib.hid (rtwo_any A A' c c' n m L M q (by omega) hn hm w h1 h2)
    obtain ⟨b, hbq⟩ : ∃ b : Int, (q : Int) = b := ⟨_, rfl⟩
    rw [hbq] at HW hb ⊢
    obtain ⟨E, hE⟩ : ∃ E, two n m L M q = E := ⟨_, rfl⟩
    rw [hE] at HW ⊢
    have g1 : ¬ b < 0 := by omega
    have g2 : ¬ 32 < b := by omega
    have d1 : decide (b < 0) = false := decide_eq_false g1
    have d2 : decide (32 < b) = false := decide_eq_false g2
    clear h1 h2 e hE hbq
    go_enter Try.func30, Try.ntmps30
    go_wp2_with fail
    go_at_call 48
    refine HW.out.mono ?_
    rintro e w1 ⟨rfl, hb1⟩
    go_wp2
    go_ret
    exact ⟨rfl, hb1⟩
  · rw [wk_out hb]
    clear h1 h2
    rcases (by omega : b < 0 ∨ (0 ≤ b ∧ 32 < b)) with g1 | ⟨g1, g2⟩
    · have d1 : decide (b < 0) = true := decide_eq_true g1
      go_enter Try.func30, Try.ntmps30
      go_wp2
      go_ret; exact ⟨rfl, by first | exact Bel.rf | exact Bel.rf.drw⟩
    · have g3 : ¬ b < 0 := by omega
      have d1 : decide (b < 0) = false := decide_eq_false g3
      have d2 : decide (32 < b) = true := decide_eq_true g2
      go_enter Try.func30, Try.ntmps30
      go_wp2
      go_ret; exact ⟨rfl, by first | exact Bel.rf | exact Bel.rf.drw⟩
set_option maxHeartbeats 2000000 in
theorem keogh_bad (A A' : Option Addr) (c c' n m : Nat) (L M : List Int) (b : Int) (hn : n ≤ 100000000) (hm : m ≤ 100000000) (E : Int) (hE : wk n m L M b = E) (h0 : E ≠ 0) (w : World) (h1 : Zi w A n L) (h2 : Zi w A' m M) :
    Calls Try.prog 12 #[.slice A n c, .slice A' m c', .int .i64 b] w fun e w' => e = .returned (.tuple #[.int .i64 0, .int .i64 E]) ∧ Bel w w' := by
  have HW := Lib.hid (warped_any A A' c c' n m L M b hn hm w h1 h2)
  rw [hE] at HW
  have e0 : (E == 0) = false := by rw [beq_eq_false_iff_ne]; exact h0
  clear h1 h2 hE
  go_enter Try.func12, Try.ntmps12
  go_wp2_with fail
  go_at_call 28
  refine HW.out.mono ?_
  rintro e w1 ⟨rfl, hb1⟩
  go_wp2
  go_ret2
  exact ⟨rfl, hb1⟩
set_option maxHeartbeats 2000000 in
theorem improved_bad (A A' : Option Addr) (c c' n m : Nat) (L M : List Int) (b : Int) (hn : n ≤ 100000000) (hm : m ≤ 100000000) (E : Int) (hE : wk n m L M b = E) (h0 : E ≠ 0) (w : World) (h1 : Zi w A n L) (h2 : Zi w A' m M) :
    Calls Try.prog 14 #[.slice A n c, .slice A' m c', .int .i64 b] w fun e w' => e = .returned (.tuple #[.int .i64 0, .int .i64 E]) ∧ Bel w w' := by
  have HW := Lib.hid (warped_any A A' c c' n m L M b hn hm w h1 h2)
  rw [hE] at HW
  have e0 : (E == 0) = false := by rw [beq_eq_false_iff_ne]; exact h0
  clear h1 h2 hE
  go_enter Try.func14, Try.ntmps14
  go_wp2_with fail
  go_at_call 28
  refine HW.out.mono ?_
  rintro e w1 ⟨rfl, hb1⟩
  go_wp2
  go_ret2
  exact ⟨rfl, hb1⟩
set_option maxHeartbeats 2000000 in
theorem rkeogh_bad (A A' : Option Addr) (c c' n m : Nat) (L M : List Int) (b : Int) (hn : n ≤ 100000000) (hm : m ≤ 100000000) (E : Int) (hE : wk n m L M b = E) (h0 : E ≠ 0) (w : World) (h1 : Zi w A n L) (h2 : Zi w A' m M) :
    Calls Try.prog 13 #[.slice A n c, .slice A' m c', .int .i64 b] w fun e w' => e = .returned (.tuple #[.int .i64 0, .int .i64 E]) ∧ Bel w w' := by
  have HW := Lib.hid (rcheck_any A A' c c' n m L M b hn hm w h1 h2)
  rw [hE] at HW
  have e0 : (E == 0) = false := by rw [beq_eq_false_iff_ne]; exact h0
  clear h1 h2 hE
  go_enter Try.func13, Try.ntmps13
  go_wp2_with fail
  go_at_call 30
  refine HW.out.mono ?_
  rintro e w1 ⟨rfl, hb1⟩
  go_wp2
  go_ret2
  exact ⟨rfl, hb1⟩
set_option maxHeartbeats 2000000 in
theorem rimproved_bad (A A' : Option Addr) (c c' n m : Nat) (L M : List Int) (b : Int) (hn : n ≤ 100000000) (hm : m ≤ 100000000) (E : Int) (hE : wk n m L M b = E) (h0 : E ≠ 0) (w : World) (h1 : Zi w A n L) (h2 : Zi w A' m M) :
    Calls Try.prog 15 #[.slice A n c, .slice A' m c', .int .i64 b] w fun e w' => e = .returned (.tuple #[.int .i64 0, .int .i64 E]) ∧ Bel w w' := by
  have HW := Lib.hid (rcheck_any A A' c c' n m L M b hn hm w h1 h2)
  rw [hE] at HW
  have e0 : (E == 0) = false := by rw [beq_eq_false_iff_ne]; exact h0
  clear h1 h2 hE
  go_enter Try.func15, Try.ntmps15
  go_wp2_with fail
  go_at_call 30
  refine HW.out.mono ?_
  rintro e w1 ⟨rfl, hb1⟩
  go_wp2
  go_ret2
  exact ⟨rfl, hb1⟩
set_option maxHeartbeats 2000000 in
theorem pieces_bad1 (A A' : Option Addr) (c c' n m : Nat) (L M : List Int) (b : Int) (hn : n ≤ 100000000) (hm : m ≤ 100000000) (k E : Int) (hE : wk n m L M b = E) (h0 : E ≠ 0) (w : World) (h1 : Zi w A n L) (h2 : Zi w A' m M) :
    Calls Try.prog 17 #[.slice A n c, .slice A' m c', .int .i64 b, .int .i64 k] w fun e w' => e = .returned (.tuple #[.agg #[.int .i64 0, .int .i64 0], .int .i64 E]) ∧ Bel w w' := by
  have HB0 : Hid (Bk (w.alloc (.cells #[.int .i64 0, .int .i64 0] 39)) w.heap.size 39 #[.int .i64 0, .int .i64 0]) := Bk.nw _ _ _
  have HE0 : Hid (Bel w (w.alloc (.cells #[.int .i64 0, .int .i64 0] 39))) := Bel.rf.al _
  have HW : Hid (∀ W, Bel w W → _) := fun W hb => warped_any A A' c c' n m L M b hn hm W (h1.bel hb) (h2.bel hb)
  rw [hE] at HW
  have e0 : (E == 0) = false := by rw [beq_eq_false_iff_ne]; exact h0
  clear h1 h2 hE
  go_enter Try.func17, Try.ntmps17
  go_wp2_with fail
  go_at_call 28
  refine (HW.out _ HE0.out).mono ?_
  rintro e w1 ⟨rfl, hb⟩
  have HB1 := Lib.hid (HB0.out.bel hb)
  have HE1 := Lib.hid (HE0.out.tr hb)
  clear hb
  have r0 : w1.cell? ⟨w.heap.size, 0, none⟩ = some (.int .i64 0) := HB1.out.cell 0
  have r1 : w1.cell? ⟨w.heap.size, 1, none⟩ = some (.int .i64 0) := HB1.out.cell 1
  have f0 : w1.frozen? ⟨w.heap.size, 0, none⟩ = false := HB1.out.fr 0
  have f1 : w1.frozen? ⟨w.heap.size, 1, none⟩ = false := HB1.out.fr 1
  go_wp2
  have HF : Hid (Bk ((w1.setCell ⟨w.heap.size, 0, none⟩ (.int .i64 0)).setCell ⟨w.heap.size, 1, none⟩ (.int .i64 0)) w.heap.size 39 #[.int .i64 0, .int .i64 0]) := (HB1.out.st 0 _).st 1 _
  have HE : Hid (Bel w ((w1.setCell ⟨w.heap.size, 0, none⟩ (.int .i64 0)).setCell ⟨w.heap.size, 1, none⟩ (.int .i64 0))) := Bel.st2 (Nat.le_refl _) (Bel.st2 (Nat.le_refl _) HE1.out _) _
  exact bodyPost_ret (v := .tuple #[.agg #[.int .i64 0, .int .i64 0], .int .i64 E]) (results_rt Try.results17 _ _ w.heap.size _ _ rfl (HF.out.bel (by repeat (first | exact Bel.rf | (with_reducible refine Bel.drwN ?_ _) | (with_reducible refine Bel.drw ?_) | (with_reducible refine Bel.al ?_ _))))) rfl ⟨rfl, HE.out.tr (by repeat (first | exact Bel.rf | (with_reducible refine Bel.drwN ?_ _) | (with_reducible refine Bel.drw ?_) | (with_reducible refine Bel.al ?_ _)))⟩
set_option maxHeartbeats 2000000 in
theorem pieces_bad2 (A A' : Option Addr) (c c' n m : Nat) (L M : List Int) (b : Int) (hn : n ≤ 100000000) (hm : m ≤ 100000000) (k : Int) (hE : wk n m L M b = 0) (hk : ¬ kOk m k) (w : World) (h1 : Zi w A n L) (h2 : Zi w A' m M) :
    Calls Try.prog 17 #[.slice A n c, .slice A' m c', .int .i64 b, .int .i64 k] w fun e w' => e = .returned (.tuple #[.agg #[.int .i64 0, .int .i64 0], .int .i64 1]) ∧ Bel w w' := by
  have HB0 : Hid (Bk (w.alloc (.cells #[.int .i64 0, .int .i64 0] 39)) w.heap.size 39 #[.int .i64 0, .int .i64 0]) := Bk.nw _ _ _
  have HE0 : Hid (Bel w (w.alloc (.cells #[.int .i64 0, .int .i64 0] 39))) := Bel.rf.al _
  have HW : Hid (∀ W, Bel w W → _) := fun W hb => warped_any A A' c c' n m L M b hn hm W (h1.bel hb) (h2.bel hb)
  rw [hE] at HW
  have HS : Hid (∀ W, Bel w W → _) := fun W _ => starts_no (m : Int) k (by have := (wk_yes hE).2.2.1; unfold lenOk at this; omega) hk W
  clear h1 h2 hE
  go_enter Try.func17, Try.ntmps17
  go_wp2_with fail
  go_at_call 28
  refine (HW.out _ HE0.out).mono ?_
  rintro e w1 ⟨rfl, hb⟩
  have HB1 := Lib.hid (HB0.out.bel hb)
  have HE1 := Lib.hid (HE0.out.tr hb)
  clear hb
  go_wp2_with fail
  go_at_call 32
  refine (HS.out _ HE1.out).mono ?_
  rintro e w2 ⟨b1, b2, rfl, _, hb⟩
  have HB2 := Lib.hid (HB1.out.bel hb)
  have HE2 := Lib.hid (HE1.out.tr hb)
  clear hb
  have r0 : w2.cell? ⟨w.heap.size, 0, none⟩ = some (.int .i64 0) := HB2.out.cell 0
  have r1 : w2.cell? ⟨w.heap.size, 1, none⟩ = some (.int .i64 0) := HB2.out.cell 1
  have f0 : w2.frozen? ⟨w.heap.size, 0, none⟩ = false := HB2.out.fr 0
  have f1 : w2.frozen? ⟨w.heap.size, 1, none⟩ = false := HB2.out.fr 1
  go_wp2
  have HF : Hid (Bk ((w2.setCell ⟨w.heap.size, 0, none⟩ (.int .i64 0)).setCell ⟨w.heap.size, 1, none⟩ (.int .i64 0)) w.heap.size 39 #[.int .i64 0, .int .i64 0]) := (HB2.out.st 0 _).st 1 _
  have HE : Hid (Bel w ((w2.setCell ⟨w.heap.size, 0, none⟩ (.int .i64 0)).setCell ⟨w.heap.size, 1, none⟩ (.int .i64 0))) := Bel.st2 (Nat.le_refl _) (Bel.st2 (Nat.le_refl _) HE2.out _) _
  exact bodyPost_ret (v := .tuple #[.agg #[.int .i64 0, .int .i64 0], .int .i64 1]) (results_rt Try.results17 _ _ w.heap.size _ _ rfl (HF.out.bel (by repeat (first | exact Bel.rf | (with_reducible refine Bel.drwN ?_ _) | (with_reducible refine Bel.drw ?_) | (with_reducible refine Bel.al ?_ _))))) rfl ⟨rfl, HE.out.tr (by repeat (first | exact Bel.rf | (with_reducible refine Bel.drwN ?_ _) | (with_reducible refine Bel.drw ?_) | (with_reducible refine Bel.al ?_ _)))⟩
set_option maxHeartbeats 2000000 in
theorem rpieces_bad1 (A A' : Option Addr) (c c' n m : Nat) (L M : List Int) (b : Int) (hn : n ≤ 100000000) (hm : m ≤ 100000000) (k E : Int) (hE : wk n m L M b = E) (h0 : E ≠ 0) (w : World) (h1 : Zi w A n L) (h2 : Zi w A' m M) :
    Calls Try.prog 18 #[.slice A n c, .slice A' m c', .int .i64 b, .int .i64 k] w fun e w' => e = .returned (.tuple #[.agg #[.int .i64 0, .int .i64 0], .int .i64 E]) ∧ Bel w w' := by
  have HB0 : Hid (Bk (w.alloc (.cells #[.int .i64 0, .int .i64 0] 39)) w.heap.size 39 #[.int .i64 0, .int .i64 0]) := Bk.nw _ _ _
  have HE0 : Hid (Bel w (w.alloc (.cells #[.int .i64 0, .int .i64 0] 39))) := Bel.rf.al _
  have HW : Hid (∀ W, Bel w W → _) := fun W hb => rcheck_any A A' c c' n m L M b hn hm W (h1.bel hb) (h2.bel hb)
  rw [hE] at HW
  have e0 : (E == 0) = false := by rw [beq_eq_false_iff_ne]; exact h0
  clear h1 h2 hE
  go_enter Try.func18, Try.ntmps18
  go_wp2_with fail
  go_at_call 30
  refine (HW.out _ HE0.out).mono ?_
  rintro e w1 ⟨rfl, hb⟩
  have HB1 := Lib.hid (HB0.out.bel hb)
  have HE1 := Lib.hid (HE0.out.tr hb)
  clear hb
  have r0 : w1.cell? ⟨w.heap.size, 0, none⟩ = some (.int .i64 0) := HB1.out.cell 0
  have r1 : w1.cell? ⟨w.heap.size, 1, none⟩ = some (.int .i64 0) := HB1.out.cell 1
  have f0 : w1.frozen? ⟨w.heap.size, 0, none⟩ = false := HB1.out.fr 0
  have f1 : w1.frozen? ⟨w.heap.size, 1, none⟩ = false := HB1.out.fr 1
  go_wp2
  have HF : Hid (Bk ((w1.setCell ⟨w.heap.size, 0, none⟩ (.int .i64 0)).setCell ⟨w.heap.size, 1, none⟩ (.int .i64 0)) w.heap.size 39 #[.int .i64 0, .int .i64 0]) := (HB1.out.st 0 _).st 1 _
  have HE : Hid (Bel w ((w1.setCell ⟨w.heap.size, 0, none⟩ (.int .i64 0)).setCell ⟨w.heap.size, 1, none⟩ (.int .i64 0))) := Bel.st2 (Nat.le_refl _) (Bel.st2 (Nat.le_refl _) HE1.out _) _
  exact bodyPost_ret (v := .tuple #[.agg #[.int .i64 0, .int .i64 0], .int .i64 E]) (results_rt Try.results18 _ _ w.heap.size _ _ rfl (HF.out.bel (by repeat (first | exact Bel.rf | (with_reducible refine Bel.drwN ?_ _) | (with_reducible refine Bel.drw ?_) | (with_reducible refine Bel.al ?_ _))))) rfl ⟨rfl, HE.out.tr (by repeat (first | exact Bel.rf | (with_reducible refine Bel.drwN ?_ _) | (with_reducible refine Bel.drw ?_) | (with_reducible refine Bel.al ?_ _)))⟩
set_option maxHeartbeats 2000000 in
theorem rpieces_bad2 (A A' : Option Addr) (c c' n m : Nat) (L M : List Int) (b : Int) (hn : n ≤ 100000000) (hm : m ≤ 100000000) (k : Int) (hE : wk n m L M b = 0) (hk : ¬ kOk m k) (w : World) (h1 : Zi w A n L) (h2 : Zi w A' m M) :
    Calls Try.prog 18 #[.slice A n c, .slice A' m c', .int .i64 b, .int .i64 k] w fun e w' => e = .returned (.tuple #[.agg #[.int .i64 0, .int .i64 0], .int .i64 1]) ∧ Bel w w' := by
  have HB0 : Hid (Bk (w.alloc (.cells #[.int .i64 0, .int .i64 0] 39)) w.heap.size 39 #[.int .i64 0, .int .i64 0]) := Bk.nw _ _ _
  have HE0 : Hid (Bel w (w.alloc (.cells #[.int .i64 0, .int .i64 0] 39))) := Bel.rf.al _
  have HW : Hid (∀ W, Bel w W → _) := fun W hb => rcheck_any A A' c c' n m L M b hn hm W (h1.bel hb) (h2.bel hb)
  rw [hE] at HW
  have HS : Hid (∀ W, Bel w W → _) := fun W _ => rstarts_no (m : Int) k (by have := (wk_yes hE).2.2.1; unfold lenOk at this; omega) hk W
  clear h1 h2 hE
  go_enter Try.func18, Try.ntmps18
  go_wp2_with fail
  go_at_call 30
  refine (HW.out _ HE0.out).mono ?_
  rintro e w1 ⟨rfl, hb⟩
  have HB1 := Lib.hid (HB0.out.bel hb)
  have HE1 := Lib.hid (HE0.out.tr hb)
  clear hb
  go_wp2_with fail
  go_at_call 36
  refine (HS.out _ HE1.out).mono ?_
  rintro e w2 ⟨b1, b2, rfl, _, hb⟩
  have HB2 := Lib.hid (HB1.out.bel hb)
  have HE2 := Lib.hid (HE1.out.tr hb)
  clear hb
  have r0 : w2.cell? ⟨w.heap.size, 0, none⟩ = some (.int .i64 0) := HB2.out.cell 0
  have r1 : w2.cell? ⟨w.heap.size, 1, none⟩ = some (.int .i64 0) := HB2.out.cell 1
  have f0 : w2.frozen? ⟨w.heap.size, 0, none⟩ = false := HB2.out.fr 0
  have f1 : w2.frozen? ⟨w.heap.size, 1, none⟩ = false := HB2.out.fr 1
  go_wp2
  have HF : Hid (Bk ((w2.setCell ⟨w.heap.size, 0, none⟩ (.int .i64 0)).setCell ⟨w.heap.size, 1, none⟩ (.int .i64 0)) w.heap.size 39 #[.int .i64 0, .int .i64 0]) := (HB2.out.st 0 _).st 1 _
  have HE : Hid (Bel w ((w2.setCell ⟨w.heap.size, 0, none⟩ (.int .i64 0)).setCell ⟨w.heap.size, 1, none⟩ (.int .i64 0))) := Bel.st2 (Nat.le_refl _) (Bel.st2 (Nat.le_refl _) HE2.out _) _
  exact bodyPost_ret (v := .tuple #[.agg #[.int .i64 0, .int .i64 0], .int .i64 1]) (results_rt Try.results18 _ _ w.heap.size _ _ rfl (HF.out.bel (by repeat (first | exact Bel.rf | (with_reducible refine Bel.drwN ?_ _) | (with_reducible refine Bel.drw ?_) | (with_reducible refine Bel.al ?_ _))))) rfl ⟨rfl, HE.out.tr (by repeat (first | exact Bel.rf | (with_reducible refine Bel.drwN ?_ _) | (with_reducible refine Bel.drw ?_) | (with_reducible refine Bel.al ?_ _)))⟩
end Go.Proofs.Ytkonknkoggfeaaa.Say
namespace Go.Proofs.Ytkonknkoggfeaaa.Ev
open Go.ChangeShapes Go.WideShapes Go.RowKit Wo Sr Wi Eu Say
set_option linter.unusedVariables false
theorem eus_sam {X : List Int} (hs : Sam X) (b : Int) (m : Nat) : Sam (eus X b m) := sam_of_at fun j hj => by
  rw [eus_len] at hj
  rw [eus_at _ _ _ _ hj]
  exact eu_bd hs b j _
theorem els_sam {X : List Int} (hs : Sam X) (b : Int) (m : Nat) : Sam (els X b m) := sam_of_at fun j hj => by
  rw [els_len] at hj
  rw [els_at _ _ _ _ hj]
  exact el_bd hs b j _
set_option maxHeartbeats 8000000 in
set_option maxRecDepth 100000 in
theorem rkv_ok (A A' : Option Addr) (c c' n m : Nat) (X Y : List Int) (b : Int) (n2 : n ≤ 32) (m2 : m ≤ 32) (hs : Sam X) (ht : Sam Y) (b0 : 0 ≤ b) (b32 : b ≤ 32) (w : World) (h1 : Zi w A n X) (h2 : Zi w A' m Y) :
    Calls Try.prog 31 #[.slice A n c, .slice A' m c', .int .i64 b] w fun e w' => e = .returned (.int .i64 (kv Y (eus X b m) (els X b m))) ∧ Bel w w' := by
  have H2 := Lib.hid h2
  have HLX : Hid (X.length = n) := h1.1
  have HLY : Hid (Y.length = m) := h2.1
  have EK : Hid (∀ j W, j ≤ 100 → Bel w W → _) := fun j W hj hW => ends_ok A c n X b j n2 hs b0 b32 hj W (h1.bel hW)
  have HBU := Lib.hid (eu_bd hs b)
  have HBL := Lib.hid (el_bd hs b)
  have HT := Lib.hid ht
  obtain ⟨Z, hZ⟩ : ∃ Z, pz Y (eus X b m) (els X b m) = Z := ⟨_, rfl⟩
  have HZL : Hid (Z.length = m) := by show _ = _; rw [← hZ, pz_len, h2.1]
  have HZB : Hid (Bd 2000 Z) := by show Bd 2000 Z; rw [← hZ]; exact pz_bd ht (eus_sam hs b m) (els_sam hs b m)
  have HZA : Hid (∀ k, k < m → Z.getD k 0 = ps (Y.getD k 0) (el X b k n) (eu X b k n)) := fun k hk => by
    rw [← hZ, pz_at _ _ _ _ (by rw [h2.1]; exact hk), eus_at _ _ _ _ hk, els_at _ _ _ _ hk, h1.1]
  have hkv : kv Y (eus X b m) (els X b m) = su sq Z := by unfold kv; rw [hZ]
  rw [hkv]
  have i2 : (m : Int) ≤ 32 := by omega
  clear h1 h2 hs ht hZ hkv
  go_enter Try.func31, Try.ntmps31
  go_wp2
  go_loopw [7, 14] (fun s7 s14 wr => ∃ (k : Nat) (V : World), V = wr ∧ k ≤ m ∧ s14 = .int .i64 (k : Int) ∧ s7 = .int .i64 (su sq (Z.take k)) ∧ Bel w wr) (fun _ s14 _ => m - (intOf s14).toNat)
  case atStart => exact ⟨0, _, rfl, by omega, rfl, by simp [su], Bel.rf⟩
  case round =>
    obtain ⟨k, wr, hwr, hk, rfl, rfl, hb⟩ := hrel
    subst hwr
    have HB := Lib.hid hb
    rcases Nat.lt_or_ge k m with hlt | hge
    · have hn := su_next sq Z k (by rw [HZL.out]; exact hlt)
      rw [HZA.out k hlt] at hn
      have sb := susq_bd (HZB.out.take k)
      have tl := List.length_take_le k Z
      have pu := HBU.out k n
      have pl := HBL.out k n
      have py := HT.out.at k
      have EK2 := Lib.hid (EK.out k wr (by omega) hb)
      obtain ⟨y, hy⟩ : ∃ x, Y.getD k 0 = x := ⟨_, rfl⟩
      obtain ⟨u, hu⟩ : ∃ x, eu X b k n = x := ⟨_, rfl⟩
      obtain ⟨l, hl⟩ : ∃ x, el X b k n = x := ⟨_, rfl⟩
      have C1 : Hid (∀ W, Bel w W → ∃ ad, A' = some ad ∧ W.cell? (ad.add k) = some (.int .i64 y)) := fun W hW => by
        obtain ⟨ad, e, _, hc⟩ := (H2.out.bel hW).2 (by omega)
        exact ⟨ad, e, by rw [hc k hlt, hy]⟩
      rw [hy] at py hn
      rw [hu] at pu hn EK2
      rw [hl] at pl hn EK2
      have PK : Hid (∀ W, _) := fun W => rpasses_ok y l u (by omega) (by omega) (by omega) W
      have pb : 0 ≤ ps y l u ∧ ps y l u ≤ 2000 := by unfold ps; omega
      obtain ⟨s, hs⟩ : ∃ s, su sq (Z.take k) = s := ⟨_, rfl⟩
      obtain ⟨d, hd⟩ : ∃ d, ps y l u = d := ⟨_, rfl⟩
      rw [hs] at sb hn ⊢
      rw [hd] at hn pb PK
      have hn' : su sq (Z.take (k + 1)) = s + d * d := hn
      have d2 := sq_bd (B := 2000) (x := d) (by omega) (by omega)
      obtain ⟨r, hr⟩ : ∃ r, d * d = r := ⟨_, rfl⟩
      rw [hr] at hn' d2
      have s0 : 0 ≤ s ∧ s ≤ 128000000 := by have := HZL.out; omega
      obtain ⟨s0, s1⟩ := s0
      have w1 : wrap64 r = r := IntWalk.wrap64_in _ (by omega)
      have w2 : wrap64 (s + r) = s + r := IntWalk.wrap64_in _ (by omega)
      have HN := Lib.hid hn'
      have ti : (k : Int) < (m : Int) := by omega
      clear hb hy hu hl sb tl hs hd hn hn' py pu pl
      go_wp2_with fail
      go_at_call 27
      refine EK2.out.mono ?_
      rintro e W1 ⟨rfl, hb1⟩
      have HB1 := Lib.hid (HB.out.tr hb1)
      obtain ⟨ad, rfl, c1⟩ := C1.out W1 HB1.out
      clear hb1
      go_wp2_with fail
      go_at_call 49
      refine (PK.out _).mono ?_
      rintro e v ⟨rfl, rfl⟩
      go_wp2
      go_roundw
      case rel => exact ⟨k + 1, _, rfl, by omega, by go_num, by rw [HN.out], by first | exact HB1.out.drwN _ | exact HB1.out.drw | exact HB1.out⟩
      case measure => simp [intOf]; omega
    · obtain rfl : k = m := by omega
      have e : Z.take k = Z := List.take_of_length_le (by rw [HZL.out]; exact Nat.le_refl _)
      rw [e]
      clear hb
      go_wp2
      go_ret
      exact ⟨rfl, HB.out⟩
set_option maxHeartbeats 4000000 in
theorem rkeogh_good (A A' : Option Addr) (c c' n m : Nat) (L M : List Int) (b : Int) (hE : wk n m L M b = 0) (w : World) (h1 : Zi w A n L) (h2 : Zi w A' m M) :
    Calls Try.prog 13 #[.slice A n c, .slice A' m c', .int .i64 b] w fun e w' => e = .returned (.tuple #[.int .i64 (kv M (eus L b m) (els L b m)), .int .i64 0]) ∧ Bel w w' := by
  obtain ⟨⟨b0, b32⟩, ⟨n1, n2⟩, ⟨m1, m2⟩, hs, ht, _, _⟩ := wk_yes hE
  have CK := Lib.hid (rcheck_any A A' c c' n m L M b (by omega) (by omega) w h1 h2)
  rw [hE] at CK
  have KK : Hid (∀ W, Bel w W → _) := fun W hW => rkv_ok A A' c c' n m L M b n2 m2 hs ht b0 b32 W (h1.bel hW) (h2.bel hW)
  obtain ⟨K, hK⟩ : ∃ K, kv M (eus L b m) (els L b m) = K := ⟨_, rfl⟩
  rw [hK] at KK ⊢
  clear h1 h2 hs ht hE hK
  go_enter Try.func13, Try.ntmps13
  go_wp2_with fail
  go_at_call 30
  refine CK.out.mono ?_
  rintro e w1 ⟨rfl, hb1⟩
  go_wp2_with fail
  go_at_call 31
  refine (KK.out _ hb1).mono ?_
  rintro e w2 ⟨rfl, hb2⟩
  go_wp2
  go_ret2
  exact ⟨rfl, hb1.tr hb2⟩
set_option maxHeartbeats 16000000 in
set_option maxRecDepth 100000 in
theorem rimproved_good (A A' : Option Addr) (c c' n m : Nat) (L M : List Int) (b : Int) (hE : wk n m L M b = 0) (w : World) (h1 : Zi w A n L) (h2 : Zi w A' m M) :
    Calls Try.prog 15 #[.slice A n c, .slice A' m c', .int .i64 b] w fun e w' => e = .returned (.tuple #[.int .i64 (kv M (eus L b m) (els L b m) + kv L (eus (pj M (eus L b m) (els L b m)) b n) (els (pj M (eus L b m) (els L b m)) b n)), .int .i64 0]) ∧ Bel w w' := by
  obtain ⟨⟨b0, b32⟩, ⟨n1, n2⟩, ⟨m1, m2⟩, hs, ht, bn, bm⟩ := wk_yes hE
  have henv := env_is hs (m := m) h1.1 (by omega) b0 bm
  have HLE : Hid (∀ j, j < m → (els L b m).getD j 0 ≤ (eus L b m).getD j 0) := fun j hj => henv.le j hj
  obtain ⟨H, hH⟩ : ∃ H, pj M (eus L b m) (els L b m) = H := ⟨_, rfl⟩
  have HHL : Hid (H.length = m) := by show _ = _; rw [← hH, pj_len, h2.1]
  have sH : Sam H := by rw [← hH]; exact pj_sam ht (eus_sam hs b m) (els_sam hs b m)
  have HHA : Hid (∀ k, k < m → H.getD k 0 = min (max (M.getD k 0) (el L b k n)) (eu L b k n)) := fun k hk => by
    rw [← hH, pj_at _ _ _ _ (by rw [h2.1]; exact hk), eus_at _ _ _ _ hk, els_at _ _ _ _ hk, h1.1]
  have HLE2 : Hid (∀ k, k < m → el L b k n ≤ eu L b k n) := fun k hk => by
    have := HLE.out k hk
    rwa [eus_at _ _ _ _ hk, els_at _ _ _ _ hk, h1.1] at this
  rw [hH]
  have CK := Lib.hid (rcheck_any A A' c c' n m L M b (by omega) (by omega) w h1 h2)
  rw [hE] at CK
  have EK : Hid (∀ j W, j ≤ 100 → Bel w W → _) := fun j W hj hW => ends_ok A c n L b j n2 hs b0 b32 hj W (h1.bel hW)
  have KK : Hid (∀ W, Bel w W → _) := fun W hW => rkv_ok A A' c c' n m L M b n2 m2 hs ht b0 b32 W (h1.bel hW) (h2.bel hW)
  have KH : Hid (∀ W ah ch, Bel w W → Zi W ah m H → _) := fun W ah ch hW hz => rkv_ok ah A ch c m n H L b m2 n2 sH hs b0 b32 W hz (h1.bel hW)
  have k1 := kv_in (Y := M) ht (eus_sam hs b m) (els_sam hs b m) (by rw [h2.1]; exact m2)
  have k2 := kv_in (Y := L) hs (eus_sam sH b n) (els_sam sH b n) (by rw [h1.1]; exact n2)
  obtain ⟨K1, hK1⟩ : ∃ K, kv M (eus L b m) (els L b m) = K := ⟨_, rfl⟩
  obtain ⟨K2, hK2⟩ : ∃ K, kv L (eus H b n) (els H b n) = K := ⟨_, rfl⟩
  rw [hK1] at KK k1 ⊢
  rw [hK2] at KH k2 ⊢
  have wK : wrap64 (K1 + K2) = K1 + K2 := IntWalk.wrap64_in _ (by omega)
  have H2 := Lib.hid h2
  have HBU := Lib.hid (eu_bd hs b)
  have HBL := Lib.hid (el_bd hs b)
  have i2 : (m : Int) ≤ 32 := by omega
  have im : 2 ≤ (m : Int) := by omega
  clear h1 h2 hs ht hE hH sH k1 k2 hK1 hK2 henv
  go_enter Try.func15, Try.ntmps15
  go_wp2_with fail
  go_at_call 30
  refine CK.out.mono ?_
  rintro e w1 ⟨rfl, hb1⟩
  have HW1 := Lib.hid hb1
  clear hb1
  go_wp2
  have HR0 : Hid (∃ (k : Nat) (V : World) (u : Value), V = w1 ∧ u = (.slice none 0 0) ∧ k ≤ m ∧ (Value.int .i64 0) = .int .i64 (k : Int) ∧ w1.ownsRow w1.heap.size 3 1 u k (zs (H.take k)) ∧ Bel w1 w1) := ⟨0, _, _, rfl, rfl, by omega, rfl, World.ownsRow_nil _ _ _ _, Bel.rf⟩
  go_loopw [9, 22] (fun s9 s22 wr => ∃ (k : Nat) (V : World) (u : Value), V = wr ∧ u = s9 ∧ k ≤ m ∧ s22 = .int .i64 (k : Int) ∧ wr.ownsRow w1.heap.size 3 1 u k (zs (H.take k)) ∧ Bel w1 wr) (fun _ s22 _ => m - (intOf s22).toNat)
  case atStart => exact ⟨0, _, _, rfl, rfl, by omega, rfl, World.ownsRow_nil _ _ _ _, Bel.rf⟩
  case round =>
    clear HR0
    obtain ⟨k, wr, u9, hwr, hu9, hk, rfl, hown, hb⟩ := hrel
    subst hwr hu9
    have HB := Lib.hid hb
    have HO := Lib.hid hown
    clear hown
    rcases Nat.lt_or_ge k m with hlt | hge
    · have pu := HBU.out k n
      have pl := HBL.out k n
      have hle := HLE2.out k hlt
      have hha := HHA.out k hlt
      have EK2 := Lib.hid (EK.out k wr (by omega) (HW1.out.tr hb))
      obtain ⟨y, hy⟩ : ∃ x, M.getD k 0 = x := ⟨_, rfl⟩
      obtain ⟨u, hu⟩ : ∃ x, eu L b k n = x := ⟨_, rfl⟩
      obtain ⟨l, hl⟩ : ∃ x, el L b k n = x := ⟨_, rfl⟩
      have C1 : Hid (∀ W, Bel w W → ∃ ad, A' = some ad ∧ W.cell? (ad.add k) = some (.int .i64 y)) := fun W hW => by
        obtain ⟨ad, e, _, hc⟩ := (H2.out.bel hW).2 (by omega)
        exact ⟨ad, e, by rw [hc k hlt, hy]⟩
      rw [hy, hl, hu] at hha
      rw [hu] at EK2 hle
      rw [hl] at EK2 hle
      have HHN : Hid (∀ z, H.getD k 0 = z → H.take (k + 1) = H.take k ++ [z]) := fun z hz => by rw [take_snoc _ k (by rw [HHL.out]; exact hlt), hz]
      have ti : (k : Int) < (m : Int) := by omega
      clear hb hy hu hl pu pl
      go_wp2_with fail
      go_at_call 27
      refine EK2.out.mono ?_
      rintro e W1 ⟨rfl, hb1⟩
      have HB1 := Lib.hid (HB.out.tr hb1)
      have HO1 := Lib.hid (own_bel HO.out hb1)
      have hsz := HB1.out.size
      obtain ⟨ad, rfl, c1⟩ := C1.out W1 (HW1.out.tr HB1.out)
      clear hb1
      have HP : Hid (H.getD k 0 = max l (min u y)) := by show _ = _; rw [hha]; omega
      clear hha hle
      go_wp2_with (at_builtin; refine list_app _ rfl _ _ rfl w1.heap.size u9 k (H.take k) rfl (HO1.out.alloc _) ⟨W1.heap.size, 0, none⟩ 1 1 [max l (min u y)] rfl (zi_bk (L := [max l (min u y)]) (t := 3) (Bk.nw _ _ _) 1 rfl) (by omega) (by simp; omega) ?_; intro v' w5 h5 g5 hat5)
      have hb5 : Bel w1 w5 := bel_grown (HB1.out.al _) g5 (fun q e => (HO1.out.lt q e).1)
      have HR5 := Lib.hid (And.intro h5 hb5)
      clear h5 g5 hat5 hb5
      go_wp2
      go_roundw
      case rel => exact ⟨k + 1, _, _, rfl, rfl, by omega, by go_num, by rw [HHN.out (max l (min u y)) HP.out]; exact HR5.out.1, HR5.out.2⟩
      case measure => simp [intOf]; omega
    · obtain rfl : k = m := by omega
      have e : H.take k = H := List.take_of_length_le (by rw [HHL.out]; exact Nat.le_refl _)
      have hz := HO.out
      rw [e] at hz
      obtain ⟨hh, hc, rfl, _, _⟩ := row_form hz (by omega)
      have HZ := Lib.hid (own_zi hz HHL.out)
      have HWB := Lib.hid (HW1.out.tr hb)
      clear hb hz e
      go_wp2_with fail
      go_at_call 31
      refine (KK.out _ HWB.out).mono ?_
      rintro e w2 ⟨rfl, hb2⟩
      have HW2 := Lib.hid (HWB.out.tr hb2)
      have HZ2 := Lib.hid (HZ.out.bel hb2)
      clear hb2
      go_wp2_with fail
      go_at_call 31
      refine (KH.out _ _ _ HW2.out HZ2.out).mono ?_
      rintro e w3 ⟨rfl, hb3⟩
      go_wp2
      go_ret2
      exact ⟨congrArg (fun z => Ending.returned (Value.tuple #[.int .i64 z, .int .i64 0])) wK, HW2.out.tr hb3⟩
end Go.Proofs.Ytkonknkoggfeaaa.Ev
namespace Go.Proofs.Ytkonknkoggfeaaa.Wi
open Go.ChangeShapes Go.WideShapes Go.RowKit Wo Sr
set_option linter.unusedVariables false
def Tw (B : Nat) (w0 W : World) (v : Value) (n : Nat) (L : List Int) (u : Value) (m : Nat) (M : List Int) : Prop :=
  W.ownsRow B 3 1 v n (zs L) ∧ W.ownsRow B 3 1 u m (zs M) ∧ (∀ b, v.ownBlock = some b → u.ownBlock ≠ some b) ∧ Below B w0 W ∧ B ≤ W.heap.size
theorem Tw.bel {B n m : Nat} {w0 W W' : World} {v u : Value} {L M : List Int} (h : Tw B w0 W v n L u m M) (hb : Bel W W') : Tw B w0 W' v n L u m M :=
  ⟨own_bel h.1 hb, own_bel h.2.1 hb, h.2.2.1, Below.trans h.2.2.2.1 (Below.mono hb h.2.2.2.2), by have := hb.size; have := h.2.2.2.2; omega⟩
theorem own_kept {w w' : World} {base n : Nat} {v : Value} {L : List Int} {row : Option Nat} (h : w.ownsRow base 3 1 v n (zs L)) (hg : w.grownBy w' row) (hne : ∀ b, v.ownBlock = some b → row ≠ some b) : w'.ownsRow base 3 1 v n (zs L) :=
  h.kept hg (by
    rcases hob : v.ownBlock with _ | q
    · exact .inl rfl
    · exact .inr (fun e => hne q hob e.symm))
theorem Tw.app1 {B n m n' : Nat} {w0 W W' : World} {v u v' : Value} {L M L' : List Int} (h : Tw B w0 W v n L u m M) (ho : W'.ownsRow B 3 1 v' n' (zs L')) (hg : W.grownBy W' v.ownBlock) (hat : v'.ownBlock = v.ownBlock ∨ v'.ownBlock = some W.heap.size) : Tw B w0 W' v' n' L' u m M := by
  obtain ⟨h1, h2, h3, h4, h5⟩ := h
  refine ⟨ho, own_kept h2 hg (fun b e e2 => h3 b e2 e), fun b e e2 => ?_, Below.grown h4 hg h5 (own_base h1), by have := hg.size; omega⟩
  rcases hat with hat | hat
  · exact h3 b (hat ▸ e) e2
  · rw [hat] at e
    cases e
    have := (h2.lt _ e2).2
    omega
theorem Tw.app2 {B n m m' : Nat} {w0 W W' : World} {v u u' : Value} {L M M' : List Int} (h : Tw B w0 W v n L u m M) (ho : W'.ownsRow B 3 1 u' m' (zs M')) (hg : W.grownBy W' u.ownBlock) (hat : u'.ownBlock = u.ownBlock ∨ u'.ownBlock = some W.heap.size) : Tw B w0 W' v n L u' m' M' := by
  obtain ⟨h1, h2, h3, h4, h5⟩ := h
  refine ⟨own_kept h1 hg (fun b e e2 => h3 b e e2), ho, fun b e e2 => ?_, Below.grown h4 hg h5 (own_base h2), by have := hg.size; omega⟩
  rcases hat with hat | hat
  · exact h3 b e (hat ▸ e2)
  · rw [hat] at e2
    cases e2
    have := (h1.lt _ e).2
    omega
theorem Tw.o1 {B n m : Nat} {w0 W : World} {v u : Value} {L M : List Int} (h : Tw B w0 W v n L u m M) : W.ownsRow B 3 1 v n (zs L) := h.1
theorem Tw.o2 {B n m : Nat} {w0 W : World} {v u : Value} {L M : List Int} (h : Tw B w0 W v n L u m M) : W.ownsRow B 3 1 u m (zs M) := h.2.1
theorem Tw.base {B n m : Nat} {w0 W : World} {v u : Value} {L M : List Int} (h : Tw B w0 W v n L u m M) : B ≤ W.heap.size := h.2.2.2.2
theorem Tw.low {B n m : Nat} {w0 W : World} {v u : Value} {L M : List Int} (h : Tw B w0 W v n L u m M) : Below B w0 W := h.2.2.2.1
theorem Tw.nil {B : Nat} {w0 W : World} (hb : Below B w0 W) (hB : B ≤ W.heap.size) : Tw B w0 W (.slice none 0 0) 0 [] (.slice none 0 0) 0 [] :=
  ⟨World.ownsRow_nil _ _ _ _, World.ownsRow_nil _ _ _ _, fun b (e : none = some b) => (by cases e), hb, hB⟩
/-- a block made in the round stays as it is when a row of before is appended to -/
theorem bk_grown {W W' : World} {g N : Nat} {t : TypeId} {cs : Array Value} {row : Option Nat} (h : Bk W g t cs) (hg : W.grownBy W' row) (hr : ∀ b, row = some b → b < N) (hN : N ≤ g) : Bk W' g t cs :=
  (hg.block g h.lt (fun e => by have := hr g e.symm; omega)).trans h
end Go.Proofs.Ytkonknkoggfeaaa.Wi
namespace Go.Proofs.Ytkonknkoggfeaaa.Ev
open Go.ChangeShapes Go.WideShapes Go.RowKit Wo Sr Wi Eu Say
set_option linter.unusedVariables false
def SomeE (m : Nat) (U Lo : List Int) (w : World) (e : Ending) (w' : World) : Prop := ∃ gu cu gl cl, e = .returned (.tuple #[.slice (some ⟨gu, 0, none⟩) m cu, .slice (some ⟨gl, 0, none⟩) m cl, .int .i64 0]) ∧ Zi w' (some ⟨gu, 0, none⟩) m U ∧ Zi w' (some ⟨gl, 0, none⟩) m Lo ∧ Bel w w'
set_option maxHeartbeats 8000000 in
set_option maxRecDepth 100000 in
theorem rof_good (A : Option Addr) (c n m : Nat) (L : List Int) (b : Int) (n1 : 2 ≤ n) (n2 : n ≤ 32) (m1 : 2 ≤ m) (m2 : m ≤ 32) (b0 : 0 ≤ b) (b32 : b ≤ 32) (bm : (m : Int) - (n : Int) ≤ b) (bn : (n : Int) - (m : Int) ≤ b) (hs : Sam L) (w : World) (h1 : Zi w A n L) :
    Calls Try.prog 10 #[.slice A n c, .int .i64 b, .int .i64 (m : Int)] w (SomeE m (eus L b m) (els L b m) w) := by
  have WK := Lib.hid (rwindow_any A c n L (by omega) w h1)
  rw [show one n L = 0 by unfold one; rw [if_pos ⟨n1, n2⟩, if_pos (sam_all hs)]] at WK
  have HXL : Hid (L.length = n) := h1.1
  have EK : Hid (∀ j W, j ≤ 100 → Bel w W → _) := fun j W hj hW => ends_ok A c n L b j n2 hs b0 b32 hj W (h1.bel hW)
  have g1 : ¬ b < 0 := by omega
  have g2 : ¬ 32 < b := by omega
  have d1 : decide (b < 0) = false := decide_eq_false g1
  have d2 : decide (32 < b) = false := decide_eq_false g2
  have q1 : ¬ (m : Int) < 2 := by omega
  have q2 : ¬ 32 < (m : Int) := by omega
  have q3 : ¬ b < (m : Int) - (n : Int) := by omega
  have q4 : ¬ b < (n : Int) - (m : Int) := by omega
  have p1 : decide ((m : Int) < 2) = false := decide_eq_false q1
  have p2 : decide (32 < (m : Int)) = false := decide_eq_false q2
  have p3 : decide (b < (m : Int) - (n : Int)) = false := decide_eq_false q3
  have p4 : decide (b < (n : Int) - (m : Int)) = false := decide_eq_false q4
  have wk1 : wrap64 ((m : Int) - (n : Int)) = (m : Int) - (n : Int) := IntWalk.wrap64_in _ (by omega)
  have wk2 : wrap64 ((n : Int) - (m : Int)) = (n : Int) - (m : Int) := IntWalk.wrap64_in _ (by omega)
  have im : (m : Int) ≤ 32 := by omega
  clear h1 hs
  go_enter Try.func10, Try.ntmps10
  go_wp2_with fail
  go_at_call 26
  refine WK.out.mono ?_
  rintro e w1 ⟨rfl, hb1⟩
  have HW1 := Lib.hid hb1
  clear hb1
  go_wp2
  clear d1 d2 p1 p2 p3 p4 g1 g2 q1 q2 q3 q4 wk1 wk2
  go_loopw [10, 11, 12] (fun s10 s11 s12 wr => ∃ (k : Nat) (V : World) (v u : Value), V = wr ∧ v = s10 ∧ u = s11 ∧ k ≤ m ∧ s12 = .int .i64 (k : Int) ∧ Tw w1.heap.size w1 wr v k (eus L b k) u k (els L b k)) (fun _ _ s12 _ => m - (intOf s12).toNat)
  case atStart => exact ⟨0, _, _, _, rfl, rfl, rfl, by omega, rfl, Tw.nil Bel.rf (Nat.le_refl _)⟩
  case round =>
    obtain ⟨k, wr, v10, v11, hwr, hv, hu, hk, rfl, ht⟩ := hrel
    subst hwr hv hu
    have HT := Lib.hid ht
    have HB : Hid (Bel w1 wr) := ht.low
    clear ht
    rcases Nat.lt_or_ge k m with hlt | hge
    · have EK2 := Lib.hid (EK.out k wr (by omega) (HW1.out.tr HB.out))
      have eN := eus_next L b k
      have lN := els_next L b k
      rw [HXL.out] at eN lN
      obtain ⟨x, hx⟩ : ∃ x, eu L b k n = x := ⟨_, rfl⟩
      obtain ⟨y, hy⟩ : ∃ x, el L b k n = x := ⟨_, rfl⟩
      rw [hx] at EK2 eN
      rw [hy] at EK2 lN
      have HN := Lib.hid (And.intro eN lN)
      have ti : (k : Int) < (m : Int) := by omega
      have td : decide ((k : Int) < (m : Int)) = true := decide_eq_true ti
      clear hx hy eN lN
      go_wp2_with fail
      go_at_call 27
      refine EK2.out.mono ?_
      rintro e W1 ⟨rfl, hb1⟩
      have HT1 := Lib.hid (HT.out.bel hb1)
      have hsz := HT1.out.base
      clear hb1
      go_wp2_with (first
        | (at_builtin; refine list_app _ rfl (.tmp 60) (.tmp 62) rfl w1.heap.size v10 k (eus L b k) rfl (HT1.out.o1.alloc _) ⟨W1.heap.size, 0, none⟩ 1 1 [x] rfl (zi_bk (L := [x]) (t := 3) (Bk.nw _ _ _) 1 rfl) (by omega) (by simp; omega) ?_; intro v' w5 h5 g5 hat5; have T5 := Lib.hid (Tw.app1 (HT1.out.bel (Bel.rf.al _)) h5 g5 hat5); have hsz5 := T5.out.base; clear h5 g5 hat5)
        | (at_builtin; refine list_app _ rfl (.tmp 64) (.tmp 66) rfl w1.heap.size v11 k (els L b k) rfl (T5.out.o2.alloc _) ⟨w5.heap.size, 0, none⟩ 1 1 [y] rfl (zi_bk (L := [y]) (t := 3) (Bk.nw _ _ _) 1 rfl) (by omega) (by simp; omega) ?_; intro u' w6 h6 g6 hat6; have T6 := Lib.hid (Tw.app2 (T5.out.bel (Bel.rf.al _)) h6 g6 hat6); clear h6 g6 hat6))
      go_wp2
      go_roundw
      case rel => exact ⟨k + 1, _, _, _, rfl, rfl, rfl, by omega, by go_num, by rw [← HN.out.1, ← HN.out.2]; exact T6.out⟩
      case measure => simp [intOf]; omega
    · obtain rfl : k = m := by omega
      have td : ¬ (k : Int) < (k : Int) := by omega
      obtain ⟨gu, cu, rfl, _, _⟩ := row_form HT.out.o1 (by omega)
      obtain ⟨gl, cl, rfl, _, _⟩ := row_form HT.out.o2 (by omega)
      have Z1 := Lib.hid (own_zi HT.out.o1 (eus_len _ _ _))
      have Z2 := Lib.hid (own_zi HT.out.o2 (els_len _ _ _))
      go_wp2
      refine bodyPost_ret (v := .tuple #[.slice (some ⟨gu, 0, none⟩) k cu, .slice (some ⟨gl, 0, none⟩) k cl, .int .i64 0]) (by simp [results, Try.results10, go_sem]) rfl ?_
      exact ⟨gu, cu, gl, cl, rfl, Z1.out, Z2.out, HW1.out.tr HB.out⟩
end Go.Proofs.Ytkonknkoggfeaaa.Ev
