/- pieces and the reference of layer 18 return the same, of any arguments; the law's count. (mkpm.py) -/
import Derived.Test.YtekeclapbfjdiaaPie6
import Derived.Test.YtekeclapbfjdiaaP18m
import Derived.Test.YtekeclapbfjdiaaEuC
import Derived.Test.YtekeclapbfjdiaaEuS
import Derived.Test.YtekeclapbfjdiaaPieAwake
import Derived.Test.YtekeclapbfjdiaaSrcR0
namespace Go.Proofs.Ytekeclapbfjdiaa.Say
open Go.ChangeShapes Go.WideShapes Go.RowKit Wo Sr Wi Ra Eu Pc
set_option linter.unusedVariables false
/-- a list and an error -/
def SomeZ (E : Int) (N : Nat) (L : List Int) (w : World) (e : Ending) (w' : World) : Prop := ∃ A c, e = .returned (.tuple #[.slice A N c, .int .i64 E]) ∧ Zi w' A N L ∧ Bel w w'
theorem zi_nil {W : World} {A : Option Addr} : Zi W A 0 [] := ⟨rfl, fun h => by omega⟩
theorem some_nil {E : Int} {w w' : World} (h : Bel w w') : SomeZ E 0 [] w (.returned (.tuple #[.slice none 0 0, .int .i64 E])) w' := ⟨none, 0, rfl, zi_nil, h⟩
def kOk (m k : Int) : Prop := 1 ≤ k ∧ k ≤ 8 ∧ k ≤ m
theorem pieces_no (m k : Int) (h : ¬ kOk m k) (w : World) :
    Calls Try.prog 58 #[.int .i64 m, .int .i64 k] w fun e w' => e = .returned (.int .i64 1) ∧ Bel w w' := by
  rcases (by unfold kOk at h; omega : k < 1 ∨ (1 ≤ k ∧ 8 < k) ∨ (1 ≤ k ∧ k ≤ 8 ∧ m < k)) with h1 | ⟨h1, h2⟩ | ⟨h1, h2, h3⟩
  · have d1 : decide (k < 1) = true := decide_eq_true h1
    go_enter Try.func58, Try.ntmps58
    go_wp2
    go_ret
    exact ⟨rfl, by first | exact Bel.rf | exact Bel.rf.drw⟩
  · have g1 : ¬ k < 1 := by omega
    have d1 : decide (k < 1) = false := decide_eq_false g1
    have d2 : decide (8 < k) = true := decide_eq_true h2
    go_enter Try.func58, Try.ntmps58
    go_wp2
    go_ret
    exact ⟨rfl, by first | exact Bel.rf | exact Bel.rf.drw⟩
  · have g1 : ¬ k < 1 := by omega
    have g2 : ¬ 8 < k := by omega
    have d1 : decide (k < 1) = false := decide_eq_false g1
    have d2 : decide (8 < k) = false := decide_eq_false g2
    have d3 : decide (m < k) = true := decide_eq_true h3
    go_enter Try.func58, Try.ntmps58
    go_wp2
    go_ret
    exact ⟨rfl, by first | exact Bel.rf | exact Bel.rf.drw⟩
theorem length_no (m : Int) (h : ¬ (2 ≤ m ∧ m ≤ 32)) (w : World) :
    Calls Try.prog 57 #[.int .i64 m] w fun e w' => e = .returned (.bool false) ∧ Bel w w' := by
  rcases (by omega : m < 2 ∨ (2 ≤ m ∧ 32 < m)) with h1 | ⟨h1, h2⟩
  · have g1 : ¬ 2 ≤ m := by omega
    have d1 : decide (2 ≤ m) = false := decide_eq_false g1
    have d4 : decide (m < 2) = true := decide_eq_true h1
    go_enter Try.func57, Try.ntmps57
    go_wp2
    go_ret
    first | exact ⟨rfl, Bel.rf⟩ | exact ⟨rfl, Bel.rf.drw⟩
  · have g1 : ¬ m ≤ 32 := by omega
    have g2 : ¬ m < 2 := by omega
    have d1 : decide (2 ≤ m) = true := decide_eq_true h1
    have d2 : decide (m ≤ 32) = false := decide_eq_false g1
    have d3 : decide (m < 2) = false := decide_eq_false g2
    have d4 : decide (32 < m) = true := decide_eq_true h2
    go_enter Try.func57, Try.ntmps57
    go_wp2
    go_ret
    first | exact ⟨rfl, Bel.rf⟩ | exact ⟨rfl, Bel.rf.drw⟩
theorem starts_len (m k : Int) (h : ¬ (2 ≤ m ∧ m ≤ 32)) (w : World) : Calls Try.prog 31 #[.int .i64 m, .int .i64 k] w (SomeZ 8 0 [] w) := by
  have HL : Hid (∀ W, _) := fun W => length_no m h W
  clear h
  go_enter Try.func31, Try.ntmps31
  go_wp2_with fail
  go_at_call 57
  refine (HL.out _).mono ?_
  rintro e w1 ⟨rfl, hb⟩
  go_wp2
  go_ret2
  exact some_nil hb
theorem starts_no (m k : Int) (hm : 2 ≤ m ∧ m ≤ 32) (h : ¬ kOk m k) (w : World) : Calls Try.prog 31 #[.int .i64 m, .int .i64 k] w (SomeZ 1 0 [] w) := by
  have HL : Hid (∀ W, _) := fun W => length_ok m hm.1 hm.2 W
  have HP : Hid (∀ W, _) := fun W => pieces_no m k h W
  clear h hm
  go_enter Try.func31, Try.ntmps31
  go_wp2_with fail
  go_at_call 57
  refine (HL.out _).mono ?_
  rintro e w1 ⟨rfl, rfl⟩
  go_wp2_with fail
  go_at_call 58
  refine (HP.out _).mono ?_
  rintro e w2 ⟨rfl, hb⟩
  go_wp2
  go_ret2
  exact some_nil hb
open Classical in
/-- the error of a window that is to be divided -/
noncomputable def ck (m : Nat) (L : List Int) (k : Int) : Int := if one m L = 0 then (if kOk m k then 0 else 1) else one m L
theorem ck_bad {m : Nat} {L : List Int} {k E : Int} (hE : ck m L k = E) (h0 : E ≠ 0) : (one m L = E ∧ E ≠ 0) ∨ (one m L = 0 ∧ ¬ kOk m k ∧ E = 1) := by
  unfold ck at hE
  split at hE
  · rename_i h1
    split at hE
    · exact absurd hE.symm h0
    · rename_i h2; exact .inr ⟨h1, h2, hE.symm⟩
  · exact .inl ⟨hE, h0⟩
theorem check_bad (A : Option Addr) (c m : Nat) (L : List Int) (k E : Int) (hE : ck m L k = E) (h0 : E ≠ 0) (hm : m ≤ 100000000) (w : World) (h1 : Zi w A m L) :
    Calls Try.prog 48 #[.slice A m c, .int .i64 k] w fun e w' => e = .returned (.int .i64 E) ∧ Bel w w' := by
  have HW := Lib.hid (window_any A c m L hm w h1)
  rcases ck_bad hE h0 with ⟨g1, g2⟩ | ⟨g1, g2, rfl⟩
  · rw [g1] at HW
    have e0 : (E == 0) = false := by rw [beq_eq_false_iff_ne]; exact g2
    clear h1 hE g1
    go_enter Try.func48, Try.ntmps48
    go_wp2_with fail
    go_at_call 45
    refine HW.out.mono ?_
    rintro e w1 ⟨rfl, hb⟩
    go_wp2
    go_ret
    exact ⟨rfl, hb⟩
  · rw [g1] at HW
    have HP : Hid (∀ W, _) := fun W => pieces_no m k g2 W
    clear h1 hE g1 g2
    go_enter Try.func48, Try.ntmps48
    go_wp2_with fail
    go_at_call 45
    refine HW.out.mono ?_
    rintro e w1 ⟨rfl, hb⟩
    go_wp2_with fail
    go_at_call 58
    refine (HP.out _).mono ?_
    rintro e w2 ⟨rfl, hb2⟩
    go_wp2
    go_ret
    exact ⟨rfl, hb.tr hb2⟩
theorem sums_bad (A : Option Addr) (c m : Nat) (L : List Int) (k E : Int) (hE : ck m L k = E) (h0 : E ≠ 0) (hm : m ≤ 100000000) (w : World) (h1 : Zi w A m L) :
    Calls Try.prog 23 #[.slice A m c, .int .i64 k] w (SomeZ E 0 [] w) := by
  have HW := Lib.hid (check_bad A c m L k E hE h0 hm w h1)
  have e0 : (E == 0) = false := by rw [beq_eq_false_iff_ne]; exact h0
  clear h1 hE
  go_enter Try.func23, Try.ntmps23
  go_wp2_with fail
  go_at_call 48
  refine HW.out.mono ?_
  rintro e w1 ⟨rfl, hb⟩
  go_wp2
  go_ret2
  exact some_nil hb
theorem cen_bad (A : Option Addr) (c m : Nat) (L : List Int) (k E : Int) (hE : ck m L k = E) (h0 : E ≠ 0) (hm : m ≤ 100000000) (w : World) (h1 : Zi w A m L) :
    Calls Try.prog 25 #[.slice A m c, .int .i64 k] w (SomeZ E 0 [] w) := by
  have HW := Lib.hid (check_bad A c m L k E hE h0 hm w h1)
  have e0 : (E == 0) = false := by rw [beq_eq_false_iff_ne]; exact h0
  clear h1 hE
  go_enter Try.func25, Try.ntmps25
  go_wp2_with fail
  go_at_call 48
  refine HW.out.mono ?_
  rintro e w1 ⟨rfl, hb⟩
  go_wp2
  go_ret2
  exact some_nil hb
open Classical in
/-- the error of two windows that are to be divided -/
noncomputable def lk (n m : Nat) (L M : List Int) (k : Int) : Int := if two n m L M 0 = 0 then (if kOk n k then 0 else 1) else two n m L M 0
theorem lk_bad {n m : Nat} {L M : List Int} {k E : Int} (hE : lk n m L M k = E) (h0 : E ≠ 0) : (two n m L M 0 = E ∧ E ≠ 0) ∨ (two n m L M 0 = 0 ∧ ¬ kOk n k ∧ E = 1) := by
  unfold lk at hE
  split at hE
  · rename_i h1
    split at hE
    · exact absurd hE.symm h0
    · rename_i h2; exact .inr ⟨h1, h2, hE.symm⟩
  · exact .inl ⟨hE, h0⟩
theorem two_one {n m : Nat} {L M : List Int} (h : two n m L M 0 = 0) : one n L = 0 := by
  unfold two at h
  split at h
  · rename_i h1
    split at h
    · rename_i h2
      unfold one; rw [if_pos h1.1, if_pos h2.1]
    · cases h
  · cases h
theorem ck_no {n : Nat} {L : List Int} {k : Int} (h : one n L = 0) (hk : ¬ kOk n k) : ck n L k = 1 := by unfold ck; rw [if_pos h, if_neg hk]
set_option maxHeartbeats 2000000 in
theorem bound_sums_bad (A A' : Option Addr) (c c' n m : Nat) (L M : List Int) (k E : Int) (hE : lk n m L M k = E) (h0 : E ≠ 0) (hn : n ≤ 100000000) (hm : m ≤ 100000000) (sc : Int) (w : World) (h1 : Zi w A n L) (h2 : Zi w A' m M) :
    Calls Try.prog 54 #[.slice A n c, .slice A' m c', .int .i64 k, .int .i64 sc, .func (.func 23) #[] #[]] w fun e w' => e = .returned (.tuple #[.agg #[.int .i64 0, .int .i64 0], .int .i64 E]) ∧ Bel w w' := by
  have HB0 : Hid (Bk (w.alloc (.cells #[.int .i64 0, .int .i64 0] 37)) w.heap.size 37 #[.int .i64 0, .int .i64 0]) := Bk.nw _ _ _
  have HE0 : Hid (Bel w (w.alloc (.cells #[.int .i64 0, .int .i64 0] 37))) := Bel.rf.al _
  have HW : Hid (∀ W, Bel w W → _) := fun W hb => windows_any A A' c c' n m L M 0 (by omega) hn hm W (h1.bel hb) (h2.bel hb)
  rcases lk_bad hE h0 with ⟨g1, g2⟩ | ⟨g1, g2, rfl⟩
  · rw [g1] at HW
    have e0 : (E == 0) = false := by rw [beq_eq_false_iff_ne]; exact g2
    clear h1 h2 hE g1 g2
    go_enter Try.func54, Try.ntmps54
    go_wp2_with fail
    go_at_call 39
    refine (HW.out _ HE0.out).mono ?_
    rintro e w1 ⟨rfl, hb⟩
    have HB1 := Lib.hid (HB0.out.bel hb)
    have HE1 := Lib.hid (HE0.out.tr hb)
    clear hb
    have r0 : w1.cell? ⟨w.heap.size, 0, none⟩ = some (.int .i64 0) := HB1.out.cell 0
    have r1 : w1.cell? ⟨w.heap.size, 1, none⟩ = some (.int .i64 0) := HB1.out.cell 1
    have f0 : w1.frozen? ⟨w.heap.size, 0, none⟩ = false := HB1.out.fr 0
    have f1 : w1.frozen? ⟨w.heap.size, 1, none⟩ = false := HB1.out.fr 1
    go_wp2
    have HF : Hid (Bk ((w1.setCell ⟨w.heap.size, 0, none⟩ (.int .i64 0)).setCell ⟨w.heap.size, 1, none⟩ (.int .i64 0)) w.heap.size 37 #[.int .i64 0, .int .i64 0]) := (HB1.out.st 0 _).st 1 _
    have HE : Hid (Bel w ((w1.setCell ⟨w.heap.size, 0, none⟩ (.int .i64 0)).setCell ⟨w.heap.size, 1, none⟩ (.int .i64 0))) := Bel.st2 (Nat.le_refl _) (Bel.st2 (Nat.le_refl _) HE1.out _) _
    exact bodyPost_ret (v := .tuple #[.agg #[.int .i64 0, .int .i64 0], .int .i64 E]) (results_rt Try.results54 _ _ w.heap.size _ _ rfl (HF.out.bel (by repeat (first | exact Bel.rf | (with_reducible refine Bel.drwN ?_ _) | (with_reducible refine Bel.drw ?_) | (with_reducible refine Bel.al ?_ _))))) rfl ⟨rfl, HE.out.tr (by repeat (first | exact Bel.rf | (with_reducible refine Bel.drwN ?_ _) | (with_reducible refine Bel.drw ?_) | (with_reducible refine Bel.al ?_ _)))⟩
  · rw [g1] at HW
    have HS : Hid (∀ W, Bel w W → _) := fun W hb => sums_bad A c n L k 1 (ck_no (two_one g1) g2) (by decide) hn W (h1.bel hb)
    clear h1 h2 hE g1 g2 h0
    go_enter Try.func54, Try.ntmps54
    go_wp2_with fail
    go_at_call 39
    refine (HW.out _ HE0.out).mono ?_
    rintro e w1 ⟨rfl, hb⟩
    have HB1 := Lib.hid (HB0.out.bel hb)
    have HE1 := Lib.hid (HE0.out.tr hb)
    clear hb
    go_wp2_with fail
    go_at_call 23
    refine (HS.out _ HE1.out).mono ?_
    rintro e w2 ⟨b1, b2, rfl, _, hb⟩
    have HB2 := Lib.hid (HB1.out.bel hb)
    have HE2 := Lib.hid (HE1.out.tr hb)
    clear hb
    have r0 : w2.cell? ⟨w.heap.size, 0, none⟩ = some (.int .i64 0) := HB2.out.cell 0
    have r1 : w2.cell? ⟨w.heap.size, 1, none⟩ = some (.int .i64 0) := HB2.out.cell 1
    have f0 : w2.frozen? ⟨w.heap.size, 0, none⟩ = false := HB2.out.fr 0
    have f1 : w2.frozen? ⟨w.heap.size, 1, none⟩ = false := HB2.out.fr 1
    go_wp2
    have HF : Hid (Bk ((w2.setCell ⟨w.heap.size, 0, none⟩ (.int .i64 0)).setCell ⟨w.heap.size, 1, none⟩ (.int .i64 0)) w.heap.size 37 #[.int .i64 0, .int .i64 0]) := (HB2.out.st 0 _).st 1 _
    have HE : Hid (Bel w ((w2.setCell ⟨w.heap.size, 0, none⟩ (.int .i64 0)).setCell ⟨w.heap.size, 1, none⟩ (.int .i64 0))) := Bel.st2 (Nat.le_refl _) (Bel.st2 (Nat.le_refl _) HE2.out _) _
    exact bodyPost_ret (v := .tuple #[.agg #[.int .i64 0, .int .i64 0], .int .i64 1]) (results_rt Try.results54 _ _ w.heap.size _ _ rfl (HF.out.bel (by repeat (first | exact Bel.rf | (with_reducible refine Bel.drwN ?_ _) | (with_reducible refine Bel.drw ?_) | (with_reducible refine Bel.al ?_ _))))) rfl ⟨rfl, HE.out.tr (by repeat (first | exact Bel.rf | (with_reducible refine Bel.drwN ?_ _) | (with_reducible refine Bel.drw ?_) | (with_reducible refine Bel.al ?_ _)))⟩
set_option maxHeartbeats 2000000 in
theorem bound_cen_bad (A A' : Option Addr) (c c' n m : Nat) (L M : List Int) (k E : Int) (hE : lk n m L M k = E) (h0 : E ≠ 0) (hn : n ≤ 100000000) (hm : m ≤ 100000000) (sc : Int) (w : World) (h1 : Zi w A n L) (h2 : Zi w A' m M) :
    Calls Try.prog 54 #[.slice A n c, .slice A' m c', .int .i64 k, .int .i64 sc, .func (.func 25) #[] #[]] w fun e w' => e = .returned (.tuple #[.agg #[.int .i64 0, .int .i64 0], .int .i64 E]) ∧ Bel w w' := by
  have HB0 : Hid (Bk (w.alloc (.cells #[.int .i64 0, .int .i64 0] 37)) w.heap.size 37 #[.int .i64 0, .int .i64 0]) := Bk.nw _ _ _
  have HE0 : Hid (Bel w (w.alloc (.cells #[.int .i64 0, .int .i64 0] 37))) := Bel.rf.al _
  have HW : Hid (∀ W, Bel w W → _) := fun W hb => windows_any A A' c c' n m L M 0 (by omega) hn hm W (h1.bel hb) (h2.bel hb)
  rcases lk_bad hE h0 with ⟨g1, g2⟩ | ⟨g1, g2, rfl⟩
  · rw [g1] at HW
    have e0 : (E == 0) = false := by rw [beq_eq_false_iff_ne]; exact g2
    clear h1 h2 hE g1 g2
    go_enter Try.func54, Try.ntmps54
    go_wp2_with fail
    go_at_call 39
    refine (HW.out _ HE0.out).mono ?_
    rintro e w1 ⟨rfl, hb⟩
    have HB1 := Lib.hid (HB0.out.bel hb)
    have HE1 := Lib.hid (HE0.out.tr hb)
    clear hb
    have r0 : w1.cell? ⟨w.heap.size, 0, none⟩ = some (.int .i64 0) := HB1.out.cell 0
    have r1 : w1.cell? ⟨w.heap.size, 1, none⟩ = some (.int .i64 0) := HB1.out.cell 1
    have f0 : w1.frozen? ⟨w.heap.size, 0, none⟩ = false := HB1.out.fr 0
    have f1 : w1.frozen? ⟨w.heap.size, 1, none⟩ = false := HB1.out.fr 1
    go_wp2
    have HF : Hid (Bk ((w1.setCell ⟨w.heap.size, 0, none⟩ (.int .i64 0)).setCell ⟨w.heap.size, 1, none⟩ (.int .i64 0)) w.heap.size 37 #[.int .i64 0, .int .i64 0]) := (HB1.out.st 0 _).st 1 _
    have HE : Hid (Bel w ((w1.setCell ⟨w.heap.size, 0, none⟩ (.int .i64 0)).setCell ⟨w.heap.size, 1, none⟩ (.int .i64 0))) := Bel.st2 (Nat.le_refl _) (Bel.st2 (Nat.le_refl _) HE1.out _) _
    exact bodyPost_ret (v := .tuple #[.agg #[.int .i64 0, .int .i64 0], .int .i64 E]) (results_rt Try.results54 _ _ w.heap.size _ _ rfl (HF.out.bel (by repeat (first | exact Bel.rf | (with_reducible refine Bel.drwN ?_ _) | (with_reducible refine Bel.drw ?_) | (with_reducible refine Bel.al ?_ _))))) rfl ⟨rfl, HE.out.tr (by repeat (first | exact Bel.rf | (with_reducible refine Bel.drwN ?_ _) | (with_reducible refine Bel.drw ?_) | (with_reducible refine Bel.al ?_ _)))⟩
  · rw [g1] at HW
    have HS : Hid (∀ W, Bel w W → _) := fun W hb => cen_bad A c n L k 1 (ck_no (two_one g1) g2) (by decide) hn W (h1.bel hb)
    clear h1 h2 hE g1 g2 h0
    go_enter Try.func54, Try.ntmps54
    go_wp2_with fail
    go_at_call 39
    refine (HW.out _ HE0.out).mono ?_
    rintro e w1 ⟨rfl, hb⟩
    have HB1 := Lib.hid (HB0.out.bel hb)
    have HE1 := Lib.hid (HE0.out.tr hb)
    clear hb
    go_wp2_with fail
    go_at_call 25
    refine (HS.out _ HE1.out).mono ?_
    rintro e w2 ⟨b1, b2, rfl, _, hb⟩
    have HB2 := Lib.hid (HB1.out.bel hb)
    have HE2 := Lib.hid (HE1.out.tr hb)
    clear hb
    have r0 : w2.cell? ⟨w.heap.size, 0, none⟩ = some (.int .i64 0) := HB2.out.cell 0
    have r1 : w2.cell? ⟨w.heap.size, 1, none⟩ = some (.int .i64 0) := HB2.out.cell 1
    have f0 : w2.frozen? ⟨w.heap.size, 0, none⟩ = false := HB2.out.fr 0
    have f1 : w2.frozen? ⟨w.heap.size, 1, none⟩ = false := HB2.out.fr 1
    go_wp2
    have HF : Hid (Bk ((w2.setCell ⟨w.heap.size, 0, none⟩ (.int .i64 0)).setCell ⟨w.heap.size, 1, none⟩ (.int .i64 0)) w.heap.size 37 #[.int .i64 0, .int .i64 0]) := (HB2.out.st 0 _).st 1 _
    have HE : Hid (Bel w ((w2.setCell ⟨w.heap.size, 0, none⟩ (.int .i64 0)).setCell ⟨w.heap.size, 1, none⟩ (.int .i64 0))) := Bel.st2 (Nat.le_refl _) (Bel.st2 (Nat.le_refl _) HE2.out _) _
    exact bodyPost_ret (v := .tuple #[.agg #[.int .i64 0, .int .i64 0], .int .i64 1]) (results_rt Try.results54 _ _ w.heap.size _ _ rfl (HF.out.bel (by repeat (first | exact Bel.rf | (with_reducible refine Bel.drwN ?_ _) | (with_reducible refine Bel.drw ?_) | (with_reducible refine Bel.al ?_ _))))) rfl ⟨rfl, HE.out.tr (by repeat (first | exact Bel.rf | (with_reducible refine Bel.drwN ?_ _) | (with_reducible refine Bel.drw ?_) | (with_reducible refine Bel.al ?_ _)))⟩
set_option maxHeartbeats 2000000 in
theorem lower_bad (A A' : Option Addr) (c c' n m : Nat) (L M : List Int) (k E : Int) (hE : lk n m L M k = E) (h0 : E ≠ 0) (hn : n ≤ 100000000) (hm : m ≤ 100000000) (w : World) (h1 : Zi w A n L) (h2 : Zi w A' m M) :
    Calls Try.prog 27 #[.slice A n c, .slice A' m c', .int .i64 k] w fun e w' => e = .returned (.tuple #[.agg #[.int .i64 0, .int .i64 0], .int .i64 E]) ∧ Bel w w' := by
  have HB0 : Hid (Bk (w.alloc (.cells #[.int .i64 0, .int .i64 0] 37)) w.heap.size 37 #[.int .i64 0, .int .i64 0]) := Bk.nw _ _ _
  have HE0 : Hid (Bel w (w.alloc (.cells #[.int .i64 0, .int .i64 0] 37))) := Bel.rf.al _
  have HW : Hid (∀ W, Bel w W → _) := fun W hb => bound_sums_bad A A' c c' n m L M k E hE h0 hn hm 1 W (h1.bel hb) (h2.bel hb)
  clear h1 h2 hE h0
  go_enter Try.func27, Try.ntmps27
  go_wp2_with fail
  go_at_call 54
  refine (HW.out _ HE0.out).mono ?_
  rintro e w1 ⟨rfl, hb⟩
  have HB1 := Lib.hid (HB0.out.bel hb)
  have HE1 := Lib.hid (HE0.out.tr hb)
  clear hb
  have r0 : w1.cell? ⟨w.heap.size, 0, none⟩ = some (.int .i64 0) := HB1.out.cell 0
  have r1 : w1.cell? ⟨w.heap.size, 1, none⟩ = some (.int .i64 0) := HB1.out.cell 1
  have f0 : w1.frozen? ⟨w.heap.size, 0, none⟩ = false := HB1.out.fr 0
  have f1 : w1.frozen? ⟨w.heap.size, 1, none⟩ = false := HB1.out.fr 1
  go_wp2
  have HF : Hid (Bk ((w1.setCell ⟨w.heap.size, 0, none⟩ (.int .i64 0)).setCell ⟨w.heap.size, 1, none⟩ (.int .i64 0)) w.heap.size 37 #[.int .i64 0, .int .i64 0]) := (HB1.out.st 0 _).st 1 _
  have HE : Hid (Bel w ((w1.setCell ⟨w.heap.size, 0, none⟩ (.int .i64 0)).setCell ⟨w.heap.size, 1, none⟩ (.int .i64 0))) := Bel.st2 (Nat.le_refl _) (Bel.st2 (Nat.le_refl _) HE1.out _) _
  exact bodyPost_ret (v := .tuple #[.agg #[.int .i64 0, .int .i64 0], .int .i64 E]) (results_rt Try.results27 _ _ w.heap.size _ _ rfl (HF.out.bel (by repeat (first | exact Bel.rf | (with_reducible refine Bel.drwN ?_ _) | (with_reducible refine Bel.drw ?_) | (with_reducible refine Bel.al ?_ _))))) rfl ⟨rfl, HE.out.tr (by repeat (first | exact Bel.rf | (with_reducible refine Bel.drwN ?_ _) | (with_reducible refine Bel.drw ?_) | (with_reducible refine Bel.al ?_ _)))⟩
set_option maxHeartbeats 2000000 in
theorem pshift_bad (A A' : Option Addr) (c c' n m : Nat) (L M : List Int) (k E : Int) (hE : lk n m L M k = E) (h0 : E ≠ 0) (hn : n ≤ 100000000) (hm : m ≤ 100000000) (w : World) (h1 : Zi w A n L) (h2 : Zi w A' m M) :
    Calls Try.prog 29 #[.slice A n c, .slice A' m c', .int .i64 k] w fun e w' => e = .returned (.tuple #[.agg #[.int .i64 0, .int .i64 0], .int .i64 E]) ∧ Bel w w' := by
  have HB0 : Hid (Bk (w.alloc (.cells #[.int .i64 0, .int .i64 0] 37)) w.heap.size 37 #[.int .i64 0, .int .i64 0]) := Bk.nw _ _ _
  have HE0 : Hid (Bel w (w.alloc (.cells #[.int .i64 0, .int .i64 0] 37))) := Bel.rf.al _
  have HW : Hid (∀ sc W, Bel w W → _) := fun sc W hb => bound_cen_bad A A' c c' n m L M k E hE h0 hn hm sc W (h1.bel hb) (h2.bel hb)
  clear h1 h2 hE h0
  go_enter Try.func29, Try.ntmps29
  go_wp2_with fail
  go_at_call 54
  refine (HW.out _ _ HE0.out).mono ?_
  rintro e w1 ⟨rfl, hb⟩
  have HB1 := Lib.hid (HB0.out.bel hb)
  have HE1 := Lib.hid (HE0.out.tr hb)
  clear hb
  have r0 : w1.cell? ⟨w.heap.size, 0, none⟩ = some (.int .i64 0) := HB1.out.cell 0
  have r1 : w1.cell? ⟨w.heap.size, 1, none⟩ = some (.int .i64 0) := HB1.out.cell 1
  have f0 : w1.frozen? ⟨w.heap.size, 0, none⟩ = false := HB1.out.fr 0
  have f1 : w1.frozen? ⟨w.heap.size, 1, none⟩ = false := HB1.out.fr 1
  go_wp2
  have HF : Hid (Bk ((w1.setCell ⟨w.heap.size, 0, none⟩ (.int .i64 0)).setCell ⟨w.heap.size, 1, none⟩ (.int .i64 0)) w.heap.size 37 #[.int .i64 0, .int .i64 0]) := (HB1.out.st 0 _).st 1 _
  have HE : Hid (Bel w ((w1.setCell ⟨w.heap.size, 0, none⟩ (.int .i64 0)).setCell ⟨w.heap.size, 1, none⟩ (.int .i64 0))) := Bel.st2 (Nat.le_refl _) (Bel.st2 (Nat.le_refl _) HE1.out _) _
  exact bodyPost_ret (v := .tuple #[.agg #[.int .i64 0, .int .i64 0], .int .i64 E]) (results_rt Try.results29 _ _ w.heap.size _ _ rfl (HF.out.bel (by repeat (first | exact Bel.rf | (with_reducible refine Bel.drwN ?_ _) | (with_reducible refine Bel.drw ?_) | (with_reducible refine Bel.al ?_ _))))) rfl ⟨rfl, HE.out.tr (by repeat (first | exact Bel.rf | (with_reducible refine Bel.drwN ?_ _) | (with_reducible refine Bel.drw ?_) | (with_reducible refine Bel.al ?_ _)))⟩
end Go.Proofs.Ytekeclapbfjdiaa.Say
namespace Go.Proofs.Ytekeclapbfjdiaa.Say
open Go.ChangeShapes Go.WideShapes Go.RowKit Wo Sr Wi Ra Eu Pc R18
set_option linter.unusedVariables false
theorem rstarts_len (m k : Int) (h : ¬ (2 ≤ m ∧ m ≤ 32)) (w : World) : Calls Try.prog 32 #[.int .i64 m, .int .i64 k] w (SomeZ 8 0 [] w) := by
  rcases (by omega : m < 2 ∨ (2 ≤ m ∧ 32 < m)) with h1 | ⟨h1, h2⟩
  · have g1 : ¬ 2 ≤ m := by omega
    have d1 : decide (2 ≤ m) = false := decide_eq_false g1
    have d4 : decide (m < 2) = true := decide_eq_true h1
    go_enter Try.func32, Try.ntmps32
    go_wp2
    go_ret2
    exact some_nil (by repeat (first | exact Bel.rf | (with_reducible refine Bel.drwN ?_ _) | (with_reducible refine Bel.drw ?_) | (with_reducible refine Bel.al ?_ _)))
  · have g1 : ¬ m ≤ 32 := by omega
    have g2 : ¬ m < 2 := by omega
    have d1 : decide (2 ≤ m) = true := decide_eq_true h1
    have d2 : decide (m ≤ 32) = false := decide_eq_false g1
    have d3 : decide (m < 2) = false := decide_eq_false g2
    have d4 : decide (32 < m) = true := decide_eq_true h2
    go_enter Try.func32, Try.ntmps32
    go_wp2
    go_ret2
    exact some_nil (by repeat (first | exact Bel.rf | (with_reducible refine Bel.drwN ?_ _) | (with_reducible refine Bel.drw ?_) | (with_reducible refine Bel.al ?_ _)))
theorem rstarts_no (m k : Int) (hm : 2 ≤ m ∧ m ≤ 32) (h : ¬ kOk m k) (w : World) : Calls Try.prog 32 #[.int .i64 m, .int .i64 k] w (SomeZ 1 0 [] w) := by
  obtain ⟨m1, m2⟩ := hm
  have q1 : ¬ m < 2 := by omega
  have q2 : ¬ 32 < m := by omega
  have q3 : decide (m < 2) = false := decide_eq_false q1
  have q4 : decide (32 < m) = false := decide_eq_false q2
  rcases (by unfold kOk at h; omega : k < 1 ∨ (1 ≤ k ∧ 8 < k) ∨ (1 ≤ k ∧ k ≤ 8 ∧ m < k)) with h1 | ⟨h1, h2⟩ | ⟨h1, h2, h3⟩
  · have d1 : decide (k < 1) = true := decide_eq_true h1
    go_enter Try.func32, Try.ntmps32
    go_wp2
    go_ret2
    exact some_nil (by repeat (first | exact Bel.rf | (with_reducible refine Bel.drwN ?_ _) | (with_reducible refine Bel.drw ?_) | (with_reducible refine Bel.al ?_ _)))
  · have g1 : ¬ k < 1 := by omega
    have d1 : decide (k < 1) = false := decide_eq_false g1
    have d2 : decide (8 < k) = true := decide_eq_true h2
    go_enter Try.func32, Try.ntmps32
    go_wp2
    go_ret2
    exact some_nil (by repeat (first | exact Bel.rf | (with_reducible refine Bel.drwN ?_ _) | (with_reducible refine Bel.drw ?_) | (with_reducible refine Bel.al ?_ _)))
  · have g1 : ¬ k < 1 := by omega
    have g2 : ¬ 8 < k := by omega
    have d1 : decide (k < 1) = false := decide_eq_false g1
    have d2 : decide (8 < k) = false := decide_eq_false g2
    have d3 : decide (m < k) = true := decide_eq_true h3
    go_enter Try.func32, Try.ntmps32
    go_wp2
    go_ret2
    exact some_nil (by repeat (first | exact Bel.rf | (with_reducible refine Bel.drwN ?_ _) | (with_reducible refine Bel.drw ?_) | (with_reducible refine Bel.al ?_ _)))
theorem one_yes' {n : Nat} {L : List Int} (h : one n L = 0) : lenOk n ∧ Sam L := by
  unfold one at h
  split at h
  · rename_i h1
    split at h
    · rename_i h2; exact ⟨h1, all_sam h2⟩
    · cases h
  · cases h
theorem len_in {m : Nat} {L : List Int} (h : one m L = 0) : 2 ≤ (m : Int) ∧ (m : Int) ≤ 32 := by have := (one_yes' h).1; unfold lenOk at this; omega
theorem rsums_bad (A : Option Addr) (c m : Nat) (L : List Int) (k E : Int) (hE : ck m L k = E) (h0 : E ≠ 0) (hm : m ≤ 100000000) (w : World) (h1 : Zi w A m L) :
    Calls Try.prog 24 #[.slice A m c, .int .i64 k] w (SomeZ E 0 [] w) := by
  have HW := Lib.hid (rwindow_any A c m L hm w h1)
  rcases ck_bad hE h0 with ⟨g1, g2⟩ | ⟨g1, g2, rfl⟩
  · rw [g1] at HW
    have e0 : (E == 0) = false := by rw [beq_eq_false_iff_ne]; exact g2
    clear h1 hE g1 g2
    go_enter Try.func24, Try.ntmps24
    go_wp2_with fail
    go_at_call 50
    refine HW.out.mono ?_
    rintro e w1 ⟨rfl, hb⟩
    go_wp2
    go_ret2
    exact some_nil hb
  · rw [g1] at HW
    have HP : Hid (∀ W, _) := fun W => rstarts_no m k (len_in g1) g2 W
    clear h1 hE g1 g2
    go_enter Try.func24, Try.ntmps24
    go_wp2_with fail
    go_at_call 50
    refine HW.out.mono ?_
    rintro e w1 ⟨rfl, hb⟩
    go_wp2_with fail
    go_at_call 32
    refine (HP.out _).mono ?_
    rintro e w2 ⟨b1, b2, rfl, _, hb2⟩
    go_wp2
    go_ret2
    exact some_nil (hb.tr hb2)
theorem rcen13_bad (A : Option Addr) (c m : Nat) (L : List Int) (E : Int) (hE : one m L = E) (h0 : E ≠ 0) (hm : m ≤ 100000000) (w : World) (h1 : Zi w A m L) :
    Calls Try.prog 53 #[.slice A m c] w (SomeZ E 0 [] w) := by
  have HW := Lib.hid (rwindow_any A c m L hm w h1)
  rw [hE] at HW
  have e0 : (E == 0) = false := by rw [beq_eq_false_iff_ne]; exact h0
  clear h1 hE h0
  go_enter Try.func53, Try.ntmps53
  go_wp2_with fail
  go_at_call 50
  refine HW.out.mono ?_
  rintro e w1 ⟨rfl, hb⟩
  go_wp2
  go_ret2
  exact some_nil hb
theorem rcens_bad (A : Option Addr) (c m : Nat) (L : List Int) (k E : Int) (hE : ck m L k = E) (h0 : E ≠ 0) (hm : m ≤ 100000000) (w : World) (h1 : Zi w A m L) :
    Calls Try.prog 26 #[.slice A m c, .int .i64 k] w (SomeZ E 0 [] w) := by
  rcases ck_bad hE h0 with ⟨g1, g2⟩ | ⟨g1, g2, rfl⟩
  · have HW := Lib.hid (rcen13_bad A c m L E g1 g2 hm w h1)
    have e0 : (E == 0) = false := by rw [beq_eq_false_iff_ne]; exact g2
    clear h1 hE g1 g2
    go_enter Try.func26, Try.ntmps26
    go_wp2_with fail
    go_at_call 53
    refine HW.out.mono ?_
    rintro e w1 ⟨b1, b2, rfl, _, hb⟩
    go_wp2
    go_ret2
    exact some_nil hb
  · obtain ⟨⟨m1, m2⟩, hs⟩ := one_yes' g1
    obtain ⟨ad, rfl, _, _⟩ := h1.2 (by omega)
    have HW := Lib.hid (rcen_ok ad c m L m1 m2 hs w h1)
    have HP : Hid (∀ W, _) := fun W => rstarts_no m k (len_in g1) g2 W
    clear h1 hE g1 g2
    go_enter Try.func26, Try.ntmps26
    go_wp2_with fail
    go_at_call 53
    refine HW.out.mono ?_
    rintro e w1 ⟨b1, b2, rfl, _, hb⟩
    go_wp2_with fail
    go_at_call 32
    refine (HP.out _).mono ?_
    rintro e w2 ⟨b3, b4, rfl, _, hb2⟩
    go_wp2
    go_ret2
    exact some_nil (hb.tr hb2)
set_option maxHeartbeats 2000000 in
theorem rlower_bad (A A' : Option Addr) (c c' n m : Nat) (L M : List Int) (k E : Int) (hE : lk n m L M k = E) (h0 : E ≠ 0) (hn : n ≤ 100000000) (hm : m ≤ 100000000) (w : World) (h1 : Zi w A n L) (h2 : Zi w A' m M) :
    Calls Try.prog 28 #[.slice A n c, .slice A' m c', .int .i64 k] w fun e w' => e = .returned (.tuple #[.agg #[.int .i64 0, .int .i64 0], .int .i64 E]) ∧ Bel w w' := by
  have HB0 : Hid (Bk (w.alloc (.cells #[.int .i64 0, .int .i64 0] 37)) w.heap.size 37 #[.int .i64 0, .int .i64 0]) := Bk.nw _ _ _
  have HE0 : Hid (Bel w (w.alloc (.cells #[.int .i64 0, .int .i64 0] 37))) := Bel.rf.al _
  have HW : Hid (∀ W, Bel w W → _) := fun W hb => rtwo_any A A' c c' n m L M 0 (by omega) hn hm W (h1.bel hb) (h2.bel hb)
  rcases lk_bad hE h0 with ⟨g1, g2⟩ | ⟨g1, g2, rfl⟩
  · rw [g1] at HW
    have e0 : (E == 0) = false := by rw [beq_eq_false_iff_ne]; exact g2
    clear h1 h2 hE g1 g2
    go_enter Try.func28, Try.ntmps28
    go_wp2_with fail
    go_at_call 41
    refine (HW.out _ HE0.out).mono ?_
    rintro e w1 ⟨rfl, hb⟩
    have HB1 := Lib.hid (HB0.out.bel hb)
    have HE1 := Lib.hid (HE0.out.tr hb)
    clear hb
    have r0 : w1.cell? ⟨w.heap.size, 0, none⟩ = some (.int .i64 0) := HB1.out.cell 0
    have r1 : w1.cell? ⟨w.heap.size, 1, none⟩ = some (.int .i64 0) := HB1.out.cell 1
    have f0 : w1.frozen? ⟨w.heap.size, 0, none⟩ = false := HB1.out.fr 0
    have f1 : w1.frozen? ⟨w.heap.size, 1, none⟩ = false := HB1.out.fr 1
    go_wp2
    have HF : Hid (Bk ((w1.setCell ⟨w.heap.size, 0, none⟩ (.int .i64 0)).setCell ⟨w.heap.size, 1, none⟩ (.int .i64 0)) w.heap.size 37 #[.int .i64 0, .int .i64 0]) := (HB1.out.st 0 _).st 1 _
    have HE : Hid (Bel w ((w1.setCell ⟨w.heap.size, 0, none⟩ (.int .i64 0)).setCell ⟨w.heap.size, 1, none⟩ (.int .i64 0))) := Bel.st2 (Nat.le_refl _) (Bel.st2 (Nat.le_refl _) HE1.out _) _
    exact bodyPost_ret (v := .tuple #[.agg #[.int .i64 0, .int .i64 0], .int .i64 E]) (results_rt Try.results28 _ _ w.heap.size _ _ rfl (HF.out.bel (by repeat (first | exact Bel.rf | (with_reducible refine Bel.drwN ?_ _) | (with_reducible refine Bel.drw ?_) | (with_reducible refine Bel.al ?_ _))))) rfl ⟨rfl, HE.out.tr (by repeat (first | exact Bel.rf | (with_reducible refine Bel.drwN ?_ _) | (with_reducible refine Bel.drw ?_) | (with_reducible refine Bel.al ?_ _)))⟩
  · rw [g1] at HW
    have HS : Hid (∀ W, Bel w W → _) := fun W _ => rstarts_no n k (len_in (two_one g1)) g2 W
    clear h1 h2 hE g1 g2 h0
    go_enter Try.func28, Try.ntmps28
    go_wp2_with fail
    go_at_call 41
    refine (HW.out _ HE0.out).mono ?_
    rintro e w1 ⟨rfl, hb⟩
    have HB1 := Lib.hid (HB0.out.bel hb)
    have HE1 := Lib.hid (HE0.out.tr hb)
    clear hb
    go_wp2_with fail
    go_at_call 32
    refine (HS.out _ HE1.out).mono ?_
    rintro e w2 ⟨b1, b2, rfl, _, hb⟩
    have HB2 := Lib.hid (HB1.out.bel hb)
    have HE2 := Lib.hid (HE1.out.tr hb)
    clear hb
    have r0 : w2.cell? ⟨w.heap.size, 0, none⟩ = some (.int .i64 0) := HB2.out.cell 0
    have r1 : w2.cell? ⟨w.heap.size, 1, none⟩ = some (.int .i64 0) := HB2.out.cell 1
    have f0 : w2.frozen? ⟨w.heap.size, 0, none⟩ = false := HB2.out.fr 0
    have f1 : w2.frozen? ⟨w.heap.size, 1, none⟩ = false := HB2.out.fr 1
    go_wp2
    have HF : Hid (Bk ((w2.setCell ⟨w.heap.size, 0, none⟩ (.int .i64 0)).setCell ⟨w.heap.size, 1, none⟩ (.int .i64 0)) w.heap.size 37 #[.int .i64 0, .int .i64 0]) := (HB2.out.st 0 _).st 1 _
    have HE : Hid (Bel w ((w2.setCell ⟨w.heap.size, 0, none⟩ (.int .i64 0)).setCell ⟨w.heap.size, 1, none⟩ (.int .i64 0))) := Bel.st2 (Nat.le_refl _) (Bel.st2 (Nat.le_refl _) HE2.out _) _
    exact bodyPost_ret (v := .tuple #[.agg #[.int .i64 0, .int .i64 0], .int .i64 1]) (results_rt Try.results28 _ _ w.heap.size _ _ rfl (HF.out.bel (by repeat (first | exact Bel.rf | (with_reducible refine Bel.drwN ?_ _) | (with_reducible refine Bel.drw ?_) | (with_reducible refine Bel.al ?_ _))))) rfl ⟨rfl, HE.out.tr (by repeat (first | exact Bel.rf | (with_reducible refine Bel.drwN ?_ _) | (with_reducible refine Bel.drw ?_) | (with_reducible refine Bel.al ?_ _)))⟩
set_option maxHeartbeats 2000000 in
theorem rpshift_bad (A A' : Option Addr) (c c' n m : Nat) (L M : List Int) (k E : Int) (hE : lk n m L M k = E) (h0 : E ≠ 0) (hn : n ≤ 100000000) (hm : m ≤ 100000000) (w : World) (h1 : Zi w A n L) (h2 : Zi w A' m M) :
    Calls Try.prog 30 #[.slice A n c, .slice A' m c', .int .i64 k] w fun e w' => e = .returned (.tuple #[.agg #[.int .i64 0, .int .i64 0], .int .i64 E]) ∧ Bel w w' := by
  have HB0 : Hid (Bk (w.alloc (.cells #[.int .i64 0, .int .i64 0] 37)) w.heap.size 37 #[.int .i64 0, .int .i64 0]) := Bk.nw _ _ _
  have HE0 : Hid (Bel w (w.alloc (.cells #[.int .i64 0, .int .i64 0] 37))) := Bel.rf.al _
  have HW : Hid (∀ W, Bel w W → _) := fun W hb => rtwo_any A A' c c' n m L M 0 (by omega) hn hm W (h1.bel hb) (h2.bel hb)
  rcases lk_bad hE h0 with ⟨g1, g2⟩ | ⟨g1, g2, rfl⟩
  · rw [g1] at HW
    have e0 : (E == 0) = false := by rw [beq_eq_false_iff_ne]; exact g2
    clear h1 h2 hE g1 g2
    go_enter Try.func30, Try.ntmps30
    go_wp2_with fail
    go_at_call 41
    refine (HW.out _ HE0.out).mono ?_
    rintro e w1 ⟨rfl, hb⟩
    have HB1 := Lib.hid (HB0.out.bel hb)
    have HE1 := Lib.hid (HE0.out.tr hb)
    clear hb
    have r0 : w1.cell? ⟨w.heap.size, 0, none⟩ = some (.int .i64 0) := HB1.out.cell 0
    have r1 : w1.cell? ⟨w.heap.size, 1, none⟩ = some (.int .i64 0) := HB1.out.cell 1
    have f0 : w1.frozen? ⟨w.heap.size, 0, none⟩ = false := HB1.out.fr 0
    have f1 : w1.frozen? ⟨w.heap.size, 1, none⟩ = false := HB1.out.fr 1
    go_wp2
    have HF : Hid (Bk ((w1.setCell ⟨w.heap.size, 0, none⟩ (.int .i64 0)).setCell ⟨w.heap.size, 1, none⟩ (.int .i64 0)) w.heap.size 37 #[.int .i64 0, .int .i64 0]) := (HB1.out.st 0 _).st 1 _
    have HE : Hid (Bel w ((w1.setCell ⟨w.heap.size, 0, none⟩ (.int .i64 0)).setCell ⟨w.heap.size, 1, none⟩ (.int .i64 0))) := Bel.st2 (Nat.le_refl _) (Bel.st2 (Nat.le_refl _) HE1.out _) _
    exact bodyPost_ret (v := .tuple #[.agg #[.int .i64 0, .int .i64 0], .int .i64 E]) (results_rt Try.results30 _ _ w.heap.size _ _ rfl (HF.out.bel (by repeat (first | exact Bel.rf | (with_reducible refine Bel.drwN ?_ _) | (with_reducible refine Bel.drw ?_) | (with_reducible refine Bel.al ?_ _))))) rfl ⟨rfl, HE.out.tr (by repeat (first | exact Bel.rf | (with_reducible refine Bel.drwN ?_ _) | (with_reducible refine Bel.drw ?_) | (with_reducible refine Bel.al ?_ _)))⟩
  · rw [g1] at HW
    have HS : Hid (∀ W, Bel w W → _) := fun W _ => rstarts_no n k (len_in (two_one g1)) g2 W
    clear h1 h2 hE g1 g2 h0
    go_enter Try.func30, Try.ntmps30
    go_wp2_with fail
    go_at_call 41
    refine (HW.out _ HE0.out).mono ?_
    rintro e w1 ⟨rfl, hb⟩
    have HB1 := Lib.hid (HB0.out.bel hb)
    have HE1 := Lib.hid (HE0.out.tr hb)
    clear hb
    go_wp2_with fail
    go_at_call 32
    refine (HS.out _ HE1.out).mono ?_
    rintro e w2 ⟨b1, b2, rfl, _, hb⟩
    have HB2 := Lib.hid (HB1.out.bel hb)
    have HE2 := Lib.hid (HE1.out.tr hb)
    clear hb
    have r0 : w2.cell? ⟨w.heap.size, 0, none⟩ = some (.int .i64 0) := HB2.out.cell 0
    have r1 : w2.cell? ⟨w.heap.size, 1, none⟩ = some (.int .i64 0) := HB2.out.cell 1
    have f0 : w2.frozen? ⟨w.heap.size, 0, none⟩ = false := HB2.out.fr 0
    have f1 : w2.frozen? ⟨w.heap.size, 1, none⟩ = false := HB2.out.fr 1
    go_wp2
    have HF : Hid (Bk ((w2.setCell ⟨w.heap.size, 0, none⟩ (.int .i64 0)).setCell ⟨w.heap.size, 1, none⟩ (.int .i64 0)) w.heap.size 37 #[.int .i64 0, .int .i64 0]) := (HB2.out.st 0 _).st 1 _
    have HE : Hid (Bel w ((w2.setCell ⟨w.heap.size, 0, none⟩ (.int .i64 0)).setCell ⟨w.heap.size, 1, none⟩ (.int .i64 0))) := Bel.st2 (Nat.le_refl _) (Bel.st2 (Nat.le_refl _) HE2.out _) _
    exact bodyPost_ret (v := .tuple #[.agg #[.int .i64 0, .int .i64 0], .int .i64 1]) (results_rt Try.results30 _ _ w.heap.size _ _ rfl (HF.out.bel (by repeat (first | exact Bel.rf | (with_reducible refine Bel.drwN ?_ _) | (with_reducible refine Bel.drw ?_) | (with_reducible refine Bel.al ?_ _))))) rfl ⟨rfl, HE.out.tr (by repeat (first | exact Bel.rf | (with_reducible refine Bel.drwN ?_ _) | (with_reducible refine Bel.drw ?_) | (with_reducible refine Bel.al ?_ _)))⟩
end Go.Proofs.Ytekeclapbfjdiaa.Say
namespace Go.Proofs.Ytekeclapbfjdiaa.Say
open Go.ChangeShapes Go.WideShapes Go.RowKit Wo Sr Wi Ra Eu Pc
set_option linter.unusedVariables false
/-- pieces.Starts and the reference's, of any numbers -/
theorem both_starts (m k : Int) : ∃ (E : Int) (N : Nat) (R : List Int), N ≤ 100 ∧ R.length = N ∧
    (∀ w, Calls Try.prog 31 #[.int .i64 m, .int .i64 k] w (SomeZ E N R w)) ∧
    (∀ w, Calls Try.prog 32 #[.int .i64 m, .int .i64 k] w (SomeZ E N R w)) := by
  rcases Classical.em (2 ≤ m ∧ m ≤ 32) with hm | hm
  · rcases Classical.em (kOk m k) with hk | hk
    · obtain ⟨m, rfl⟩ := Int.eq_ofNat_of_zero_le (show 0 ≤ m by omega)
      obtain ⟨k1, k2, k3⟩ := hk
      obtain ⟨n, rfl⟩ := Int.eq_ofNat_of_zero_le (show 0 ≤ k by omega)
      refine ⟨0, n + 1, sts m n, by omega, sts_len m n, fun w => (Starts_ok m n (by omega) (by omega) (by omega) (by omega) (by omega) w).mono ?_, fun w => (R18.starts_ok m n (by omega) (by omega) (by omega) (by omega) (by omega) w).mono ?_⟩
      · rintro e w' ⟨h, c, rfl, _, _, hr, hb⟩
        exact ⟨_, _, rfl, own_zi hr (sts_len m n), hb⟩
      · rintro e w' ⟨h, c, rfl, hr, hb⟩
        exact ⟨_, _, rfl, own_zi hr (sts_len m n), hb⟩
    · exact ⟨1, 0, [], by omega, rfl, fun w => starts_no m k hm hk w, fun w => rstarts_no m k hm hk w⟩
  · exact ⟨8, 0, [], by omega, rfl, fun w => starts_len m k hm w, fun w => rstarts_len m k hm w⟩
theorem ck_good {m : Nat} {L : List Int} {k : Int} (h : ck m L k = 0) : ∃ n : Nat, k = (n : Int) ∧ (2 ≤ m ∧ m ≤ 32) ∧ Sam L ∧ 1 ≤ n ∧ n ≤ 8 ∧ n ≤ m := by
  unfold ck at h
  split at h
  · rename_i h1
    split at h
    · rename_i h2
      obtain ⟨k1, k2, k3⟩ := h2
      obtain ⟨n, rfl⟩ := Int.eq_ofNat_of_zero_le (show 0 ≤ k by omega)
      obtain ⟨g1, g2⟩ := one_yes' h1
      exact ⟨n, rfl, g1, g2, by omega, by omega, by omega⟩
    · cases h
  · rename_i h1; exact absurd h h1
/-- pieces.Sums and the reference's, of any list and number -/
theorem both_sums (A : Option Addr) (c m : Nat) (L : List Int) (k : Int) (hm : m ≤ 100000000) (hc : m ≤ c) : ∃ (E : Int) (N : Nat) (R : List Int), N ≤ 100 ∧ R.length = N ∧
    (∀ w, Zi w A m L → Calls Try.prog 23 #[.slice A m c, .int .i64 k] w (SomeZ E N R w)) ∧
    (∀ w, Zi w A m L → Calls Try.prog 24 #[.slice A m c, .int .i64 k] w (SomeZ E N R w)) := by
  rcases Classical.em (ck m L k = 0) with h | h
  · obtain ⟨n, rfl, ⟨m1, m2⟩, hs, n1, n8, nm⟩ := ck_good h
    refine ⟨0, n, pls L m n, by omega, pls_len _ _ _, fun w k1 => ?_, fun w k1 => ?_⟩
    · obtain ⟨ad, rfl, _, _⟩ := k1.2 (by omega)
      refine (Sums_ok ad c m n L m1 m2 n1 n8 nm hc hs w k1).mono ?_
      rintro e w' ⟨h, c, rfl, _, _, hr, hb⟩
      exact ⟨_, _, rfl, own_zi hr (pls_len _ _ _), hb⟩
    · obtain ⟨ad, rfl, _, _⟩ := k1.2 (by omega)
      refine (R18.rsums_ok ad c m n L m1 m2 n1 n8 nm hs w k1).mono ?_
      rintro e w' ⟨h, c, rfl, hr, _, hb⟩
      exact ⟨_, _, rfl, hr, hb⟩
  · exact ⟨_, 0, [], by omega, rfl, fun w k1 => sums_bad A c m L k _ rfl h hm w k1, fun w k1 => rsums_bad A c m L k _ rfl h hm w k1⟩
/-- pieces.Centred and the reference's, of any list and number -/
theorem both_cen (A : Option Addr) (c m : Nat) (L : List Int) (k : Int) (hm : m ≤ 100000000) (hc : m ≤ c) : ∃ (E : Int) (N : Nat) (R : List Int), N ≤ 100 ∧ R.length = N ∧
    (∀ w, Zi w A m L → Calls Try.prog 25 #[.slice A m c, .int .i64 k] w (SomeZ E N R w)) ∧
    (∀ w, Zi w A m L → Calls Try.prog 26 #[.slice A m c, .int .i64 k] w (SomeZ E N R w)) := by
  rcases Classical.em (ck m L k = 0) with h | h
  · obtain ⟨n, rfl, ⟨m1, m2⟩, hs, n1, n8, nm⟩ := ck_good h
    refine ⟨0, n, pls (cen L) m n, by omega, pls_len _ _ _, fun w k1 => ?_, fun w k1 => ?_⟩
    · obtain ⟨ad, rfl, _, _⟩ := k1.2 (by omega)
      refine (Cen_ok ad c m n L m1 m2 n1 n8 nm hc hs w k1).mono ?_
      rintro e w' ⟨h, c, rfl, _, _, hr, hb⟩
      exact ⟨_, _, rfl, own_zi hr (pls_len _ _ _), hb⟩
    · obtain ⟨ad, rfl, _, _⟩ := k1.2 (by omega)
      refine (R18.rcens_ok ad c m n L m1 m2 n1 n8 nm hs w k1).mono ?_
      rintro e w' ⟨h, c, rfl, hr, _, hb⟩
      exact ⟨_, _, rfl, hr, hb⟩
  · exact ⟨_, 0, [], by omega, rfl, fun w k1 => cen_bad A c m L k _ rfl h hm w k1, fun w k1 => rcens_bad A c m L k _ rfl h hm w k1⟩
theorem lk_good {n m : Nat} {L M : List Int} {k : Int} (h : lk n m L M k = 0) : ∃ p : Nat, k = (p : Int) ∧ (2 ≤ n ∧ n ≤ 32) ∧ n = m ∧ Sam L ∧ Sam M ∧ 1 ≤ p ∧ p ≤ 8 ∧ p ≤ n := by
  unfold lk at h
  split at h
  · rename_i h1
    split at h
    · rename_i h2
      obtain ⟨k1, k2, k3⟩ := h2
      obtain ⟨p, rfl⟩ := Int.eq_ofNat_of_zero_le (show 0 ≤ k by omega)
      obtain ⟨g1, g2, g3, g4, g5, g6⟩ := two_yes h1
      exact ⟨p, rfl, g1, by omega, g3, g4, by omega, by omega, by omega⟩
    · cases h
  · rename_i h1; exact absurd h h1
/-- a ratio with this, and an error -/
def SomeR (E : Int) (K : Int → Int → Prop) (w : World) (e : Ending) (w' : World) : Prop := ∃ X Y : Int, e = .returned (.tuple #[.agg #[.int .i64 X, .int .i64 Y], .int .i64 E]) ∧ K X Y ∧ Bel w w'
theorem bnd_df (m n : Nat) (P Q : List Int) (hl : P.length = Q.length) (hn : P.length = n) : bnd m n P Q = tq (fun k => (df P Q).getD k 0 * (df P Q).getD k 0 * wq (m / n) (st m n (k + 1) - st m n k)) n := by
  unfold bnd
  refine tq_cong (n := n) (fun k hk => ?_) n (Nat.le_refl n)
  rw [df_at hl k (by omega)]
/-- pieces.Lower and the reference's, of any lists and number -/
theorem both_lower (A A' : Option Addr) (c c' n m : Nat) (L M : List Int) (k : Int) (hn : n ≤ 100000000) (hm : m ≤ 100000000) (hc : n ≤ c) (hc' : m ≤ c') : ∃ (E : Int) (K : Int → Int → Prop), (∀ a b c d, K a b → K c d → a = c ∧ b = d) ∧
    (∀ w, Zi w A n L → Zi w A' m M → Calls Try.prog 27 #[.slice A n c, .slice A' m c', .int .i64 k] w (SomeR E K w)) ∧
    (∀ w, Zi w A n L → Zi w A' m M → Calls Try.prog 28 #[.slice A n c, .slice A' m c', .int .i64 k] w (SomeR E K w)) := by
  rcases Classical.em (lk n m L M k = 0) with h | h
  · obtain ⟨p, rfl, ⟨m1, m2⟩, rfl, hs, ht, n1, n8, nm⟩ := lk_good h
    have hC := (cq_in n p n1 nm m2).1
    refine ⟨0, fun t u => Vl t u (bnd n p (pls L n p) (pls M n p)) (cq n p), fun a b c d h1 h2 => vl_eq hC h1 h2, fun w k1 k2 => ?_, fun w k1 k2 => ?_⟩
    · obtain ⟨ad, rfl, _, _⟩ := k1.2 (by omega)
      obtain ⟨ad', rfl, _, _⟩ := k2.2 (by omega)
      refine (Lower_ok ad ad' c c' n p L M m1 m2 n1 n8 nm hc hc' hs ht w k1 k2).mono ?_
      rintro e w' ⟨t, u, rfl, hv, hb⟩
      rw [Int.one_mul] at hv
      exact ⟨t, u, rfl, hv, hb⟩
    · obtain ⟨ad, rfl, _, _⟩ := k1.2 (by omega)
      obtain ⟨ad', rfl, _, _⟩ := k2.2 (by omega)
      refine (R18.lower_ok ad ad' c c' n p L M m1 m2 n1 n8 nm hs ht w k1 k2).mono ?_
      rintro e w' ⟨t, u, rfl, hv, hb⟩
      rw [← bnd_df n p _ _ (by rw [pls_len, pls_len]) (pls_len _ _ _)] at hv
      exact ⟨t, u, rfl, hv, hb⟩
  · refine ⟨lk n m L M k, fun t u => t = 0 ∧ u = 0, fun a b c d h1 h2 => by omega, fun w k1 k2 => (lower_bad A A' c c' n m L M k _ rfl h hn hm w k1 k2).mono ?_, fun w k1 k2 => (rlower_bad A A' c c' n m L M k _ rfl h hn hm w k1 k2).mono ?_⟩
    all_goals
      rintro e w' ⟨rfl, hb⟩
      exact ⟨0, 0, rfl, ⟨rfl, rfl⟩, hb⟩
/-- pieces.Shifted and the reference's, of any lists and number -/
theorem both_pshift (A A' : Option Addr) (c c' n m : Nat) (L M : List Int) (k : Int) (hn : n ≤ 100000000) (hm : m ≤ 100000000) (hc : n ≤ c) (hc' : m ≤ c') : ∃ (E : Int) (K : Int → Int → Prop), (∀ a b c d, K a b → K c d → a = c ∧ b = d) ∧
    (∀ w, Zi w A n L → Zi w A' m M → Calls Try.prog 29 #[.slice A n c, .slice A' m c', .int .i64 k] w (SomeR E K w)) ∧
    (∀ w, Zi w A n L → Zi w A' m M → Calls Try.prog 30 #[.slice A n c, .slice A' m c', .int .i64 k] w (SomeR E K w)) := by
  rcases Classical.em (lk n m L M k = 0) with h | h
  · obtain ⟨p, rfl, ⟨m1, m2⟩, rfl, hs, ht, n1, n8, nm⟩ := lk_good h
    have hC := (cq_in n p n1 nm m2).1
    have mm : 1 ≤ (n : Int) * (n : Int) := by
      have b : 1 * 1 ≤ (n : Int) * (n : Int) := Int.mul_le_mul (by omega) (by omega) (by omega) (by omega)
      omega
    have hCC : 1 ≤ cq n p * ((n : Int) * (n : Int)) := by
      have b : 1 * 1 ≤ cq n p * ((n : Int) * (n : Int)) := Int.mul_le_mul hC mm (by omega) (by omega)
      omega
    refine ⟨0, fun t u => Vl t u (bnd n p (pls (cen L) n p) (pls (cen M) n p)) (cq n p * ((n : Int) * (n : Int))), fun a b c d h1 h2 => vl_eq hCC h1 h2, fun w k1 k2 => ?_, fun w k1 k2 => ?_⟩
    · obtain ⟨ad, rfl, _, _⟩ := k1.2 (by omega)
      obtain ⟨ad', rfl, _, _⟩ := k2.2 (by omega)
      refine (Shifted_ok ad ad' c c' n p L M m1 m2 n1 n8 nm hc hc' hs ht w k1 k2).mono ?_
      rintro e w' ⟨t, u, rfl, hv, hb⟩
      rw [Int.mul_comm] at hv
      exact ⟨t, u, rfl, hv, hb⟩
    · obtain ⟨ad, rfl, _, _⟩ := k1.2 (by omega)
      obtain ⟨ad', rfl, _, _⟩ := k2.2 (by omega)
      refine (R18.shift18_ok ad ad' c c' n p L M m1 m2 n1 n8 nm hs ht w k1 k2).mono ?_
      rintro e w' ⟨t, u, rfl, hv, hb⟩
      rw [← bnd_df n p _ _ (by rw [pls_len, pls_len]) (pls_len _ _ _)] at hv
      exact ⟨t, u, rfl, hv, hb⟩
  · refine ⟨lk n m L M k, fun t u => t = 0 ∧ u = 0, fun a b c d h1 h2 => by omega, fun w k1 k2 => (pshift_bad A A' c c' n m L M k _ rfl h hn hm w k1 k2).mono ?_, fun w k1 k2 => (rpshift_bad A A' c c' n m L M k _ rfl h hn hm w k1 k2).mono ?_⟩
    all_goals
      rintro e w' ⟨rfl, hb⟩
      exact ⟨0, 0, rfl, ⟨rfl, rfl⟩, hb⟩
end Go.Proofs.Ytekeclapbfjdiaa.Say
namespace Go.Proofs.Ytekeclapbfjdiaa.Pc
open Go.ChangeShapes Go.WideShapes Go.RowKit Wo Sr Wi Ra Eu
set_option linter.unusedVariables false
set_option maxHeartbeats 4000000 in
theorem count_any (g m : Nat) (m2 : 2 ≤ m) (m32 : m ≤ 32) (w : World) (h : Ok w g) :
    Calls Try.prog 21 #[.pointer (some ⟨g, 0, none⟩), .int .i64 (m : Int)] w fun e w' => ∃ n : Nat, e = .returned (.int .i64 (n : Int)) ∧ 1 ≤ n ∧ n ≤ 8 ∧ n ≤ m ∧ Ok w' g ∧ Ch g w w' := by
  have HO := Lib.hid h
  have i1 : 2 ≤ (m : Int) := by omega
  have i2 : (m : Int) ≤ 32 := by omega
  clear h
  go_enter Try.func21, Try.ntmps21
  go_wp2_with fail
  all_goals
    go_at_call 36
    refine (range_any g 1 _ (by omega) (by omega) (by omega) _ HO.out).mono ?_
    rintro e w1 ⟨x, rfl, hx0, hx1, ho, hc⟩
    obtain ⟨n, rfl⟩ := Int.eq_ofNat_of_zero_le (show 0 ≤ x by omega)
    have n8 : n ≤ 8 := by omega
    have nm : n ≤ m := by omega
    have HR := Lib.hid (And.intro n8 (And.intro nm (And.intro ho hc)))
    clear ho hc n8 nm
    go_wp2
    go_ret
    exact ⟨n, rfl, by omega, HR.out.1, HR.out.2.1, HR.out.2.2.1, HR.out.2.2.2⟩
end Go.Proofs.Ytekeclapbfjdiaa.Pc
