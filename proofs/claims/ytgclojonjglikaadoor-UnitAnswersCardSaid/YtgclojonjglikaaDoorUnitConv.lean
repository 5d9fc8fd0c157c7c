/- The contracts of whole.Floor, HalfUp, limits.Sample, unit.valid, Valid and Convert for valid decimals and units. -/
import Derived.Test.YtgclojonjglikaaDoorRows
import Derived.Test.YtgclojonjglikaaDoorWords
import Derived.Test.YtgclojonjglikaaDoorUnitMath
import Derived.WalkLawsBesides
import Derived.WalkSpells
import Derived.Outline
import Derived.IntWalk
import Derived.Deep.QuietTactic
import Derived.BigQuiet
import Derived.RegionTactic
import Derived.Lib.LaidTab
namespace Go.Proofs.YtgclojonjglikaaDoor.Un
open Go.ChangeShapes Go.WideShapes Go.RowKit Wo
set_option linter.unusedVariables false
theorem floor_any (a b : Int) (h1 : 1 ≤ b) (h2 : b ≤ 4611686018427387904) (h3 : -4611686018427387904 ≤ a) (h4 : a ≤ 4611686018427387904) (w : World) :
    Calls Tryd.prog 44 #[.int .i64 a, .int .i64 b] w fun e w' => e = .returned (.int .i64 (a / b)) ∧ w = w' := by
  have m := fl_parts a b h1
  have t := td_bound a b 4611686018427387904 h1 h3 h4
  have t0 := t.1
  have t1 := t.2
  have hne : b ≠ 0 := by omega
  have e1 := m.2.2.1
  have e2 := m.2.2.2
  have tw : IntKind.i64.wrap (a.tdiv b) = a.tdiv b := IntWalk.i64_in _ (by omega)
  have tw2 : IntKind.i64.wrap (a.tdiv b - 1) = a.tdiv b - 1 := IntWalk.i64_in _ (by omega)
  rcases Int.lt_or_le (a.tmod b) 0 with h | h
  · have HE := Lib.hid (m.1 h)
    clear m t
    go_enter Tryd.func44, Tryd.ntmps44
    go_wp2
    go_ret
    exact ⟨ret_int HE.out, rfl⟩
  · have HE := Lib.hid (m.2.1 h)
    clear m t
    go_enter Tryd.func44, Tryd.ntmps44
    go_wp2
    go_ret
    exact ⟨ret_int HE.out, rfl⟩
theorem half_any (a b : Int) (h1 : 1 ≤ b) (h2 : b ≤ 1152921504606846976) (h3 : -1152921504606846976 ≤ a) (h4 : a ≤ 1152921504606846976) (w : World) :
    Calls Tryd.prog 29 #[.int .i64 a, .int .i64 b] w fun e w' => e = .returned (.int .i64 (hup a b)) ∧ w = w' := by
  have HE : Hid (∀ w, Calls Tryd.prog 44 #[.int .i64 (2 * a + b), .int .i64 (2 * b)] w fun e w' => e = .returned (.int .i64 (hup a b)) ∧ w = w') :=
    fun w => floor_any (2 * a + b) (2 * b) (by omega) (by omega) (by omega) (by omega) w
  go_enter Tryd.func29, Tryd.ntmps29
  go_wp2_with (go_at_call 44; refine (HE.out _).mono ?_; rintro e w' ⟨rfl, rfl⟩)
  go_ret
  exact ⟨rfl, rfl⟩
def smp (n : Int) : Bool := decide (-1000 ≤ n ∧ n ≤ 1000)
theorem sample_any (n : Int) (w : World) : Calls Tryd.prog 30 #[.int .i64 n] w fun e w' => e = .returned (.bool (smp n)) ∧ w = w' := by
  rcases Int.lt_or_le n (-1000) with h | h
  · have HE : Hid (smp n = false) := decide_eq_false (by omega)
    have b1 : decide (-1000 ≤ n) = false := decide_eq_false (by omega)
    go_enter Tryd.func30, Tryd.ntmps30
    go_wp2
    go_ret
    exact ⟨ret_bool HE.out.symm, rfl⟩
  · rcases Int.lt_or_le 1000 n with k | k
    · have HE : Hid (smp n = false) := decide_eq_false (by omega)
      have b1 : decide (-1000 ≤ n) = true := decide_eq_true (by omega)
      have b2 : decide (n ≤ 1000) = false := decide_eq_false (by omega)
      go_enter Tryd.func30, Tryd.ntmps30
      go_wp2
      go_ret
      exact ⟨ret_bool HE.out.symm, rfl⟩
    · have HE : Hid (smp n = true) := decide_eq_true (by omega)
      have b1 : decide (-1000 ≤ n) = true := decide_eq_true (by omega)
      have b2 : decide (n ≤ 1000) = true := decide_eq_true (by omega)
      go_enter Tryd.func30, Tryd.ntmps30
      go_wp2
      go_ret
      exact ⟨ret_bool HE.out.symm, rfl⟩
theorem dec_yes (x p : Int) (h1 : -1000000000 ≤ x) (h2 : x ≤ 1000000000) (h3 : 0 ≤ p) (h4 : p ≤ 6) (w : World) :
    Calls Tryd.prog 25 #[.agg #[.int .i64 x, .int .i64 p]] w fun e w' => e = .returned (.bool true) ∧ Bel w w' := by
  go_enter Tryd.func25, Tryd.ntmps25
  go_wp2
  go_ret
  exact ⟨rfl, Bel.rf.al _⟩
/-- a name of a unit -/
def Low (s : ByteArray) : Prop := 1 ≤ s.size ∧ s.size ≤ 12 ∧ ∀ (i : Nat) (h : i < s.size), 97 ≤ s[i].toNat ∧ s[i].toNat ≤ 122
set_option maxHeartbeats 2000000 in
set_option maxRecDepth 100000 in
theorem unit_yes (s : ByteArray) (m a d : Int) (hs : Low s) (m1 : 1 ≤ m) (m2 : m ≤ 1000000) (a1 : -1000000000 ≤ a) (a2 : a ≤ 1000000000) (d1 : 1 ≤ d) (d2 : d ≤ 1000000) (w : World) :
    Calls Tryd.prog 12 #[.agg #[.string s, .int .i64 m, .int .i64 a, .int .i64 d]] w fun e w' => e = .returned (.bool true) ∧ Bel w w' := by
  have s1 := hs.1
  have s2 := hs.2.1
  have HS := Lib.hid hs.2.2
  clear hs
  have si : (s.size : Int) ≤ 12 := by omega
  have si1 : (1 : Int) ≤ (s.size : Int) := by omega
  go_enter Tryd.func12, Tryd.ntmps12
  go_wp2
  have HB : Hid (Bk (w.alloc (.cells #[.string s, .int .i64 m, .int .i64 a, .int .i64 d] 25)) w.heap.size 25 #[.string s, .int .i64 m, .int .i64 a, .int .i64 d]) := Bk.nw _ _ _
  go_loopw [17] (fun t wr => ∃ k : Nat, k ≤ s.size ∧ t = .int .i64 (k : Int) ∧ Bel w wr ∧ Bk wr w.heap.size 25 #[.string s, .int .i64 m, .int .i64 a, .int .i64 d]) (fun t _ => s.size - (intOf t).toNat)
  case atStart => exact ⟨0, by omega, rfl, Bel.rf.al _, HB.out⟩
  case round =>
    obtain ⟨k, hk, rfl, hb, hbk⟩ := hrel
    rename_i wr
    have k0 : wr.cell? ⟨w.heap.size, 0, none⟩ = some (.string s) := hbk.cell 0
    have k1 : wr.cell? ⟨w.heap.size, 1, none⟩ = some (.int .i64 m) := hbk.cell 1
    have k2 : wr.cell? ⟨w.heap.size, 2, none⟩ = some (.int .i64 a) := hbk.cell 2
    have k3 : wr.cell? ⟨w.heap.size, 3, none⟩ = some (.int .i64 d) := hbk.cell 3
    have HBK := Lib.hid hbk
    have HBE := Lib.hid hb
    clear hbk hb HB
    rcases Nat.lt_or_ge k s.size with hlt | hge
    · have h1 := (HS.out k hlt).1
      have h2 := (HS.out k hlt).2
      have hi : (k : Int) < (s.size : Int) := by omega
      go_wp2
      go_roundw
      case rel => exact ⟨k + 1, by omega, by go_num, HBE.out, HBK.out⟩
      case measure => simp [intOf]; omega
    · obtain rfl : k = s.size := by omega
      go_wp2
      go_ret
      exact ⟨rfl, HBE.out⟩
/-- what Convert returns for a valid decimal and a valid unit -/
def cvt (E p : Int) : Value := if smp (hup E p) = true then .tuple #[.int .i64 (hup E p), .int .i64 0] else .tuple #[.int .i64 0, .int .i64 12]
theorem cvt_if {E p q : Int} (hp : 1 ≤ p) (h0 : -p ≤ 2 * (E - q * p)) (h1 : 2 * (E - q * p) < p) : cvt E p = if smp q = true then .tuple #[.int .i64 q, .int .i64 0] else .tuple #[.int .i64 0, .int .i64 12] := by
  unfold cvt
  rw [hup_of E p q hp h0 h1]
theorem cvt_of {E p q : Int} (hp : 1 ≤ p) (h0 : -p ≤ 2 * (E - q * p)) (h1 : 2 * (E - q * p) < p) (h2 : -1000 ≤ q) (h3 : q ≤ 1000) : cvt E p = .tuple #[.int .i64 q, .int .i64 0] := by
  rw [cvt_if hp h0 h1, if_pos (show smp q = true from decide_eq_true ⟨h2, h3⟩)]
theorem mul_in {x y X Y : Int} (h1 : -X ≤ x) (h2 : x ≤ X) (h3 : 0 ≤ y) (h4 : y ≤ Y) (hX : 0 ≤ X) : -(X * Y) ≤ x * y ∧ x * y ≤ X * Y := by
  have a := Int.mul_le_mul_of_nonneg_right h2 h3
  have b := Int.mul_le_mul_of_nonneg_right h1 h3
  have c := Int.mul_le_mul_of_nonneg_left h4 hX
  have d : -X * y = -(X * y) := by grind
  omega
set_option maxHeartbeats 2000000 in
theorem convert_any (x : Int) (p : Nat) (P : Int) (s : ByteArray) (m a d : Int) (x1 : -1000000000 ≤ x) (x2 : x ≤ 1000000000) (hp : p ≤ 6) (p1 : 1 ≤ P) (p2 : P ≤ 1000000) (hs : Low s) (m1 : 1 ≤ m) (m2 : m ≤ 1000000) (a1 : -1000000000 ≤ a) (a2 : a ≤ 1000000000) (d1 : 1 ≤ d) (d2 : d ≤ 1000000) (w : World)
    (hc : w.cell? ⟨0, p, none⟩ = some (.int .i64 P)) :
    Calls Tryd.prog 10 #[.agg #[.int .i64 x, .int .i64 (p : Int)], .agg #[.string s, .int .i64 m, .int .i64 a, .int .i64 d]] w fun e w' => e = .returned (cvt (x * m + a * P) (d * P)) ∧ Bel w w' := by
  have q1 := mul_in (Y := 1000000) x1 x2 (by omega) m2 (by omega)
  have q2 := mul_in (Y := 1000000) a1 a2 (by omega) p2 (by omega)
  have q3 := mul_in (x := d) (X := 1000000) (Y := 1000000) (by omega) d2 (by omega) p2 (by omega)
  have q4 : 1 ≤ d * P := by have := Int.mul_le_mul_of_nonneg_right d1 (show 0 ≤ P by omega); omega
  have w1 : IntKind.i64.wrap (x * m) = x * m := IntWalk.i64_in _ (by omega)
  have w2 : IntKind.i64.wrap (a * P) = a * P := IntWalk.i64_in _ (by omega)
  have w3 : IntKind.i64.wrap (d * P) = d * P := IntWalk.i64_in _ (by omega)
  have w4 : IntKind.i64.wrap (x * m + a * P) = x * m + a * P := IntWalk.i64_in _ (by omega)
  have pi : (p : Int) ≤ 6 := by omega
  have pi0 : (0 : Int) ≤ (p : Int) := by omega
  have HD : Hid (∀ w, Calls Tryd.prog 25 #[.agg #[.int .i64 x, .int .i64 (p : Int)]] w fun e w' => e = .returned (.bool true) ∧ Bel w w') := fun w => dec_yes x p x1 x2 pi0 pi w
  have HU : Hid (∀ w, Calls Tryd.prog 12 #[.agg #[.string s, .int .i64 m, .int .i64 a, .int .i64 d]] w fun e w' => e = .returned (.bool true) ∧ Bel w w') := fun w => unit_yes s m a d hs m1 m2 a1 a2 d1 d2 w
  have HH : Hid (∀ w, Calls Tryd.prog 29 #[.int .i64 (x * m + a * P), .int .i64 (d * P)] w fun e w' => e = .returned (.int .i64 (hup (x * m + a * P) (d * P))) ∧ w = w') := fun w => half_any _ _ q4 (by omega) (by omega) (by omega) w
  have HC := Lib.hid hc
  clear hc hs
  go_enter Tryd.func10, Tryd.ntmps10
  go_wp2_with fail
  go_at_call 25
  refine (HD.out _).mono ?_
  rintro e w5 ⟨rfl, h5⟩
  have B2 : Bk w5 (w.heap.size + 1) 25 #[.string s, .int .i64 m, .int .i64 a, .int .i64 d] := (Bk.nq (w.alloc _) _ _ (by simp)).bel h5
  have HX : Hid (Bel w w5) := ((Bel.rf.al _).al _).tr h5
  have HB1 : Hid (Bk w5 w.heap.size 23 #[.int .i64 x, .int .i64 (p : Int)]) := ((Bk.nw _ _ _).al _).bel h5
  have HB2 := Lib.hid B2
  have c0 : w5.cell? ⟨w.heap.size + 1, 0, none⟩ = some (.string s) := B2.cell 0
  have c1 : w5.cell? ⟨w.heap.size + 1, 1, none⟩ = some (.int .i64 m) := B2.cell 1
  have c2 : w5.cell? ⟨w.heap.size + 1, 2, none⟩ = some (.int .i64 a) := B2.cell 2
  have c3 : w5.cell? ⟨w.heap.size + 1, 3, none⟩ = some (.int .i64 d) := B2.cell 3
  clear h5 B2
  go_wp2_with fail
  go_at_call 12
  refine (HU.out _).mono ?_
  rintro e w6 ⟨rfl, h6⟩
  have B1 := HB1.out.bel h6
  have B2 := HB2.out.bel h6
  have k0 : w6.cell? ⟨w.heap.size, 0, none⟩ = some (.int .i64 x) := B1.cell 0
  have k1 : w6.cell? ⟨w.heap.size, 1, none⟩ = some (.int .i64 (p : Int)) := B1.cell 1
  have k2 : w6.cell? ⟨w.heap.size + 1, 1, none⟩ = some (.int .i64 m) := B2.cell 1
  have k3 : w6.cell? ⟨w.heap.size + 1, 2, none⟩ = some (.int .i64 a) := B2.cell 2
  have k4 : w6.cell? ⟨w.heap.size + 1, 3, none⟩ = some (.int .i64 d) := B2.cell 3
  have hx6 := HX.out.tr h6
  have k5 : w6.cell? ⟨0, p, none⟩ = some (.int .i64 P) := hx6.kp HC.out
  have HX6 := Lib.hid hx6
  clear h6 B1 B2 hx6 c0 c1 c2 c3
  go_wp2_with fail
  go_at_call 29
  refine (HH.out _).mono ?_
  rintro e w7 ⟨rfl, rfl⟩
  clear w1 w2 w3 w4
  generalize hG : hup (x * m + a * P) (d * P) = q
  have HG := Lib.hid hG
  clear hG
  have HV : Hid (cvt (x * m + a * P) (d * P) = if smp q = true then .tuple #[.int .i64 q, .int .i64 0] else .tuple #[.int .i64 0, .int .i64 12]) := by
    show cvt (x * m + a * P) (d * P) = _
    unfold cvt
    rw [HG.out]
  rcases hS : smp q
  · rw [hS] at HV
    have HS := Lib.hid hS
    have HSC : Hid (∀ w, Calls Tryd.prog 30 #[.int .i64 q] w fun e w' => e = .returned (.bool false) ∧ w = w') := fun w => by have := sample_any q w; rwa [HS.out] at this
    clear hS
    go_wp2_with (go_at_call 30; refine (HSC.out _).mono ?_; rintro e w' ⟨rfl, rfl⟩)
    go_ret2
    exact ⟨by rw [HV.out]; rfl, HX6.out⟩
  · rw [hS] at HV
    have HS := Lib.hid hS
    have HSC : Hid (∀ w, Calls Tryd.prog 30 #[.int .i64 q] w fun e w' => e = .returned (.bool true) ∧ w = w') := fun w => by have := sample_any q w; rwa [HS.out] at this
    clear hS
    go_wp2_with (go_at_call 30; refine (HSC.out _).mono ?_; rintro e w' ⟨rfl, rfl⟩)
    go_ret2
    exact ⟨by rw [HV.out]; rfl, HX6.out⟩
end Go.Proofs.YtgclojonjglikaaDoor.Un
