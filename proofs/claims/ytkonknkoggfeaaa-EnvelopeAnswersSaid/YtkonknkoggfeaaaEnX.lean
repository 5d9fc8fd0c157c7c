/- The ends of envelopes. (mkem.py) -/
import Derived.Test.YtkonknkoggfeaaaEnvMath
import Derived.Test.YtkonknkoggfeaaaEnv1
namespace Go.Proofs.Ytkonknkoggfeaaa.Ev
open Wi
set_option linter.unusedVariables false
/-- the greatest of the first t -/
def eu (X : List Int) (b : Int) (j : Nat) : Nat → Int
  | 0 => -1000
  | t + 1 => if Bnd b t j then max (eu X b j t) (X.getD t 0) else eu X b j t
/-- the least of the first t -/
def el (X : List Int) (b : Int) (j : Nat) : Nat → Int
  | 0 => 1000
  | t + 1 => if Bnd b t j then min (el X b j t) (X.getD t 0) else el X b j t
theorem eu_yes {X : List Int} {b : Int} {j t : Nat} (h : Bnd b t j) : eu X b j (t + 1) = max (eu X b j t) (X.getD t 0) := by
  show (if Bnd b t j then max (eu X b j t) (X.getD t 0) else eu X b j t) = _
  rw [if_pos h]
theorem eu_no {X : List Int} {b : Int} {j t : Nat} (h : ¬ Bnd b t j) : eu X b j (t + 1) = eu X b j t := by
  show (if Bnd b t j then max (eu X b j t) (X.getD t 0) else eu X b j t) = _
  rw [if_neg h]
theorem el_yes {X : List Int} {b : Int} {j t : Nat} (h : Bnd b t j) : el X b j (t + 1) = min (el X b j t) (X.getD t 0) := by
  show (if Bnd b t j then min (el X b j t) (X.getD t 0) else el X b j t) = _
  rw [if_pos h]
theorem el_no {X : List Int} {b : Int} {j t : Nat} (h : ¬ Bnd b t j) : el X b j (t + 1) = el X b j t := by
  show (if Bnd b t j then min (el X b j t) (X.getD t 0) else el X b j t) = _
  rw [if_neg h]
theorem eu_bd {X : List Int} (hs : Sam X) (b : Int) (j : Nat) : ∀ t, -1000 ≤ eu X b j t ∧ eu X b j t ≤ 1000
  | 0 => by show -1000 ≤ (-1000 : Int) ∧ (-1000 : Int) ≤ 1000; omega
  | t + 1 => by
    have h1 := eu_bd hs b j t
    have h2 := hs.at t
    rcases Classical.em (Bnd b t j) with h | h
    · rw [eu_yes h]; omega
    · rw [eu_no h]; exact h1
theorem el_bd {X : List Int} (hs : Sam X) (b : Int) (j : Nat) : ∀ t, -1000 ≤ el X b j t ∧ el X b j t ≤ 1000
  | 0 => by show -1000 ≤ (1000 : Int) ∧ (1000 : Int) ≤ 1000; omega
  | t + 1 => by
    have h1 := el_bd hs b j t
    have h2 := hs.at t
    rcases Classical.em (Bnd b t j) with h | h
    · rw [el_yes h]; omega
    · rw [el_no h]; exact h1
theorem eu_ge (X : List Int) (b : Int) (j : Nat) : ∀ t i, i < t → Bnd b i j → X.getD i 0 ≤ eu X b j t
  | 0, i, h, _ => by omega
  | t + 1, i, h, hb => by
    rcases Classical.em (Bnd b t j) with g | g
    · rw [eu_yes g]
      rcases Nat.lt_or_ge i t with h1 | h1
      · have := eu_ge X b j t i h1 hb; omega
      · obtain rfl : i = t := by omega
        omega
    · rw [eu_no g]
      rcases Nat.lt_or_ge i t with h1 | h1
      · exact eu_ge X b j t i h1 hb
      · obtain rfl : i = t := by omega
        exact absurd hb g
theorem el_le (X : List Int) (b : Int) (j : Nat) : ∀ t i, i < t → Bnd b i j → el X b j t ≤ X.getD i 0
  | 0, i, h, _ => by omega
  | t + 1, i, h, hb => by
    rcases Classical.em (Bnd b t j) with g | g
    · rw [el_yes g]
      rcases Nat.lt_or_ge i t with h1 | h1
      · have := el_le X b j t i h1 hb; omega
      · obtain rfl : i = t := by omega
        omega
    · rw [el_no g]
      rcases Nat.lt_or_ge i t with h1 | h1
      · exact el_le X b j t i h1 hb
      · obtain rfl : i = t := by omega
        exact absurd hb g
theorem eu_in (X : List Int) (b : Int) (j : Nat) : ∀ t, eu X b j t = -1000 ∨ ∃ i, i < t ∧ Bnd b i j ∧ X.getD i 0 = eu X b j t
  | 0 => .inl rfl
  | t + 1 => by
    have ih := eu_in X b j t
    rcases Classical.em (Bnd b t j) with g | g
    · rw [eu_yes g]
      rcases Int.lt_or_le (eu X b j t) (X.getD t 0) with h | h
      · exact .inr ⟨t, by omega, g, by omega⟩
      · have e : max (eu X b j t) (X.getD t 0) = eu X b j t := by omega
        rw [e]
        rcases ih with h1 | ⟨i, h1, h2, h3⟩
        · exact .inl h1
        · exact .inr ⟨i, by omega, h2, h3⟩
    · rw [eu_no g]
      rcases ih with h1 | ⟨i, h1, h2, h3⟩
      · exact .inl h1
      · exact .inr ⟨i, by omega, h2, h3⟩
theorem el_in (X : List Int) (b : Int) (j : Nat) : ∀ t, el X b j t = 1000 ∨ ∃ i, i < t ∧ Bnd b i j ∧ X.getD i 0 = el X b j t
  | 0 => .inl rfl
  | t + 1 => by
    have ih := el_in X b j t
    rcases Classical.em (Bnd b t j) with g | g
    · rw [el_yes g]
      rcases Int.lt_or_le (X.getD t 0) (el X b j t) with h | h
      · exact .inr ⟨t, by omega, g, by omega⟩
      · have e : min (el X b j t) (X.getD t 0) = el X b j t := by omega
        rw [e]
        rcases ih with h1 | ⟨i, h1, h2, h3⟩
        · exact .inl h1
        · exact .inr ⟨i, by omega, h2, h3⟩
    · rw [el_no g]
      rcases ih with h1 | ⟨i, h1, h2, h3⟩
      · exact .inl h1
      · exact .inr ⟨i, by omega, h2, h3⟩
theorem eu_is {X : List Int} (hs : Sam X) {b : Int} {j : Nat} (hex : ∃ i, i < X.length ∧ Bnd b i j) : IsMx X b j (eu X b j X.length) := by
  refine ⟨?_, fun i hi hb => eu_ge X b j _ i hi hb⟩
  rcases eu_in X b j X.length with h | h
  · obtain ⟨i, hi, hb⟩ := hex
    have h1 := eu_ge X b j _ i hi hb
    have h2 := hs.at i
    exact ⟨i, hi, hb, by omega⟩
  · exact h
theorem el_is {X : List Int} (hs : Sam X) {b : Int} {j : Nat} (hex : ∃ i, i < X.length ∧ Bnd b i j) : IsMn X b j (el X b j X.length) := by
  refine ⟨?_, fun i hi hb => el_le X b j _ i hi hb⟩
  rcases el_in X b j X.length with h | h
  · obtain ⟨i, hi, hb⟩ := hex
    have h1 := el_le X b j _ i hi hb
    have h2 := hs.at i
    exact ⟨i, hi, hb, by omega⟩
  · exact h
theorem near_ex {n m j : Nat} {b : Int} (n1 : 1 ≤ n) (hj : j < m) (b0 : 0 ≤ b) (bm : (m : Int) - (n : Int) ≤ b) : ∃ i, i < n ∧ Bnd b i j := by
  rcases Nat.lt_or_ge j n with h | h
  · exact ⟨j, h, by unfold Bnd; omega⟩
  · exact ⟨n - 1, by omega, by unfold Bnd; omega⟩
/-- the ends of the envelope, one after another -/
def eus (X : List Int) (b : Int) (m : Nat) : List Int := (List.range m).map fun j => eu X b j X.length
def els (X : List Int) (b : Int) (m : Nat) : List Int := (List.range m).map fun j => el X b j X.length
theorem eus_len (X : List Int) (b : Int) (m : Nat) : (eus X b m).length = m := by simp [eus]
theorem els_len (X : List Int) (b : Int) (m : Nat) : (els X b m).length = m := by simp [els]
theorem eus_at (X : List Int) (b : Int) (m j : Nat) (h : j < m) : (eus X b m).getD j 0 = eu X b j X.length := by
  rw [List.getD_eq_getElem?_getD, eus, List.getElem?_map, List.getElem?_range h]; rfl
theorem els_at (X : List Int) (b : Int) (m j : Nat) (h : j < m) : (els X b m).getD j 0 = el X b j X.length := by
  rw [List.getD_eq_getElem?_getD, els, List.getElem?_map, List.getElem?_range h]; rfl
theorem eus_next (X : List Int) (b : Int) (t : Nat) : eus X b t ++ [eu X b t X.length] = eus X b (t + 1) := by
  unfold eus; rw [List.range_succ (n := t), List.map_append]; rfl
theorem els_next (X : List Int) (b : Int) (t : Nat) : els X b t ++ [el X b t X.length] = els X b (t + 1) := by
  unfold els; rw [List.range_succ (n := t), List.map_append]; rfl
/-- they are the envelope -/
theorem env_is {X : List Int} (hs : Sam X) {n m : Nat} {b : Int} (hl : X.length = n) (n1 : 1 ≤ n) (b0 : 0 ≤ b) (bm : (m : Int) - (n : Int) ≤ b) : Env X b m (eus X b m) (els X b m) := by
  refine ⟨eus_len _ _ _, els_len _ _ _, fun j hj => ?_⟩
  have hex : ∃ i, i < X.length ∧ Bnd b i j := by rw [hl]; exact near_ex n1 hj b0 bm
  rw [eus_at _ _ _ _ hj, els_at _ _ _ _ hj]
  exact ⟨eu_is hs hex, el_is hs hex⟩
end Go.Proofs.Ytkonknkoggfeaaa.Ev
namespace Go.Proofs.Ytkonknkoggfeaaa.Ev
open Go.ChangeShapes Go.WideShapes Go.RowKit Wo Sr Wi Eu
set_option linter.unusedVariables false
theorem rpasses_ok (n lo hi : Int) (h0 : -1000000 ≤ n ∧ n ≤ 1000000) (h1 : -1000000 ≤ lo ∧ lo ≤ 1000000) (h2 : -1000000 ≤ hi ∧ hi ≤ 1000000) (w : World) : Calls Try.prog 49 #[.int .i64 n, .int .i64 lo, .int .i64 hi] w fun e w' => e = .returned (.int .i64 (ps n lo hi)) ∧ w = w' := by
  obtain ⟨a0, a1⟩ := h0
  obtain ⟨b0, b1⟩ := h1
  obtain ⟨c0, c1⟩ := h2
  go_enter Try.func49, Try.ntmps49
  go_wp2
  all_goals
    go_ret
    refine ⟨congrArg (fun z => Ending.returned (Value.int .i64 z)) ?_, rfl⟩
    have e : (if hi < n then n - hi else 0) = max 0 (n - hi) := by split <;> omega
    unfold ps
    try rw [e] at h
    try rw [e]
    omega
set_option maxHeartbeats 8000000 in
set_option maxRecDepth 100000 in
theorem ends_ok (A : Option Addr) (c n : Nat) (X : List Int) (b : Int) (j : Nat) (n2 : n ≤ 32) (hs : Sam X) (b0 : 0 ≤ b) (b32 : b ≤ 32) (hj : j ≤ 100) (w : World) (h : Zi w A n X) :
    Calls Try.prog 27 #[.slice A n c, .int .i64 b, .int .i64 (j : Int)] w fun e w' => e = .returned (.tuple #[.int .i64 (eu X b j n), .int .i64 (el X b j n)]) ∧ Bel w w' := by
  have H1 := Lib.hid h
  have HS := Lib.hid hs
  have HBU := Lib.hid (eu_bd hs b j)
  have HBL := Lib.hid (el_bd hs b j)
  have i2 : (n : Int) ≤ 32 := by omega
  have i3 : (j : Int) ≤ 100 := by omega
  clear h hs
  go_enter Try.func27, Try.ntmps27
  go_wp2
  go_loopw [8, 9, 13] (fun s8 s9 s13 wr => ∃ (t : Nat) (V : World), V = wr ∧ t ≤ n ∧ s13 = .int .i64 (t : Int) ∧ s8 = .int .i64 (eu X b j t) ∧ s9 = .int .i64 (el X b j t) ∧ Bel w wr) (fun _ _ s13 _ => n - (intOf s13).toNat)
  case atStart => exact ⟨0, _, rfl, by omega, rfl, rfl, rfl, Bel.rf⟩
  case round =>
    obtain ⟨t, wr, hwr, ht, rfl, rfl, rfl, hb⟩ := hrel
    subst hwr
    have HB := Lib.hid hb
    rcases Nat.lt_or_ge t n with hlt | hge
    · obtain ⟨ad, rfl, _, hac⟩ := (H1.out.bel hb).2 (by omega)
      have c1 := hac t hlt
      obtain ⟨x, hx⟩ : ∃ x, X.getD t 0 = x := ⟨_, rfl⟩
      have px := HS.out.at t
      rw [hx] at c1 px
      obtain ⟨x0, x1⟩ := px
      have ti : (t : Int) < (n : Int) := by omega
      have wt1 : wrap64 ((t : Int) - (j : Int)) = (t : Int) - (j : Int) := IntWalk.wrap64_in _ (by omega)
      have wt2 : wrap64 ((j : Int) - (t : Int)) = (j : Int) - (t : Int) := IntWalk.wrap64_in _ (by omega)
      obtain ⟨U, hU⟩ : ∃ U, eu X b j t = U := ⟨_, rfl⟩
      obtain ⟨l, hl⟩ : ∃ l, el X b j t = l := ⟨_, rfl⟩
      have bu := HBU.out t
      have bl := HBL.out t
      rw [hU] at bu ⊢
      rw [hl] at bl ⊢
      obtain ⟨u0, u1⟩ := bu
      obtain ⟨l0, l1⟩ := bl
      have HX := Lib.hid hx
      have HU := Lib.hid hU
      have HL := Lib.hid hl
      clear hac hx hb hU hl
      rcases (by omega : ((t : Int) - (j : Int) ≤ b ∧ (j : Int) - (t : Int) ≤ b) ∨ (¬ (t : Int) - (j : Int) ≤ b) ∨ ((t : Int) - (j : Int) ≤ b ∧ ¬ (j : Int) - (t : Int) ≤ b)) with ⟨p1, p2⟩ | p1 | ⟨p1, p2⟩
      · have q1 : decide ((t : Int) - (j : Int) ≤ b) = true := decide_eq_true p1
        have q2 : decide ((j : Int) - (t : Int) ≤ b) = true := decide_eq_true p2
        have HU2 : Hid (eu X b j (t + 1) = max U x) := by show _ = _; rw [eu_yes ⟨p1, p2⟩, HU.out, HX.out]
        have HL2 : Hid (el X b j (t + 1) = min l x) := by show _ = _; rw [el_yes ⟨p1, p2⟩, HL.out, HX.out]
        rcases (by omega : (U < x ∧ x < l) ∨ (U < x ∧ ¬ x < l) ∨ (¬ U < x ∧ x < l) ∨ (¬ U < x ∧ ¬ x < l)) with ⟨m1, m2⟩ | ⟨m1, m2⟩ | ⟨m1, m2⟩ | ⟨m1, m2⟩
        · have k1 : decide (U < x) = true := decide_eq_true m1
          have k2 : decide (x < l) = true := decide_eq_true m2
          have HU3 : Hid (eu X b j (t + 1) = x) := by show _ = _; rw [HU2.out]; omega
          have HL3 : Hid (el X b j (t + 1) = x) := by show _ = _; rw [HL2.out]; omega
          go_wp2
          go_quiet (fail)
          go_wp2
          go_roundw
          case rel => exact ⟨t + 1, _, rfl, by omega, by go_num, by rw [HU3.out], by rw [HL3.out], by first | exact HB.out.drwN _ | exact HB.out.drw | exact HB.out⟩
          case measure => simp [intOf]; omega
        · have k1 : decide (U < x) = true := decide_eq_true m1
          have k2 : decide (x < l) = false := decide_eq_false m2
          have HU3 : Hid (eu X b j (t + 1) = x) := by show _ = _; rw [HU2.out]; omega
          have HL3 : Hid (el X b j (t + 1) = l) := by show _ = _; rw [HL2.out]; omega
          go_wp2
          go_quiet (fail)
          go_wp2
          go_roundw
          case rel => exact ⟨t + 1, _, rfl, by omega, by go_num, by rw [HU3.out], by rw [HL3.out], by first | exact HB.out.drwN _ | exact HB.out.drw | exact HB.out⟩
          case measure => simp [intOf]; omega
        · have k1 : decide (U < x) = false := decide_eq_false m1
          have k2 : decide (x < l) = true := decide_eq_true m2
          have HU3 : Hid (eu X b j (t + 1) = U) := by show _ = _; rw [HU2.out]; omega
          have HL3 : Hid (el X b j (t + 1) = x) := by show _ = _; rw [HL2.out]; omega
          go_wp2
          go_quiet (fail)
          go_wp2
          go_roundw
          case rel => exact ⟨t + 1, _, rfl, by omega, by go_num, by rw [HU3.out], by rw [HL3.out], by first | exact HB.out.drwN _ | exact HB.out.drw | exact HB.out⟩
          case measure => simp [intOf]; omega
        · have k1 : decide (U < x) = false := decide_eq_false m1
          have k2 : decide (x < l) = false := decide_eq_false m2
          have HU3 : Hid (eu X b j (t + 1) = U) := by show _ = _; rw [HU2.out]; omega
          have HL3 : Hid (el X b j (t + 1) = l) := by show _ = _; rw [HL2.out]; omega
          go_wp2
          go_quiet (fail)
          go_wp2
          go_roundw
          case rel => exact ⟨t + 1, _, rfl, by omega, by go_num, by rw [HU3.out], by rw [HL3.out], by first | exact HB.out.drwN _ | exact HB.out.drw | exact HB.out⟩
          case measure => simp [intOf]; omega
      · have q1 : decide ((t : Int) - (j : Int) ≤ b) = false := decide_eq_false p1
        have HU3 : Hid (eu X b j (t + 1) = U) := by show _ = _; rw [eu_no (fun h => p1 h.1), HU.out]
        have HL3 : Hid (el X b j (t + 1) = l) := by show _ = _; rw [el_no (fun h => p1 h.1), HL.out]
        go_wp2
        go_roundw
        case rel => exact ⟨t + 1, _, rfl, by omega, by go_num, by rw [HU3.out], by rw [HL3.out], by first | exact HB.out.drwN _ | exact HB.out.drw | exact HB.out⟩
        case measure => simp [intOf]; omega
      · have q1 : decide ((t : Int) - (j : Int) ≤ b) = true := decide_eq_true p1
        have q2 : decide ((j : Int) - (t : Int) ≤ b) = false := decide_eq_false p2
        have HU3 : Hid (eu X b j (t + 1) = U) := by show _ = _; rw [eu_no (fun h => p2 h.2), HU.out]
        have HL3 : Hid (el X b j (t + 1) = l) := by show _ = _; rw [el_no (fun h => p2 h.2), HL.out]
        go_wp2
        go_roundw
        case rel => exact ⟨t + 1, _, rfl, by omega, by go_num, by rw [HU3.out], by rw [HL3.out], by first | exact HB.out.drwN _ | exact HB.out.drw | exact HB.out⟩
        case measure => simp [intOf]; omega
    · obtain rfl : t = n := by omega
      clear hb
      go_wp2
      go_ret2
      exact ⟨rfl, HB.out⟩
end Go.Proofs.Ytkonknkoggfeaaa.Ev
