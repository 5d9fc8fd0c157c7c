/- word.Cmp of full words; shapesearchref19.Same of any two words of so many pieces. -/
import Derived.Test.YtgdhgeongdenpaaWdV
namespace Go.Proofs.Ytgdhgeongdenpaa.Wd
open Go.ChangeShapes Go.WideShapes Go.RowKit Wo Sr Wi Ms
set_option linter.unusedVariables false
set_option linter.unusedSimpArgs false
theorem and1_i64 {a : Nat} (ha : a ≤ 9223372036854775807) : bits .and .i64 (a : Int) 1 = ((a % 2 : Nat) : Int) := by
  show IntKind.i64.wrap (((BitVec.ofInt 64 (a : Int) &&& BitVec.ofInt 64 ((1 : Nat) : Int)).toNat : Nat) : Int) = _
  rw [BitVec.ofInt_natCast, BitVec.ofInt_natCast, BitVec.toNat_and, BitVec.toNat_ofNat, BitVec.toNat_ofNat, show (2 : Nat) ^ 64 = 18446744073709551616 from rfl, Nat.mod_eq_of_lt (by omega), show (1 : Nat) % 18446744073709551616 = 1 from rfl, Nat.and_one_is_mod]
  exact IntWalk.i64_in _ (by omega)
theorem or1_i64 {v x : Nat} (hv : v < 4294967296) (hx : x < 2) : bits .or .i64 ((2 * v : Nat) : Int) (x : Int) = ((2 * v + x : Nat) : Int) := by
  have e : (2 * v) ||| x = 2 * v + x := by
    rw [show 2 * v = 2 ^ 1 * v by omega, Nat.two_pow_add_eq_or_of_lt (by omega : x < 2 ^ 1)]
  show IntKind.i64.wrap (((BitVec.ofInt 64 ((2 * v : Nat) : Int) ||| BitVec.ofInt 64 (x : Int)).toNat : Nat) : Int) = _
  rw [BitVec.ofInt_natCast, BitVec.ofInt_natCast, BitVec.toNat_or, BitVec.toNat_ofNat, BitVec.toNat_ofNat, show (2 : Nat) ^ 64 = 18446744073709551616 from rfl, Nat.mod_eq_of_lt (by omega), Nat.mod_eq_of_lt (by omega), e]
  exact IntWalk.i64_in _ (by omega)
set_option maxHeartbeats 8000000 in
set_option maxRecDepth 100000 in
theorem shuffled_ok (n : Nat) (sA bA : Option Addr) (sc bc : Nat) (F : List Int) (n1 : 1 ≤ n) (n8 : n ≤ 8) (hF : ∀ p, p < n → 0 ≤ F.getD p 0 ∧ F.getD p 0 < 16) (w : World) (hz : Zi w sA n F) :
    Calls Try.prog 61 #[Wx n sA bA sc bc] w fun e w' => e = .returned (.int .i64 (shf n F : Int)) ∧ Bel w w' := by
  have HZ := Lib.hid hz
  have HF := Lib.hid hF
  have HB0 : Hid (Bk (w.alloc (.cells #[.slice sA n sc, .slice bA n bc] 32)) w.heap.size 32 #[.slice sA n sc, .slice bA n bc]) := Bk.nw _ _ _
  have HW0 : Hid (Bel w (w.alloc (.cells #[.slice sA n sc, .slice bA n bc] 32))) := Bel.rf.al _
  have HPV : Hid (∀ i, i ≤ 4 * n → pv (fb n F) i < 4294967296) := fun i hi => shf_lt F n8 i hi
  clear hz hF
  unfold Wx
  go_enter Try.func61, Try.ntmps61
  go_wp2_with fail
  go_loopw [4, 3] (fun s4 s3 wr => ∃ (r : Nat) (b : Int) (V : World), V = wr ∧ r ≤ 4 ∧ b + (r : Int) = 3 ∧ s4 = .int .i64 b ∧ s3 = .int .i64 (pv (fb n F) (r * n) : Int) ∧ Bel (w.alloc (.cells #[.slice sA n sc, .slice bA n bc] 32)) wr) (fun s4 _ _ => (intOf s4 + 1).toNat)
  case atStart => exact ⟨0, 3, _, rfl, by omega, by omega, by go_num, by simp [pv], (by repeat (first | exact Bel.rf | (with_reducible refine Bel.drwN ?_ _) | (with_reducible refine Bel.drw ?_) | (with_reducible refine Bel.al ?_ _)))⟩
  case round =>
    obtain ⟨r, b, wr, hwr, hr, hb3, rfl, rfl, hb⟩ := hrel
    subst hwr
    have HB := Lib.hid hb
    have q0 := (HB0.out.bel hb).cell 0
    simp only [List.getElem?_toArray, List.getElem?_cons_zero, List.getElem?_cons_succ] at q0
    clear hb
    rcases Nat.lt_or_ge r 4 with hlt | hge
    · obtain ⟨sad, e', _, _⟩ := HZ.out.2 n1
      subst e'
      rcases (by omega : r = 0 ∨ r = 1 ∨ r = 2 ∨ r = 3) with e | e | e | e
      · obtain rfl : b = 3 := by omega
        subst e
        obtain ⟨v0, hv0⟩ : ∃ v, pv (fb n F) (0 * n) = v := ⟨_, rfl⟩
        rw [hv0]
        go_wp2_with fail
        go_loopw [14, 3] (fun s14 s3 wi => ∃ (p : Nat) (V : World), V = wi ∧ p ≤ n ∧ s14 = .int .i64 (p : Int) ∧ s3 = .int .i64 (pv (fb n F) (0 * n + p) : Int) ∧ Bel wr wi) (fun s14 _ _ => n - (intOf s14).toNat)
        case atStart => exact ⟨0, _, rfl, by omega, by go_num, by rw [Nat.add_zero, hv0], (by repeat (first | exact Bel.rf | (with_reducible refine Bel.drwN ?_ _) | (with_reducible refine Bel.drw ?_) | (with_reducible refine Bel.al ?_ _)))⟩
        case round =>
          obtain ⟨p, wi, hwi, hp, rfl, rfl, hbi⟩ := hrel
          subst hwi
          have HBI := Lib.hid hbi
          clear hbi
          rcases Nat.lt_or_ge p n with plt | pge
          · obtain ⟨ad', e', _, hc⟩ := (HZ.out.bel (HW0.out.tr (HB.out.tr HBI.out))).2 n1
            cases e'
            have c1 := hc p plt
            obtain ⟨f0, f1⟩ := HF.out p plt
            have hnx : pv (fb n F) (0 * n + p + 1) = 2 * pv (fb n F) (0 * n + p) + (F.getD p 0).toNat / 2 ^ (3 - 0) % 2 := by
              show 2 * pv (fb n F) (0 * n + p) + fb n F (0 * n + p) = _
              rw [fb_at n 0 p F plt]
            have hv1 := HPV.out (0 * n + p + 1) (by omega)
            obtain ⟨x, hx⟩ := Int.eq_ofNat_of_zero_le f0
            rw [hx] at c1 f1 hnx
            obtain ⟨v, hv⟩ : ∃ v, pv (fb n F) (0 * n + p) = v := ⟨_, rfl⟩
            rw [hv] at hnx ⊢
            rw [hnx] at hv1
            rw [Int.toNat_natCast] at hnx hv1
            have pi : (p : Int) < (n : Int) := by omega
            have p0 : (0 : Int) ≤ (p : Int) := by omega
            have hvl : v < 2147483648 := by omega
            have HVAL : Hid (bits .or .i64 ((v : Int) * 2) (bits .and .i64 ((x : Int) / 8) 1) = ((pv (fb n F) (0 * n + (p + 1)) : Nat) : Int)) := by
              show _ = _
              rw [show 0 * n + (p + 1) = 0 * n + p + 1 from rfl, hnx, show ((x : Int) / 8 : Int) = ((x / 2 ^ (3 - 0) : Nat) : Int) by (try simp), and1_i64 (by have := Nat.div_le_self x (2 ^ (3 - 0)); omega), show (v : Int) * 2 = ((2 * v : Nat) : Int) by omega, or1_i64 (by omega) (Nat.mod_lt _ (by decide))]
            clear hc hx hnx hv1 f0
            go_wp2
            go_roundw
            case rel => exact ⟨p + 1, _, rfl, by omega, by go_num, congrArg (Value.int .i64) HVAL.out, (by repeat (first | exact HBI.out | (with_reducible refine Bel.drwN ?_ _) | (with_reducible refine Bel.drw ?_) | (with_reducible refine Bel.al ?_ _)))⟩
            case measure => simp [intOf]; omega
          · obtain rfl : p = n := by omega
            go_wp2
            go_roundw
            case rel => exact ⟨0 + 1, 3 - 1, _, rfl, by omega, by omega, by go_num, by rw [show (0 + 1) * p = 0 * p + p by omega], HB.out.tr (by repeat (first | exact HBI.out | (with_reducible refine Bel.drwN ?_ _) | (with_reducible refine Bel.drw ?_) | (with_reducible refine Bel.al ?_ _)))⟩
            case measure => simp [intOf]
      · obtain rfl : b = 2 := by omega
        subst e
        obtain ⟨v0, hv0⟩ : ∃ v, pv (fb n F) (1 * n) = v := ⟨_, rfl⟩
        rw [hv0]
        go_wp2_with fail
        go_loopw [14, 3] (fun s14 s3 wi => ∃ (p : Nat) (V : World), V = wi ∧ p ≤ n ∧ s14 = .int .i64 (p : Int) ∧ s3 = .int .i64 (pv (fb n F) (1 * n + p) : Int) ∧ Bel wr wi) (fun s14 _ _ => n - (intOf s14).toNat)
        case atStart => exact ⟨0, _, rfl, by omega, by go_num, by rw [Nat.add_zero, hv0], (by repeat (first | exact Bel.rf | (with_reducible refine Bel.drwN ?_ _) | (with_reducible refine Bel.drw ?_) | (with_reducible refine Bel.al ?_ _)))⟩
        case round =>
          obtain ⟨p, wi, hwi, hp, rfl, rfl, hbi⟩ := hrel
          subst hwi
          have HBI := Lib.hid hbi
          clear hbi
          rcases Nat.lt_or_ge p n with plt | pge
          · obtain ⟨ad', e', _, hc⟩ := (HZ.out.bel (HW0.out.tr (HB.out.tr HBI.out))).2 n1
            cases e'
            have c1 := hc p plt
            obtain ⟨f0, f1⟩ := HF.out p plt
            have hnx : pv (fb n F) (1 * n + p + 1) = 2 * pv (fb n F) (1 * n + p) + (F.getD p 0).toNat / 2 ^ (3 - 1) % 2 := by
              show 2 * pv (fb n F) (1 * n + p) + fb n F (1 * n + p) = _
              rw [fb_at n 1 p F plt]
            have hv1 := HPV.out (1 * n + p + 1) (by omega)
            obtain ⟨x, hx⟩ := Int.eq_ofNat_of_zero_le f0
            rw [hx] at c1 f1 hnx
            obtain ⟨v, hv⟩ : ∃ v, pv (fb n F) (1 * n + p) = v := ⟨_, rfl⟩
            rw [hv] at hnx ⊢
            rw [hnx] at hv1
            rw [Int.toNat_natCast] at hnx hv1
            have pi : (p : Int) < (n : Int) := by omega
            have p0 : (0 : Int) ≤ (p : Int) := by omega
            have hvl : v < 2147483648 := by omega
            have HVAL : Hid (bits .or .i64 ((v : Int) * 2) (bits .and .i64 ((x : Int) / 4) 1) = ((pv (fb n F) (1 * n + (p + 1)) : Nat) : Int)) := by
              show _ = _
              rw [show 1 * n + (p + 1) = 1 * n + p + 1 from rfl, hnx, show ((x : Int) / 4 : Int) = ((x / 2 ^ (3 - 1) : Nat) : Int) by (try simp), and1_i64 (by have := Nat.div_le_self x (2 ^ (3 - 1)); omega), show (v : Int) * 2 = ((2 * v : Nat) : Int) by omega, or1_i64 (by omega) (Nat.mod_lt _ (by decide))]
            clear hc hx hnx hv1 f0
            go_wp2
            go_roundw
            case rel => exact ⟨p + 1, _, rfl, by omega, by go_num, congrArg (Value.int .i64) HVAL.out, (by repeat (first | exact HBI.out | (with_reducible refine Bel.drwN ?_ _) | (with_reducible refine Bel.drw ?_) | (with_reducible refine Bel.al ?_ _)))⟩
            case measure => simp [intOf]; omega
          · obtain rfl : p = n := by omega
            go_wp2
            go_roundw
            case rel => exact ⟨1 + 1, 2 - 1, _, rfl, by omega, by omega, by go_num, by rw [show (1 + 1) * p = 1 * p + p by omega], HB.out.tr (by repeat (first | exact HBI.out | (with_reducible refine Bel.drwN ?_ _) | (with_reducible refine Bel.drw ?_) | (with_reducible refine Bel.al ?_ _)))⟩
            case measure => simp [intOf]
      · obtain rfl : b = 1 := by omega
        subst e
        obtain ⟨v0, hv0⟩ : ∃ v, pv (fb n F) (2 * n) = v := ⟨_, rfl⟩
        rw [hv0]
        go_wp2_with fail
        go_loopw [14, 3] (fun s14 s3 wi => ∃ (p : Nat) (V : World), V = wi ∧ p ≤ n ∧ s14 = .int .i64 (p : Int) ∧ s3 = .int .i64 (pv (fb n F) (2 * n + p) : Int) ∧ Bel wr wi) (fun s14 _ _ => n - (intOf s14).toNat)
        case atStart => exact ⟨0, _, rfl, by omega, by go_num, by rw [Nat.add_zero, hv0], (by repeat (first | exact Bel.rf | (with_reducible refine Bel.drwN ?_ _) | (with_reducible refine Bel.drw ?_) | (with_reducible refine Bel.al ?_ _)))⟩
        case round =>
          obtain ⟨p, wi, hwi, hp, rfl, rfl, hbi⟩ := hrel
          subst hwi
          have HBI := Lib.hid hbi
          clear hbi
          rcases Nat.lt_or_ge p n with plt | pge
          · obtain ⟨ad', e', _, hc⟩ := (HZ.out.bel (HW0.out.tr (HB.out.tr HBI.out))).2 n1
            cases e'
            have c1 := hc p plt
            obtain ⟨f0, f1⟩ := HF.out p plt
            have hnx : pv (fb n F) (2 * n + p + 1) = 2 * pv (fb n F) (2 * n + p) + (F.getD p 0).toNat / 2 ^ (3 - 2) % 2 := by
              show 2 * pv (fb n F) (2 * n + p) + fb n F (2 * n + p) = _
              rw [fb_at n 2 p F plt]
            have hv1 := HPV.out (2 * n + p + 1) (by omega)
            obtain ⟨x, hx⟩ := Int.eq_ofNat_of_zero_le f0
            rw [hx] at c1 f1 hnx
            obtain ⟨v, hv⟩ : ∃ v, pv (fb n F) (2 * n + p) = v := ⟨_, rfl⟩
            rw [hv] at hnx ⊢
            rw [hnx] at hv1
            rw [Int.toNat_natCast] at hnx hv1
            have pi : (p : Int) < (n : Int) := by omega
            have p0 : (0 : Int) ≤ (p : Int) := by omega
            have hvl : v < 2147483648 := by omega
            have HVAL : Hid (bits .or .i64 ((v : Int) * 2) (bits .and .i64 ((x : Int) / 2) 1) = ((pv (fb n F) (2 * n + (p + 1)) : Nat) : Int)) := by
              show _ = _
              rw [show 2 * n + (p + 1) = 2 * n + p + 1 from rfl, hnx, show ((x : Int) / 2 : Int) = ((x / 2 ^ (3 - 2) : Nat) : Int) by (try simp), and1_i64 (by have := Nat.div_le_self x (2 ^ (3 - 2)); omega), show (v : Int) * 2 = ((2 * v : Nat) : Int) by omega, or1_i64 (by omega) (Nat.mod_lt _ (by decide))]
            clear hc hx hnx hv1 f0
            go_wp2
            go_roundw
            case rel => exact ⟨p + 1, _, rfl, by omega, by go_num, congrArg (Value.int .i64) HVAL.out, (by repeat (first | exact HBI.out | (with_reducible refine Bel.drwN ?_ _) | (with_reducible refine Bel.drw ?_) | (with_reducible refine Bel.al ?_ _)))⟩
            case measure => simp [intOf]; omega
          · obtain rfl : p = n := by omega
            go_wp2
            go_roundw
            case rel => exact ⟨2 + 1, 1 - 1, _, rfl, by omega, by omega, by go_num, by rw [show (2 + 1) * p = 2 * p + p by omega], HB.out.tr (by repeat (first | exact HBI.out | (with_reducible refine Bel.drwN ?_ _) | (with_reducible refine Bel.drw ?_) | (with_reducible refine Bel.al ?_ _)))⟩
            case measure => simp [intOf]
      · obtain rfl : b = 0 := by omega
        subst e
        obtain ⟨v0, hv0⟩ : ∃ v, pv (fb n F) (3 * n) = v := ⟨_, rfl⟩
        rw [hv0]
        go_wp2_with fail
        go_loopw [14, 3] (fun s14 s3 wi => ∃ (p : Nat) (V : World), V = wi ∧ p ≤ n ∧ s14 = .int .i64 (p : Int) ∧ s3 = .int .i64 (pv (fb n F) (3 * n + p) : Int) ∧ Bel wr wi) (fun s14 _ _ => n - (intOf s14).toNat)
        case atStart => exact ⟨0, _, rfl, by omega, by go_num, by rw [Nat.add_zero, hv0], (by repeat (first | exact Bel.rf | (with_reducible refine Bel.drwN ?_ _) | (with_reducible refine Bel.drw ?_) | (with_reducible refine Bel.al ?_ _)))⟩
        case round =>
          obtain ⟨p, wi, hwi, hp, rfl, rfl, hbi⟩ := hrel
          subst hwi
          have HBI := Lib.hid hbi
          clear hbi
          rcases Nat.lt_or_ge p n with plt | pge
          · obtain ⟨ad', e', _, hc⟩ := (HZ.out.bel (HW0.out.tr (HB.out.tr HBI.out))).2 n1
            cases e'
            have c1 := hc p plt
            obtain ⟨f0, f1⟩ := HF.out p plt
            have hnx : pv (fb n F) (3 * n + p + 1) = 2 * pv (fb n F) (3 * n + p) + (F.getD p 0).toNat / 2 ^ (3 - 3) % 2 := by
              show 2 * pv (fb n F) (3 * n + p) + fb n F (3 * n + p) = _
              rw [fb_at n 3 p F plt]
            have hv1 := HPV.out (3 * n + p + 1) (by omega)
            obtain ⟨x, hx⟩ := Int.eq_ofNat_of_zero_le f0
            rw [hx] at c1 f1 hnx
            obtain ⟨v, hv⟩ : ∃ v, pv (fb n F) (3 * n + p) = v := ⟨_, rfl⟩
            rw [hv] at hnx ⊢
            rw [hnx] at hv1
            rw [Int.toNat_natCast] at hnx hv1
            have pi : (p : Int) < (n : Int) := by omega
            have p0 : (0 : Int) ≤ (p : Int) := by omega
            have hvl : v < 2147483648 := by omega
            have HVAL : Hid (bits .or .i64 ((v : Int) * 2) (bits .and .i64 ((x : Int)) 1) = ((pv (fb n F) (3 * n + (p + 1)) : Nat) : Int)) := by
              show _ = _
              rw [show 3 * n + (p + 1) = 3 * n + p + 1 from rfl, hnx, show ((x : Int) : Int) = ((x / 2 ^ (3 - 3) : Nat) : Int) by (try simp), and1_i64 (by have := Nat.div_le_self x (2 ^ (3 - 3)); omega), show (v : Int) * 2 = ((2 * v : Nat) : Int) by omega, or1_i64 (by omega) (Nat.mod_lt _ (by decide))]
            clear hc hx hnx hv1 f0
            go_wp2
            go_roundw
            case rel => exact ⟨p + 1, _, rfl, by omega, by go_num, congrArg (Value.int .i64) HVAL.out, (by repeat (first | exact HBI.out | (with_reducible refine Bel.drwN ?_ _) | (with_reducible refine Bel.drw ?_) | (with_reducible refine Bel.al ?_ _)))⟩
            case measure => simp [intOf]; omega
          · obtain rfl : p = n := by omega
            go_wp2
            go_roundw
            case rel => exact ⟨3 + 1, 0 - 1, _, rfl, by omega, by omega, by go_num, by rw [show (3 + 1) * p = 3 * p + p by omega], HB.out.tr (by repeat (first | exact HBI.out | (with_reducible refine Bel.drwN ?_ _) | (with_reducible refine Bel.drw ?_) | (with_reducible refine Bel.al ?_ _)))⟩
            case measure => simp [intOf]
    · obtain rfl : r = 4 := by omega
      obtain rfl : b = -1 := by omega
      go_wp2
      go_ret
      exact ⟨rfl, HW0.out.tr (by repeat (first | exact HB.out | (with_reducible refine Bel.drwN ?_ _) | (with_reducible refine Bel.drw ?_) | (with_reducible refine Bel.al ?_ _)))⟩
/-- the order of two numbers -/
def cm (x y : Int) : Int := if x < y then -1 else if y < x then 1 else 0
set_option maxHeartbeats 8000000 in
set_option maxRecDepth 100000 in
theorem compare_ok (x y : Int) (w : World) : Calls Try.prog 60 #[.int .i64 x, .int .i64 y] w fun e w' => e = .returned (.int .i64 (cm x y)) ∧ w = w' := by
  rcases Int.lt_trichotomy x y with h | h | h
  · have HE : Hid (cm x y = -1) := if_pos h
    go_enter Try.func60, Try.ntmps60
    go_wp2_with (go_at_call 98; refine (nanc_ok _ _).mono ?_; rintro e w' ⟨rfl, rfl⟩)
    go_ret
    exact ⟨congrArg (fun z => Ending.returned (.int .i64 z)) HE.out.symm, rfl⟩
  · subst h
    have HE : Hid (cm x x = 0) := by show _ = _; unfold cm; rw [if_neg (by omega), if_neg (by omega)]
    go_enter Try.func60, Try.ntmps60
    go_wp2_with (go_at_call 98; refine (nanc_ok _ _).mono ?_; rintro e w' ⟨rfl, rfl⟩)
    go_ret
    exact ⟨congrArg (fun z => Ending.returned (.int .i64 z)) HE.out.symm, rfl⟩
  · have HE : Hid (cm x y = 1) := by show _ = _; unfold cm; rw [if_neg (by omega), if_pos h]
    have h2 : ¬ x < y := by omega
    have d2 : decide (x < y) = false := decide_eq_false h2
    go_enter Try.func60, Try.ntmps60
    go_wp2_with (go_at_call 98; refine (nanc_ok _ _).mono ?_; rintro e w' ⟨rfl, rfl⟩)
    go_ret
    exact ⟨congrArg (fun z => Ending.returned (.int .i64 z)) HE.out.symm, rfl⟩
set_option maxHeartbeats 8000000 in
set_option maxRecDepth 100000 in
theorem cmp_ok (k b g : Int) (m n : Nat) (A sA bA fA eA : Option Addr) (nc cc sc bc fc ec : Nat) (C S B F E : List Int) (hs : Sv k b g m n C) (hv : Wv n S B) (hf : Wv n F E) (h4 : ∀ p, p < n → B.getD p 0 = 4) (h5 : ∀ p, p < n → E.getD p 0 = 4) (hS16 : ∀ p, p < n → 0 ≤ S.getD p 0 ∧ S.getD p 0 < 16) (hF16 : ∀ p, p < n → 0 ≤ F.getD p 0 ∧ F.getD p 0 < 16) (w : World) (hz : Zi w A nc C) (hS : Zi w sA n S) (hB : Zi w bA n B) (hF : Zi w fA n F) (hE : Zi w eA n E) :
    Calls Try.prog 23 #[Sx k b g m n A nc cc, Wx n sA bA sc bc, Wx n fA eA fc ec] w fun e w' => e = .returned (.int .i64 (cm (shf n S : Int) (shf n F : Int))) ∧ Bel w w' := by
  have FU1 : Hid (∀ W, Bel w W → Calls Try.prog 54 #[.agg #[.int .i64 k, .int .i64 b, .int .i64 g, .int .i64 (m : Int), .int .i64 (n : Int), .slice A nc cc], .agg #[.slice sA n sc, .slice bA n bc]] W fun e w' => e = .returned (.bool true) ∧ Bel W w') := fun W hW => full_ok k b g m n A sA bA nc cc sc bc C S B hs hv h4 W (hz.bel hW) (hS.bel hW) (hB.bel hW)
  have FU2 : Hid (∀ W, Bel w W → Calls Try.prog 54 #[.agg #[.int .i64 k, .int .i64 b, .int .i64 g, .int .i64 (m : Int), .int .i64 (n : Int), .slice A nc cc], .agg #[.slice fA n fc, .slice eA n ec]] W fun e w' => e = .returned (.bool true) ∧ Bel W w') := fun W hW => full_ok k b g m n A fA eA nc cc fc ec C F E hs hf h5 W (hz.bel hW) (hF.bel hW) (hE.bel hW)
  have n1 := hs.n1
  have n8 := hs.n8
  have SH1 : Hid (∀ W, Bel w W → Calls Try.prog 61 #[.agg #[.slice sA n sc, .slice bA n bc]] W fun e w' => e = .returned (.int .i64 (shf n S : Int)) ∧ Bel W w') := fun W hW => shuffled_ok n sA bA sc bc S n1 n8 hS16 W (hS.bel hW)
  have SH2 : Hid (∀ W, Bel w W → Calls Try.prog 61 #[.agg #[.slice fA n fc, .slice eA n ec]] W fun e w' => e = .returned (.int .i64 (shf n F : Int)) ∧ Bel W w') := fun W hW => shuffled_ok n fA eA fc ec F n1 n8 hF16 W (hF.bel hW)
  obtain ⟨X, hX⟩ : ∃ X : Int, (shf n S : Int) = X := ⟨_, rfl⟩
  obtain ⟨Y, hY⟩ : ∃ X : Int, (shf n F : Int) = X := ⟨_, rfl⟩
  rw [hX] at SH1 ⊢
  rw [hY] at SH2 ⊢
  have HB1 : Hid (Bk (((w.alloc (.cells #[.int .i64 k, .int .i64 b, .int .i64 g, .int .i64 (m : Int), .int .i64 (n : Int), .slice A nc cc] 28)).alloc (.cells #[.slice sA n sc, .slice bA n bc] 32)).alloc (.cells #[.slice fA n fc, .slice eA n ec] 32)) w.heap.size 28 #[.int .i64 k, .int .i64 b, .int .i64 g, .int .i64 (m : Int), .int .i64 (n : Int), .slice A nc cc]) := ((Bk.nw _ _ _).al _).al _
  have HB2 : Hid (Bk (((w.alloc (.cells #[.int .i64 k, .int .i64 b, .int .i64 g, .int .i64 (m : Int), .int .i64 (n : Int), .slice A nc cc] 28)).alloc (.cells #[.slice sA n sc, .slice bA n bc] 32)).alloc (.cells #[.slice fA n fc, .slice eA n ec] 32)) (w.heap.size + 1) 32 #[.slice sA n sc, .slice bA n bc]) := (Bk.nq _ _ _ (by simp)).al _
  have HB3 : Hid (Bk (((w.alloc (.cells #[.int .i64 k, .int .i64 b, .int .i64 g, .int .i64 (m : Int), .int .i64 (n : Int), .slice A nc cc] 28)).alloc (.cells #[.slice sA n sc, .slice bA n bc] 32)).alloc (.cells #[.slice fA n fc, .slice eA n ec] 32)) (w.heap.size + 1 + 1) 32 #[.slice fA n fc, .slice eA n ec]) := Bk.nq _ _ _ (by simp)
  have HW0 : Hid (Bel w (((w.alloc (.cells #[.int .i64 k, .int .i64 b, .int .i64 g, .int .i64 (m : Int), .int .i64 (n : Int), .slice A nc cc] 28)).alloc (.cells #[.slice sA n sc, .slice bA n bc] 32)).alloc (.cells #[.slice fA n fc, .slice eA n ec] 32))) := ((Bel.rf.al _).al _).al _
  have KS : Hid (∀ W, Bel (((w.alloc (.cells #[.int .i64 k, .int .i64 b, .int .i64 g, .int .i64 (m : Int), .int .i64 (n : Int), .slice A nc cc] 28)).alloc (.cells #[.slice sA n sc, .slice bA n bc] 32)).alloc (.cells #[.slice fA n fc, .slice eA n ec] 32)) W → (fun W : World => W.cell? ⟨w.heap.size, 0, none⟩ = some (.int .i64 k) ∧ W.cell? ⟨w.heap.size, 1, none⟩ = some (.int .i64 b) ∧ W.cell? ⟨w.heap.size, 2, none⟩ = some (.int .i64 g) ∧ W.cell? ⟨w.heap.size, 3, none⟩ = some (.int .i64 (m : Int)) ∧ W.cell? ⟨w.heap.size, 4, none⟩ = some (.int .i64 (n : Int)) ∧ W.cell? ⟨w.heap.size, 5, none⟩ = some (.slice A nc cc) ∧ W.cell? ⟨w.heap.size + 1, 0, none⟩ = some (.slice sA n sc) ∧ W.cell? ⟨w.heap.size + 1, 1, none⟩ = some (.slice bA n bc) ∧ W.cell? ⟨w.heap.size + 1 + 1, 0, none⟩ = some (.slice fA n fc) ∧ W.cell? ⟨w.heap.size + 1 + 1, 1, none⟩ = some (.slice eA n ec)) W) := fun W hW => by
    have u0 := (HB1.out.bel hW).cell 0
    have u1 := (HB1.out.bel hW).cell 1
    have u2 := (HB1.out.bel hW).cell 2
    have u3 := (HB1.out.bel hW).cell 3
    have u4 := (HB1.out.bel hW).cell 4
    have u5 := (HB1.out.bel hW).cell 5
    have u6 := (HB2.out.bel hW).cell 0
    have u7 := (HB2.out.bel hW).cell 1
    have u8 := (HB3.out.bel hW).cell 0
    have u9 := (HB3.out.bel hW).cell 1
    simp only [List.getElem?_toArray, List.getElem?_cons_zero, List.getElem?_cons_succ] at u0 u1 u2 u3 u4 u5 u6 u7 u8 u9
    exact ⟨u0, u1, u2, u3, u4, u5, u6, u7, u8, u9⟩
  clear hs hv hf h4 h5 hS16 hF16 hz hS hB hF hE hX hY
  unfold Sx Wx
  go_enter Try.func23, Try.ntmps23
  go_wp2_with fail
  go_at_call 54
  refine (FU1.out _ (HW0.out.tr (by repeat (first | exact Bel.rf | (with_reducible refine Bel.drwN ?_ _) | (with_reducible refine Bel.drw ?_) | (with_reducible refine Bel.al ?_ _))))).mono ?_
  rintro e w1 ⟨rfl, hb⟩
  have H1 : Hid (Bel (((w.alloc (.cells #[.int .i64 k, .int .i64 b, .int .i64 g, .int .i64 (m : Int), .int .i64 (n : Int), .slice A nc cc] 28)).alloc (.cells #[.slice sA n sc, .slice bA n bc] 32)).alloc (.cells #[.slice fA n fc, .slice eA n ec] 32)) w1) := Bel.tr (by repeat (first | exact Bel.rf | (with_reducible refine Bel.drwN ?_ _) | (with_reducible refine Bel.drw ?_) | (with_reducible refine Bel.al ?_ _))) hb
  obtain ⟨d0, d1, d2, d3, d4, d5, d6, d7, d8, d9⟩ := KS.out w1 H1.out
  clear hb
  go_wp2_with fail
  go_at_call 54
  refine (FU2.out _ (HW0.out.tr (H1.out.tr (by repeat (first | exact Bel.rf | (with_reducible refine Bel.drwN ?_ _) | (with_reducible refine Bel.drw ?_) | (with_reducible refine Bel.al ?_ _)))))).mono ?_
  rintro e w2 ⟨rfl, hb⟩
  have H2 : Hid (Bel (((w.alloc (.cells #[.int .i64 k, .int .i64 b, .int .i64 g, .int .i64 (m : Int), .int .i64 (n : Int), .slice A nc cc] 28)).alloc (.cells #[.slice sA n sc, .slice bA n bc] 32)).alloc (.cells #[.slice fA n fc, .slice eA n ec] 32)) w2) := H1.out.tr (Bel.tr (by repeat (first | exact Bel.rf | (with_reducible refine Bel.drwN ?_ _) | (with_reducible refine Bel.drw ?_) | (with_reducible refine Bel.al ?_ _))) hb)
  clear hb d0 d1 d2 d3 d4 d5 d6 d7 d8 d9
  go_wp2_with fail
  refine wp_region_noPanic ?_
  refine wp_region_held_drew (S := fun W => W.cell? ⟨w.heap.size, 0, none⟩ = some (.int .i64 k) ∧ W.cell? ⟨w.heap.size, 1, none⟩ = some (.int .i64 b) ∧ W.cell? ⟨w.heap.size, 2, none⟩ = some (.int .i64 g) ∧ W.cell? ⟨w.heap.size, 3, none⟩ = some (.int .i64 (m : Int)) ∧ W.cell? ⟨w.heap.size, 4, none⟩ = some (.int .i64 (n : Int)) ∧ W.cell? ⟨w.heap.size, 5, none⟩ = some (.slice A nc cc) ∧ W.cell? ⟨w.heap.size + 1, 0, none⟩ = some (.slice sA n sc) ∧ W.cell? ⟨w.heap.size + 1, 1, none⟩ = some (.slice bA n bc) ∧ W.cell? ⟨w.heap.size + 1 + 1, 0, none⟩ = some (.slice fA n fc) ∧ W.cell? ⟨w.heap.size + 1 + 1, 1, none⟩ = some (.slice eA n ec)) (by kernel_rfl) ?_ (fun hH0 => ?_)
  · (try dsimp only); exact KS.out _ (by repeat (first | exact H4.out | exact H3.out | exact H2.out | (with_reducible refine Bel.drwN ?_ _) | (with_reducible refine Bel.drw ?_) | (with_reducible refine Bel.al ?_ _)))
  refine wpAnyH_take (i := 0) (oi := ⟨some 17, .load 32 (.tmp 4), 32, "word.go:175", #[], none⟩) (v := ?_) rfl (by kernel_rfl) (by kernel_rfl) (by kernel_rfl) (fun _ _ _ h => h) (Or.inl ⟨by first | kernel_rfl | rfl, ?_⟩) (by assumption) ?_
  rotate_left
  · (intro w hSw; (try dsimp only at hSw); obtain ⟨d0, d1, d2, d3, d4, d5, d6, d7, d8, d9⟩ := hSw; go_simp; try with_reducible rfl)
  try simp only [Act.put, List.setIfInBounds_toArray, List.set_cons_zero, List.set_cons_succ]
  refine wpAnyH_take (i := 2) (oi := ⟨some 19, .load 32 (.tmp 5), 32, "word.go:175", #[], none⟩) (v := ?_) rfl (by kernel_rfl) (by kernel_rfl) (by kernel_rfl) (fun _ _ _ h => h) (Or.inl ⟨by first | kernel_rfl | rfl, ?_⟩) (by assumption) ?_
  rotate_left
  · (intro w hSw; (try dsimp only at hSw); obtain ⟨d0, d1, d2, d3, d4, d5, d6, d7, d8, d9⟩ := hSw; go_simp; try with_reducible rfl)
  try simp only [Act.put, List.setIfInBounds_toArray, List.set_cons_zero, List.set_cons_succ]
  refine wpAnyH_ready (rs := [1]) (by kernel_rfl) (by simp) ?_
  refine AllReadyH.cons (o := ⟨some 18, .call { callee := Callee.value (.func 61), args := #[.tmp 17], argTypes := #[32] }, 3, "word.go:175", #[⟨0, .data⟩], none⟩) rfl (fun K hK => ?_) AllReadyH.nil
  go_simp
  go_at_call 61; refine (SH1.out _ (HW0.out.tr (H2.out.tr (by repeat (first | exact Bel.rf | (with_reducible refine Bel.drwN ?_ _) | (with_reducible refine Bel.drw ?_) | (with_reducible refine Bel.al ?_ _)))))).mono ?_; rintro e w3 ⟨rfl, hb⟩; have H3 : Hid (Bel (((w.alloc (.cells #[.int .i64 k, .int .i64 b, .int .i64 g, .int .i64 (m : Int), .int .i64 (n : Int), .slice A nc cc] 28)).alloc (.cells #[.slice sA n sc, .slice bA n bc] 32)).alloc (.cells #[.slice fA n fc, .slice eA n ec] 32)) w3) := H2.out.tr (Bel.tr (by repeat (first | exact Bel.rf | (with_reducible refine Bel.drwN ?_ _) | (with_reducible refine Bel.drw ?_) | (with_reducible refine Bel.al ?_ _))) hb); clear hb
  try go_wp2_with fail
  refine hK.out _ _ ?_ (fun hH1 => ?_)
  · (try dsimp only); exact KS.out _ (by repeat (first | exact H4.out | exact H3.out | exact H2.out | (with_reducible refine Bel.drwN ?_ _) | (with_reducible refine Bel.drw ?_) | (with_reducible refine Bel.al ?_ _)))
  clear hK K hH0
  try simp only [Act.put, List.setIfInBounds_toArray, List.set_cons_zero, List.set_cons_succ]
  refine wpAnyH_ready (rs := [3]) (by kernel_rfl) (by simp) ?_
  refine AllReadyH.cons (o := ⟨some 20, .call { callee := Callee.value (.func 61), args := #[.tmp 19], argTypes := #[32] }, 3, "word.go:175", #[⟨2, .data⟩, ⟨1, .chain⟩], none⟩) rfl (fun K hK => ?_) AllReadyH.nil
  go_simp
  go_at_call 61; refine (SH2.out _ (HW0.out.tr (H3.out.tr (by repeat (first | exact Bel.rf | (with_reducible refine Bel.drwN ?_ _) | (with_reducible refine Bel.drw ?_) | (with_reducible refine Bel.al ?_ _)))))).mono ?_; rintro e w4 ⟨rfl, hb⟩; have H4 : Hid (Bel (((w.alloc (.cells #[.int .i64 k, .int .i64 b, .int .i64 g, .int .i64 (m : Int), .int .i64 (n : Int), .slice A nc cc] 28)).alloc (.cells #[.slice sA n sc, .slice bA n bc] 32)).alloc (.cells #[.slice fA n fc, .slice eA n ec] 32)) w4) := H3.out.tr (Bel.tr (by repeat (first | exact Bel.rf | (with_reducible refine Bel.drwN ?_ _) | (with_reducible refine Bel.drw ?_) | (with_reducible refine Bel.al ?_ _))) hb); clear hb
  try go_wp2_with fail
  refine hK.out _ _ ?_ (fun hH2 => ?_)
  · (try dsimp only); exact KS.out _ (by repeat (first | exact H4.out | exact H3.out | exact H2.out | (with_reducible refine Bel.drwN ?_ _) | (with_reducible refine Bel.drw ?_) | (with_reducible refine Bel.al ?_ _)))
  clear hK K hH1
  try simp only [Act.put, List.setIfInBounds_toArray, List.set_cons_zero, List.set_cons_succ]
  refine wpAnyH_ready (rs := [4]) (by kernel_rfl) (by simp) ?_
  refine AllReadyH.cons (o := ⟨some 21, .call { callee := Callee.value (.func 60), args := #[.tmp 18, .tmp 20], argTypes := #[3, 3] }, 3, "word.go:175", #[⟨1, .data⟩, ⟨3, .data⟩, ⟨3, .chain⟩], none⟩) rfl (fun K hK => ?_) AllReadyH.nil
  go_simp
  go_at_call 60; refine (compare_ok _ _ _).mono ?_; rintro e w5 ⟨rfl, rfl⟩
  try go_wp2_with fail
  refine hK.out _ _ ?_ (fun hH3 => ?_)
  · (try dsimp only); exact KS.out _ (by repeat (first | exact H4.out | exact H3.out | exact H2.out | (with_reducible refine Bel.drwN ?_ _) | (with_reducible refine Bel.drw ?_) | (with_reducible refine Bel.al ?_ _)))
  clear hK K hH2
  try simp only [Act.put, List.setIfInBounds_toArray, List.set_cons_zero, List.set_cons_succ]
  refine wpAnyH_take (i := 5) (oi := ⟨some 6, .assign (.tmp 21), 3, "word.go:175", #[⟨4, .data⟩, ⟨4, .chain⟩, ⟨0, .phase⟩, ⟨1, .phase⟩, ⟨2, .phase⟩, ⟨3, .phase⟩, ⟨4, .phase⟩], none⟩) (v := ?_) rfl (by kernel_rfl) (by kernel_rfl) (by kernel_rfl) (fun _ _ _ h => h) (Or.inl ⟨by first | kernel_rfl | rfl, ?_⟩) (by assumption) ?_
  rotate_left
  · (intro w hSw; (try dsimp only at hSw); obtain ⟨d0, d1, d2, d3, d4, d5, d6, d7, d8, d9⟩ := hSw; go_simp; try with_reducible rfl)
  try simp only [Act.put, List.setIfInBounds_toArray, List.set_cons_zero, List.set_cons_succ]
  refine wpAnyH_done (by kernel_rfl) ?_ _
  refine NoPanic.normal ?_
  go_wp2_with fail
  go_ret
  exact ⟨rfl, HW0.out.tr (H4.out.tr (by repeat (first | exact Bel.rf | (with_reducible refine Bel.drwN ?_ _) | (with_reducible refine Bel.drw ?_) | (with_reducible refine Bel.al ?_ _))))⟩
theorem ne_of_getD {n k : Nat} {L M : List Int} (lL : L.length = n) (lM : M.length = n) (hk : L.getD k 0 ≠ M.getD k 0) : L ≠ M := fun e => hk (by rw [e])
set_option maxHeartbeats 8000000 in
set_option maxRecDepth 100000 in
theorem ints_any (A A' : Option Addr) (c c' n : Nat) (L M : List Int) (hn : n ≤ 1000000) (w : World) (h1 : Zi w A n L) (h2 : Zi w A' n M) :
    Calls Try.prog 25 #[.slice A n c, .slice A' n c'] w fun e w' => e = .returned (.bool (decide (L = M))) ∧ Bel w w' := by
  have H1 := Lib.hid h1
  have H2 := Lib.hid h2
  have ni : (n : Int) ≤ 1000000 := by omega
  clear h1 h2
  go_enter Try.func25, Try.ntmps25
  go_wp2
  go_loopw [13] (fun s13 wr => ∃ (k : Nat) (V : World), V = wr ∧ k ≤ n ∧ s13 = .int .i64 (k : Int) ∧ (∀ j, j < k → L.getD j 0 = M.getD j 0) ∧ Bel w wr) (fun s13 _ => n - (intOf s13).toNat)
  case atStart => exact ⟨0, _, rfl, by omega, rfl, fun j hj => by omega, Bel.rf⟩
  case round =>
    obtain ⟨k, wr, hwr, hk, rfl, hp, hb⟩ := hrel
    subst hwr
    have HB := Lib.hid hb
    have HP := Lib.hid hp
    clear hp
    rcases Nat.lt_or_ge k n with hlt | hge
    · obtain ⟨ad, rfl, hab, hac⟩ := (H1.out.bel hb).2 (by omega)
      obtain ⟨ad', rfl, hab', hac'⟩ := (H2.out.bel hb).2 (by omega)
      have c1 := hac k hlt
      have c2 := hac' k hlt
      by_cases he : L.getD k 0 = M.getD k 0
      · have HPN : Hid (∀ j, j < k + 1 → L.getD j 0 = M.getD j 0) := fun j hj => by
          rcases Nat.lt_or_ge j k with q | q
          · exact HP.out j q
          · obtain rfl : j = k := by omega
            exact he
        rw [← he] at c2
        obtain ⟨x, hx⟩ : ∃ x, L.getD k 0 = x := ⟨_, rfl⟩
        rw [hx] at c1 c2
        have ki : (k : Int) < (n : Int) := by omega
        have kn := ne_self x
        clear hb hac hac' hab hab' hx he
        go_wp2
        go_quiet (fail)
        go_wp2
        go_roundw
        case rel => exact ⟨k + 1, _, rfl, by omega, by go_num, HPN.out, HB.out.drwN _⟩
        case measure => simp [intOf]; omega
      · have HNE : Hid (decide (L = M) = false) := decide_eq_false (ne_of_getD H1.out.1 H2.out.1 he)
        obtain ⟨x, hx⟩ : ∃ x, L.getD k 0 = x := ⟨_, rfl⟩
        obtain ⟨y, hy⟩ : ∃ x, M.getD k 0 = x := ⟨_, rfl⟩
        rw [hx] at c1 he
        rw [hy] at c2 he
        have ki : (k : Int) < (n : Int) := by omega
        have kn : (x != y) = true := by simpa using he
        clear hb hac hac' hab hab' hx hy
        go_wp2
        go_quiet (fail)
        go_wp2
        go_ret
        exact ⟨congrArg (fun z => Ending.returned (.bool z)) HNE.out.symm, HB.out.drwN _⟩
    · obtain rfl : k = n := by omega
      have HEQ : Hid (decide (L = M) = true) := decide_eq_true (list_ext H1.out.1 H2.out.1 HP.out)
      clear hb
      go_wp2
      go_ret
      exact ⟨congrArg (fun z => Ending.returned (.bool z)) HEQ.out.symm, HB.out⟩
set_option maxHeartbeats 8000000 in
set_option maxRecDepth 100000 in
theorem same_any (n : Nat) (sA bA tA cA : Option Addr) (sc bc tc cc : Nat) (S T B : List Int) (hn : n ≤ 1000) (w : World) (hS : Zi w sA n S) (hB : Zi w bA n B) (hT : Zi w tA n T) (hC : Zi w cA n B) :
    Calls Try.prog 24 #[Wx n sA bA sc bc, Wx n tA cA tc cc] w fun e w' => e = .returned (.bool (decide (S = T))) ∧ Bel w w' := by
  have I1 : Hid (∀ W, Bel w W → Calls Try.prog 25 #[.slice sA n sc, .slice tA n tc] W fun e w' => e = .returned (.bool (decide (S = T))) ∧ Bel W w') := fun W hW => ints_any sA tA sc tc n S T (by omega) W (hS.bel hW) (hT.bel hW)
  have I2 : Hid (∀ W, Bel w W → Calls Try.prog 25 #[.slice bA n bc, .slice cA n cc] W fun e w' => e = .returned (.bool true) ∧ Bel W w') := fun W hW => ints_same bA cA bc cc n B (by omega) W (hB.bel hW) (hC.bel hW)
  have HB1 : Hid (Bk ((w.alloc (.cells #[.slice sA n sc, .slice bA n bc] 32)).alloc (.cells #[.slice tA n tc, .slice cA n cc] 32)) w.heap.size 32 #[.slice sA n sc, .slice bA n bc]) := (Bk.nw _ _ _).al _
  have HB2 : Hid (Bk ((w.alloc (.cells #[.slice sA n sc, .slice bA n bc] 32)).alloc (.cells #[.slice tA n tc, .slice cA n cc] 32)) (w.heap.size + 1) 32 #[.slice tA n tc, .slice cA n cc]) := Bk.nq _ _ _ (by simp)
  have HW0 : Hid (Bel w ((w.alloc (.cells #[.slice sA n sc, .slice bA n bc] 32)).alloc (.cells #[.slice tA n tc, .slice cA n cc] 32))) := (Bel.rf.al _).al _
  obtain ⟨d, hd⟩ : ∃ d, decide (S = T) = d := ⟨_, rfl⟩
  rw [hd] at I1 ⊢
  clear hS hB hT hC hd
  unfold Wx
  go_enter Try.func24, Try.ntmps24
  go_wp2_with fail
  go_at_call 25
  refine (I1.out _ (HW0.out.tr (by repeat (first | exact Bel.rf | (with_reducible refine Bel.drwN ?_ _) | (with_reducible refine Bel.drw ?_) | (with_reducible refine Bel.al ?_ _))))).mono ?_
  rintro e w1 ⟨rfl, hb1⟩
  have HK1 := Lib.hid ((HB1.out.bel (by repeat (first | exact Bel.rf | (with_reducible refine Bel.drwN ?_ _) | (with_reducible refine Bel.drw ?_) | (with_reducible refine Bel.al ?_ _)))).bel hb1)
  have HK2 := Lib.hid ((HB2.out.bel (by repeat (first | exact Bel.rf | (with_reducible refine Bel.drwN ?_ _) | (with_reducible refine Bel.drw ?_) | (with_reducible refine Bel.al ?_ _)))).bel hb1)
  have HW1 : Hid (Bel w w1) := HW0.out.tr (Bel.tr (by repeat (first | exact Bel.rf | (with_reducible refine Bel.drwN ?_ _) | (with_reducible refine Bel.drw ?_) | (with_reducible refine Bel.al ?_ _))) hb1)
  have q1 := HK1.out.cell 1
  have q2 := HK2.out.cell 1
  simp only [List.getElem?_toArray, List.getElem?_cons_zero, List.getElem?_cons_succ] at q1 q2
  clear hb1
  rcases d with _ | _
  · go_wp2_with fail
    go_ret
    exact ⟨rfl, (by repeat (first | exact HW1.out | (with_reducible refine Bel.drwN ?_ _) | (with_reducible refine Bel.drw ?_) | (with_reducible refine Bel.al ?_ _)))⟩
  · go_wp2_with (go_at_call 25; refine (I2.out _ (HW1.out.tr (by repeat (first | exact Bel.rf | (with_reducible refine Bel.drwN ?_ _) | (with_reducible refine Bel.drw ?_) | (with_reducible refine Bel.al ?_ _))))).mono ?_; rintro e w2 ⟨rfl, hb2⟩; have HW2 : Hid (Bel w w2) := HW1.out.tr (Bel.tr (by repeat (first | exact Bel.rf | (with_reducible refine Bel.drwN ?_ _) | (with_reducible refine Bel.drw ?_) | (with_reducible refine Bel.al ?_ _))) hb2); clear hb2)
    go_ret
    exact ⟨rfl, (by repeat (first | exact HW2.out | (with_reducible refine Bel.drwN ?_ _) | (with_reducible refine Bel.drw ?_) | (with_reducible refine Bel.al ?_ _)))⟩
end Go.Proofs.Ytgdhgeongdenpaa.Wd
