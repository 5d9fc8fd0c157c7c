/- The contracts of the reference's common, Valid, order, Cmp and Less over valid ratios (shapesearchref01). -/
import Derived.Test.YtgdhgeongdenpaaRatioMake
namespace Go.Proofs.Ytgdhgeongdenpaa.Ra
open Go.ChangeShapes Go.WideShapes Go.RowKit Wo
set_option linter.unusedVariables false
theorem common_any (a b : Int) (ha : 0 ≤ a) (hb : 0 ≤ b) (w : World) :
    Calls Try.prog 71 #[.int .i64 a, .int .i64 b] w fun e w' => e = .returned (.int .i64 (gd a b)) ∧ ∃ n, w' = w.drewN n := by
  go_enter Try.func71, Try.ntmps71
  go_wp2
  go_loopw [0, 1] (fun x y wr => ∃ p q : Int, x = .int .i64 p ∧ y = .int .i64 q ∧ 0 ≤ p ∧ 0 ≤ q ∧ gd p q = gd a b ∧ ∃ n, wr = w.drewN n) (fun _ y _ => (intOf y).toNat)
  case atStart => exact ⟨a, b, rfl, rfl, ha, hb, rfl, 0, rfl⟩
  case round =>
    obtain ⟨p, q, rfl, rfl, hp, hq, hg, n, rfl⟩ := hrel
    rcases Classical.em (q = 0) with hz | hz
    · subst hz
      have HG := Lib.hid hg
      clear hg
      go_wp2
      go_ret
      exact ⟨ret_int (by rw [← HG.out, gd_zero hp]), n, rfl⟩
    · have hq1 : 0 < q := by omega
      have hne : (q != 0) = true := by simpa using hz
      have HG : Hid (gd q (p % q) = gd a b) := (gd_step hp hq1).trans hg
      have hm0 : 0 ≤ p % q := Int.emod_nonneg _ (by omega)
      have hm1 : p % q < q := Int.emod_lt_of_pos _ hq1
      clear hg
      go_wp2
      go_quiet (fail)
      go_wp2
      go_roundw
      case rel => exact ⟨q, p % q, rfl, rfl, by omega, hm0, HG.out, _, World.drewN_drewN _ _ _⟩
      case measure => simp [intOf]; omega
theorem rvalid_ok (n d : Int) (h : RV n d) (w : World) :
    Calls Try.prog 30 #[.agg #[.int .i64 n, .int .i64 d]] w fun e w' => e = .returned (.bool true) ∧ Bel w w' := by
  have hg := h.2
  obtain ⟨⟨h0, h1, h2, h3⟩, -⟩ := h
  have HC : Hid (∀ W, Calls Try.prog 71 #[.int .i64 n, .int .i64 d] W fun e w' => e = .returned (.int .i64 1) ∧ Bel W w') := fun W =>
    (common_any n d (by omega) (by omega) W).mono fun e w' ⟨he, q, hq⟩ => ⟨by rw [he, hg], by rw [hq]; exact Bel.rf.drwN _⟩
  clear hg
  go_enter Try.func30, Try.ntmps30
  go_wp2_with (go_at_call 71; refine (HC.out _).mono ?_; rintro e w1 ⟨rfl, hb1⟩)
  go_ret
  exact ⟨rfl, (Bel.rf.al _).tr hb1⟩
theorem cmpI_sub {x y u v : Int} (h : x - y = u - v) : cmpI x y = cmpI u v := by
  rcases Int.lt_trichotomy x y with g | g | g
  · rw [cmpI_lt g, cmpI_lt (by omega)]
  · rw [cmpI_eq g, cmpI_eq (by omega)]
  · rw [cmpI_gt g, cmpI_gt (by omega)]
theorem quot_lt {a b c d p q r s : Int} (hb : 1 ≤ b) (hd : 1 ≤ d) (ea : a = p * b + r) (ec : c = q * d + s) (r1 : r < b) (s0 : 0 ≤ s) (h : p < q) : a * d < c * b := by
  have h1 : (p + 1) * b ≤ q * b := Int.mul_le_mul_of_nonneg_right (by omega) (by omega)
  have h2 : (p + 1) * b = p * b + b := by grind
  have h3 : a < q * b := by omega
  have h4 : a * d < q * b * d := Int.mul_lt_mul_of_pos_right h3 (by omega)
  have h5 : c * b = q * b * d + s * b := by rw [ec]; grind
  have h6 : 0 ≤ s * b := Int.mul_nonneg s0 (by omega)
  omega
set_option maxHeartbeats 2000000 in
theorem order_any (k : Nat) : ∀ (a b c d : Int), 0 ≤ a → 1 ≤ b → 0 ≤ c → 1 ≤ d → a ≤ 4611686018427387904 → b ≤ 4611686018427387904 → c ≤ 4611686018427387904 → d ≤ 4611686018427387904 → (b + d).toNat = k → ∀ w : World,
    Calls Try.prog 72 #[.int .i64 a, .int .i64 b, .int .i64 c, .int .i64 d] w fun e w' => e = .returned (.int .i64 (cmpI (a * d) (c * b))) ∧ Bel w w' := by
  induction k using Nat.strongRecOn with
  | _ k ih =>
    intro a b c d ha hb hc hd a2 b2 c2 d2 hk w
    have ea := Int.ediv_mul_add_emod a b
    have ec := Int.ediv_mul_add_emod c d
    have r0 := Int.emod_nonneg a (b := b) (by omega)
    have r1 := Int.emod_lt_of_pos a (b := b) (by omega)
    have s0 := Int.emod_nonneg c (b := d) (by omega)
    have s1 := Int.emod_lt_of_pos c (b := d) (by omega)
    have p0 : 0 ≤ a / b := Int.ediv_nonneg ha (by omega)
    have q0 : 0 ≤ c / d := Int.ediv_nonneg hc (by omega)
    have p1 : a / b ≤ a := Int.ediv_le_self _ ha
    have q1 : c / d ≤ c := Int.ediv_le_self _ hc
    have tp : a.tdiv b = a / b := Int.tdiv_eq_ediv_of_nonneg ha
    have tq : c.tdiv d = c / d := Int.tdiv_eq_ediv_of_nonneg hc
    have tr : a.tmod b = a % b := Int.tmod_eq_emod_of_nonneg ha
    have ts : c.tmod d = c % d := Int.tmod_eq_emod_of_nonneg hc
    have nb : b ≠ 0 := by omega
    have nd : d ≠ 0 := by omega
    have HEA := Lib.hid ea
    have HEC := Lib.hid ec
    have wp : IntKind.i64.wrap (a / b) = a / b := IntWalk.i64_in _ (by omega)
    have wq : IntKind.i64.wrap (c / d) = c / d := IntWalk.i64_in _ (by omega)
    have wr : IntKind.i64.wrap (a % b) = a % b := IntWalk.i64_in _ (by omega)
    have ws : IntKind.i64.wrap (c % d) = c % d := IntWalk.i64_in _ (by omega)
    rcases Int.lt_trichotomy (a / b) (c / d) with h | h | h
    · have HC : Hid (cmpI (a * d) (c * b) = -1) := cmpI_lt (quot_lt hb hd ea.symm ec.symm r1 s0 h)
      have hne : (a / b != c / d) = true := by simp; omega
      clear ea ec ih
      go_enter Try.func72, Try.ntmps72
      go_wp2
      go_quiet (fail)
      go_wp2
      go_ret
      exact ⟨ret_int HC.out.symm, by first | exact Bel.rf.drwN _ | exact Bel.rf.drw | exact Bel.rf⟩
    · have hne : (a / b != c / d) = false := by rw [h]; simp
      have hdf : a * d - c * b = a % b * d - c % d * b := by
        have e1 : a * d = a / b * b * d + a % b * d := by conv => lhs; rw [← ea]
                                                          grind
        have e2 : c * b = c / d * d * b + c % d * b := by conv => lhs; rw [← ec]
                                                          grind
        have e3 : c / d * d * b = a / b * b * d := by rw [h]; grind
        omega
      have HCM : Hid (cmpI (a * d) (c * b) = cmpI (a % b * d) (c % d * b)) := cmpI_sub hdf
      rcases Classical.em (a % b = 0) with hr | hr
      · rcases Classical.em (c % d = 0) with hs | hs
        · have HC : Hid (cmpI (a * d) (c * b) = 0) := by show _ = _; rw [HCM.out, hr, hs]; exact cmpI_eq (by omega)
          clear ea ec ih hdf
          go_enter Try.func72, Try.ntmps72
          go_wp2
          go_quiet (fail)
          go_wp2
          go_quiet (fail)
          go_wp2
          go_ret
          exact ⟨ret_int HC.out.symm, by first | exact (Bel.rf.drwN _).drwN _ | exact Bel.rf.drwN _⟩
        · have HC : Hid (cmpI (a * d) (c * b) = -1) := by
            show _ = _
            rw [HCM.out, hr]
            exact cmpI_lt (by have := Int.mul_pos (show 0 < c % d by omega) (show 0 < b by omega); omega)
          have hs2 : (c % d == 0) = false := by simpa using hs
          clear ea ec ih hdf
          go_enter Try.func72, Try.ntmps72
          go_wp2
          go_quiet (fail)
          go_wp2
          go_quiet (fail)
          go_wp2
          go_ret
          exact ⟨ret_int HC.out.symm, by first | exact (Bel.rf.drwN _).drwN _ | exact Bel.rf.drwN _⟩
      · have hr2 : (a % b == 0) = false := by simpa using hr
        rcases Classical.em (c % d = 0) with hs | hs
        · have HC : Hid (cmpI (a * d) (c * b) = 1) := by
            show _ = _
            rw [HCM.out, hs]
            exact cmpI_gt (by have := Int.mul_pos (show 0 < a % b by omega) (show 0 < d by omega); omega)
          clear ea ec ih hdf
          go_enter Try.func72, Try.ntmps72
          go_wp2
          go_quiet (fail)
          go_wp2
          go_quiet (fail)
          go_wp2
          go_ret
          exact ⟨ret_int HC.out.symm, by first | exact (Bel.rf.drwN _).drwN _ | exact Bel.rf.drwN _⟩
        · have hs2 : (c % d == 0) = false := by simpa using hs
          have HR : Hid (∀ W, Calls Try.prog 72 #[.int .i64 d, .int .i64 (c % d), .int .i64 b, .int .i64 (a % b)] W fun e w' => e = .returned (.int .i64 (cmpI (d * (a % b)) (b * (c % d)))) ∧ Bel W w') := fun W =>
            ih ((c % d + a % b).toNat) (by omega) d (c % d) b (a % b) (by omega) (by omega) (by omega) (by omega) (by omega) (by omega) (by omega) (by omega) rfl W
          have HE : Hid (cmpI (d * (a % b)) (b * (c % d)) = cmpI (a * d) (c * b)) := by
            show _ = _
            rw [HCM.out, Int.mul_comm d, Int.mul_comm b]
          clear ea ec ih hdf
          go_enter Try.func72, Try.ntmps72
          go_wp2
          go_quiet (fail)
          go_wp2
          go_quiet (fail)
          go_wp2_with (go_at_call 72; refine (HR.out _).mono ?_; rintro e w5 ⟨rfl, hb5⟩)
          go_ret
          exact ⟨ret_int HE.out, by first | exact ((Bel.rf.drwN _).drwN _).tr hb5 | exact (Bel.rf.drwN _).tr hb5⟩
    · have HC : Hid (cmpI (a * d) (c * b) = 1) := cmpI_gt (quot_lt hd hb ec.symm ea.symm s1 r0 h)
      have hne : (a / b != c / d) = true := by simp; omega
      have hlt : decide (a / b < c / d) = false := decide_eq_false (by omega)
      clear ea ec ih
      go_enter Try.func72, Try.ntmps72
      go_wp2
      go_quiet (fail)
      go_wp2
      go_ret
      exact ⟨ret_int HC.out.symm, by first | exact Bel.rf.drwN _ | exact Bel.rf.drw | exact Bel.rf⟩
theorem rcmp_ok (a b c d : Int) (h : RV a b) (k : RV c d) (w : World) :
    Calls Try.prog 31 #[.agg #[.int .i64 a, .int .i64 b], .agg #[.int .i64 c, .int .i64 d]] w fun e w' => e = .returned (.int .i64 (cmpI (a * d) (c * b))) ∧ Bel w w' := by
  have HV1 : Hid (∀ W, Calls Try.prog 30 #[.agg #[.int .i64 a, .int .i64 b]] W fun e w' => e = .returned (.bool true) ∧ Bel W w') := rvalid_ok a b h
  have HV2 : Hid (∀ W, Calls Try.prog 30 #[.agg #[.int .i64 c, .int .i64 d]] W fun e w' => e = .returned (.bool true) ∧ Bel W w') := rvalid_ok c d k
  obtain ⟨⟨h0, h1, h2, h3⟩, -⟩ := h
  obtain ⟨⟨k0, k1, k2, k3⟩, -⟩ := k
  have HO : Hid (∀ W, Calls Try.prog 72 #[.int .i64 a, .int .i64 b, .int .i64 c, .int .i64 d] W fun e w' => e = .returned (.int .i64 (cmpI (a * d) (c * b))) ∧ Bel W w') := order_any _ a b c d (by omega) (by omega) (by omega) (by omega) (by omega) (by omega) (by omega) (by omega) rfl
  clear h0 h1 h2 h3 k0 k1 k2 k3
  generalize cmpI (a * d) (c * b) = R at *
  go_enter Try.func31, Try.ntmps31
  go_wp2_with fail
  go_at_call 30
  refine (HV1.out _).mono ?_
  rintro e w1 ⟨rfl, hb1⟩
  have A1 : Bk w1 w.heap.size 69 #[.int .i64 a, .int .i64 b] := ((Bk.nw _ _ _).al _).bel hb1
  have C1 : Bk w1 (w.heap.size + 1) 69 #[.int .i64 c, .int .i64 d] := (Bk.nq _ _ _ (by simp)).bel hb1
  have HB1 : Hid (Bel w w1) := ((Bel.rf.al _).al _).tr hb1
  have HA1 := Lib.hid A1
  have HC1 := Lib.hid C1
  have l2 : w1.cell? ⟨w.heap.size + 1, 0, none⟩ = some (.int .i64 c) := C1.cell 0
  have l3 : w1.cell? ⟨w.heap.size + 1, 1, none⟩ = some (.int .i64 d) := C1.cell 1
  clear hb1 A1 C1
  go_wp2_with fail
  go_at_call 30
  refine (HV2.out _).mono ?_
  rintro e w2 ⟨rfl, hb2⟩
  have A2 := HA1.out.bel hb2
  have C2 := HC1.out.bel hb2
  have m0 : w2.cell? ⟨w.heap.size, 0, none⟩ = some (.int .i64 a) := A2.cell 0
  have m1 : w2.cell? ⟨w.heap.size, 1, none⟩ = some (.int .i64 b) := A2.cell 1
  have m2 : w2.cell? ⟨w.heap.size + 1, 0, none⟩ = some (.int .i64 c) := C2.cell 0
  have m3 : w2.cell? ⟨w.heap.size + 1, 1, none⟩ = some (.int .i64 d) := C2.cell 1
  have HB2 := Lib.hid (HB1.out.tr hb2)
  clear hb2 A2 C2 l2 l3
  go_wp2_with (go_at_call 72; refine (HO.out _).mono ?_; rintro e w3 ⟨rfl, hb3⟩)
  go_ret
  exact ⟨rfl, HB2.out.tr hb3⟩
end Go.Proofs.Ytgdhgeongdenpaa.Ra
