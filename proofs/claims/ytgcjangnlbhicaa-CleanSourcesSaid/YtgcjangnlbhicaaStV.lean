/- What a policy makes of readings of one time: plain facts; first, last, the mean. -/
import Derived.Test.YtgcjangnlbhicaaStA
import Derived.Test.YtgcjangnlbhicaaHalf
namespace Go.Proofs.Ytgcjangnlbhicaa.St
open Go.ChangeShapes Go.WideShapes Go.RowKit Wo Sr Wi Rm Rg
set_option linter.unusedVariables false
def lo : List Rp → Int
  | [] => 0
  | [p] => p.2
  | p :: q :: r => if p.2 ≤ lo (q :: r) then p.2 else lo (q :: r)
def hi : List Rp → Int
  | [] => 0
  | [p] => p.2
  | p :: q :: r => if hi (q :: r) ≤ p.2 then p.2 else hi (q :: r)
theorem vl_cons0 (p : Rp) (q : List Rp) : vl (p :: q) 0 = p.2 := rfl
theorem vl_cons1 (p : Rp) (q : List Rp) (j : Nat) : vl (p :: q) (j + 1) = vl q j := by simp [vl]
theorem lo_spec : ∀ q : List Rp, 0 < q.length → (∃ j, j < q.length ∧ vl q j = lo q) ∧ ∀ j, j < q.length → lo q ≤ vl q j
  | [], h => by simp at h
  | [p], _ => ⟨⟨0, by simp, rfl⟩, fun j hj => by
    have : j = 0 := by simp at hj; exact hj
    subst this; exact Int.le_refl _⟩
  | p :: q :: r, _ => by
    obtain ⟨⟨k, hk, e⟩, h2⟩ := lo_spec (q :: r) (by simp)
    unfold lo
    split
    · rename_i hle
      refine ⟨⟨0, by simp, rfl⟩, fun j hj => ?_⟩
      rcases j with _ | j
      · exact Int.le_refl _
      · rw [vl_cons1]; have := h2 j (by simp at hj ⊢; omega); omega
    · rename_i hle
      refine ⟨⟨k + 1, by simp at hk ⊢; omega, by rw [vl_cons1]; exact e⟩, fun j hj => ?_⟩
      rcases j with _ | j
      · rw [vl_cons0]; omega
      · rw [vl_cons1]; exact h2 j (by simp at hj ⊢; omega)
theorem hi_spec : ∀ q : List Rp, 0 < q.length → (∃ j, j < q.length ∧ vl q j = hi q) ∧ ∀ j, j < q.length → vl q j ≤ hi q
  | [], h => by simp at h
  | [p], _ => ⟨⟨0, by simp, rfl⟩, fun j hj => by
    have : j = 0 := by simp at hj; exact hj
    subst this; exact Int.le_refl _⟩
  | p :: q :: r, _ => by
    obtain ⟨⟨k, hk, e⟩, h2⟩ := hi_spec (q :: r) (by simp)
    unfold hi
    split
    · rename_i hle
      refine ⟨⟨0, by simp, rfl⟩, fun j hj => ?_⟩
      rcases j with _ | j
      · exact Int.le_refl _
      · rw [vl_cons1]; have := h2 j (by simp at hj ⊢; omega); omega
    · rename_i hle
      refine ⟨⟨k + 1, by simp at hk ⊢; omega, by rw [vl_cons1]; exact e⟩, fun j hj => ?_⟩
      rcases j with _ | j
      · rw [vl_cons0]; omega
      · rw [vl_cons1]; exact h2 j (by simp at hj ⊢; omega)
theorem lo_one {q : List Rp} {x : Int} (h1 : ∃ j, j < q.length ∧ vl q j = x) (h2 : ∀ j, j < q.length → x ≤ vl q j) : x = lo q := by
  obtain ⟨j, hj, e⟩ := h1
  obtain ⟨⟨k, hk, e2⟩, h3⟩ := lo_spec q (by omega)
  have := h2 k hk; have := h3 j hj; omega
theorem hi_one {q : List Rp} {x : Int} (h1 : ∃ j, j < q.length ∧ vl q j = x) (h2 : ∀ j, j < q.length → vl q j ≤ x) : x = hi q := by
  obtain ⟨j, hj, e⟩ := h1
  obtain ⟨⟨k, hk, e2⟩, h3⟩ := hi_spec q (by omega)
  have := h2 k hk; have := h3 j hj; omega
/-- the sum of the first values -/
def sumk (q : List Rp) : Nat → Int
  | 0 => 0
  | k + 1 => sumk q k + vl q k
def Vls (q : List Rp) : Prop := ∀ j, j < q.length → -1000 ≤ vl q j ∧ vl q j ≤ 1000
theorem sumk_in {q : List Rp} (h : Vls q) : ∀ k, k ≤ q.length → -1000 * (k : Int) ≤ sumk q k ∧ sumk q k ≤ 1000 * (k : Int)
  | 0, _ => by simp [sumk]
  | k + 1, hk => by
    have a := sumk_in h k (by omega)
    have b := h k (by omega)
    unfold sumk
    omega
/-- what a policy makes of the readings of one time -/
def val (p : Int) (q : List Rp) : Int := if p = 2 then vl q (q.length - 1) else if p = 3 then lo q else if p = 4 then hi q else if p = 5 then Un.hup (sumk q q.length) (q.length : Int) else vl q 0
/-- a function that gives the value of a policy -/
def Pol (fn : FuncId) (p : Int) : Prop := ∀ (ad : Addr) (m c : Nat) (q : List Rp) (w : World), Zo w (some ad) m q → 0 < m → m ≤ 100000 → Vls q → Calls Try.prog fn #[.slice (some ad) m c] w fun e w' => e = .returned (.int .i64 (val p q)) ∧ Bel w w'
set_option maxHeartbeats 2000000 in
theorem pol_first (p : Int) (hp : p = 1 ∨ p = 6) : Pol 28 p := fun ad m c q w hz hm hm2 hv => by
  obtain ⟨g, o, e, hg, hc⟩ := hz.2 hm
  cases e
  obtain ⟨c1, c2⟩ := hc 0 hm
  have HE : Hid (val p q = vl q 0) := by show _ = _; unfold val; rcases hp with rfl | rfl <;> rfl
  obtain ⟨y, hy⟩ : ∃ y, vl q 0 = y := ⟨_, rfl⟩
  rw [hy] at c2 HE
  have m0 : (0 : Int) < (m : Int) := by omega
  simp only [Nat.zero_mul, Nat.add_zero] at c1 c2
  clear hc hz hp hy
  go_enter Try.func28, Try.ntmps28
  go_wp2
  go_ret
  exact ⟨ret_int HE.out.symm, by first | exact Bel.rf | exact Bel.rf.drwN _⟩
set_option maxHeartbeats 2000000 in
theorem pol_last : Pol 29 2 := fun ad m c q w hz hm hm2 hv => by
  obtain ⟨g, o, e, hg, hc⟩ := hz.2 hm
  cases e
  obtain ⟨z, hzm⟩ : ∃ z, m = z + 1 := ⟨m - 1, by omega⟩
  obtain ⟨c1, c2⟩ := hc z (by omega)
  have HE : Hid (val 2 q = vl q z) := by show _ = _; unfold val; rw [if_pos rfl, hz.1, hzm]; rfl
  obtain ⟨y, hy⟩ : ∃ y, vl q z = y := ⟨_, rfl⟩
  rw [hy] at c2 HE
  have zi : (m : Int) - 1 = (z : Int) := by omega
  have zw : IntKind.i64.wrap (z : Int) = (z : Int) := IntWalk.i64_in _ (by omega)
  have zw2 : IntKind.i64.wrap ((m : Int) - 1) = (z : Int) := by rw [zi]; exact zw
  have z0 : (0 : Int) ≤ (z : Int) := by omega
  have z1 : (z : Int) < (m : Int) := by omega
  clear hc hz hy hzm
  go_enter Try.func29, Try.ntmps29
  go_wp2
  go_ret
  exact ⟨ret_int HE.out.symm, by first | exact Bel.rf | exact Bel.rf.drwN _⟩
set_option maxHeartbeats 4000000 in
theorem pol_mean : Pol 35 5 := fun ad m c q w hz hm hm2 hv => by
  have H1 := Lib.hid hz
  have HV := Lib.hid hv
  have hl := hz.1
  have mi : (m : Int) ≤ 100000 := by omega
  have HE : Hid (val 5 q = Un.hup (sumk q m) (m : Int)) := by show _ = _; unfold val; rw [if_neg (by decide), if_neg (by decide), if_neg (by decide), if_pos rfl, hl]
  obtain ⟨S, hS⟩ : ∃ S, sumk q m = S := ⟨_, rfl⟩
  have hb := sumk_in hv m (by omega)
  rw [hS] at HE hb
  have HF : Hid (∀ w, Calls Try.prog 42 #[.int .i64 S, .int .i64 (m : Int)] w fun e w' => e = .returned (.int .i64 (Un.hup S (m : Int))) ∧ w = w') := fun w => Un.half_any S (m : Int) (by omega) (by omega) (by omega) (by omega) w
  have HS := Lib.hid hS
  clear hz hv hS hb
  go_enter Try.func35, Try.ntmps35
  go_wp2
  go_loopw [3, 8] (fun s3 s8 wr => ∃ (k : Nat) (V : World) (T : Int), V = wr ∧ k ≤ m ∧ s8 = .int .i64 (k : Int) ∧ s3 = .int .i64 T ∧ sumk q k = T ∧ Bel w wr) (fun _ s8 _ => m - (intOf s8).toNat)
  case atStart => exact ⟨0, _, 0, rfl, by omega, rfl, rfl, rfl, by first | exact Bel.rf | exact Bel.rf.drwN _⟩
  case round =>
    obtain ⟨k, wr, T, hwr, hk, rfl, rfl, hT, hb⟩ := hrel
    subst hwr
    have HB := Lib.hid hb
    have HT := Lib.hid hT
    rcases Nat.lt_or_ge k m with hlt | hge
    · obtain ⟨g, o, e, hg, hc⟩ := (H1.out.bel hb).2 hm
      cases e
      obtain ⟨c1, c2⟩ := hc k hlt
      have hTb := sumk_in HV.out k (by omega)
      have hyb := HV.out k (by omega)
      rw [hT] at hTb
      have HN : Hid (sumk q (k + 1) = T + vl q k) := by show sumk q k + vl q k = _; rw [hT]
      obtain ⟨x, hx⟩ : ∃ y, tm q k = y := ⟨_, rfl⟩
      obtain ⟨y, hy⟩ : ∃ y, vl q k = y := ⟨_, rfl⟩
      rw [hx] at c1
      rw [hy] at c2 hyb HN
      obtain ⟨y1, y2⟩ := hyb
      have T1 : -100000000 ≤ T := by omega
      have T2 : T ≤ 100000000 := by omega
      have ki : (k : Int) < (m : Int) := by omega
      clear hc hb hT hx hy hTb
      go_wp2
      go_roundw
      case rel => exact ⟨k + 1, _, T + y, rfl, by omega, by go_num, by go_num, HN.out, by first | exact HB.out.al _ | exact (HB.out.al _).drwN _ | exact (HB.out.drwN _).al _⟩
      case measure => simp [intOf]; omega
    · obtain rfl : k = m := by omega
      obtain rfl : T = S := by rw [← hT]; exact HS.out
      clear hb hT
      go_wp2_with (go_at_call 42; refine (HF.out _).mono ?_; rintro e w' ⟨rfl, rfl⟩)
      go_ret
      exact ⟨ret_int HE.out.symm, by first | exact HB.out | exact HB.out.drwN _⟩
end Go.Proofs.Ytgcjangnlbhicaa.St
