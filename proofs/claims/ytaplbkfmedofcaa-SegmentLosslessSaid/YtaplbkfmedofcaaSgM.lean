/- segment.samples of any body; Encode of what has no segment. -/
import Derived.Test.YtaplbkfmedofcaaSgN
namespace Go.Proofs.Ytaplbkfmedofcaa.Sg
open Go.ChangeShapes Go.WideShapes Go.RowKit Wo Bm By Cd Pk Cr
open Wi (Zi zi_bk)
open Sr (zs zs_at zs_len)
set_option linter.unusedVariables false
set_option maxHeartbeats 1000000 in
theorem enc_bad (A : Option Addr) (c n : Nat) (L : List Int) (hn : n ≤ 1000000) (hv : ¬ Vx L) (w : World) (hz : Zi w A n L) :
    Calls Try.prog 11 #[.slice A n c] w fun e w' => ∃ er, e = .returned (.tuple #[.slice none 0 0, .int .i64 er]) ∧ er ≠ 0 ∧ Bel w w' := by
  have hl := hz.1
  rcases (show n < 1 ∨ 64 < n ∨ (1 ≤ n ∧ n ≤ 64) by omega) with h | h | ⟨h1, h2⟩
  · have e1 : (n : Int) < 1 := by omega
    clear hz hv
    go_enter Try.func11, Try.ntmps11
    go_wp2
    go_ret2
    exact ⟨8, rfl, by decide, Bel.rf⟩
  · have e1 : ¬ (n : Int) < 1 := by omega
    have e2 : 64 < (n : Int) := by omega
    clear hz hv
    go_enter Try.func11, Try.ntmps11
    go_wp2
    go_ret2
    exact ⟨8, rfl, by decide, Bel.rf⟩
  · have HSA : Hid (∀ W, Bel w W → Calls Try.prog 28 #[.slice A n c] W fun e w' => e = .returned (.bool false) ∧ Bel W w') := fun W hb => by
      refine (samples_any _ c n L (by omega) W (hz.bel hb)).mono ?_
      rintro e w' ⟨⟨b, rfl, hbb⟩, hb'⟩
      rcases b with _ | _
      · exact ⟨rfl, hb'⟩
      · exact (hv ⟨by omega, by omega, hbb.1 rfl⟩).elim
    have e1 : ¬ (n : Int) < 1 := by omega
    have e2 : ¬ 64 < (n : Int) := by omega
    clear hz hv
    go_enter Try.func11, Try.ntmps11
    go_wp2_with (go_at_call 28; refine (HSA.out _ (by first | exact Bel.rf | exact Bel.rf.drwN _)).mono ?_; rintro e w1 ⟨rfl, hb1⟩; have HB1 : Hid (Bel w w1) := (by first | exact hb1 | exact (Bel.rf.drwN _).tr hb1); clear hb1)
    go_ret2
    exact ⟨12, rfl, by decide, HB1.out⟩
/-- where the numbers of a body begin -/
def ats (P : List Nat) : Nat → Nat
  | 0 => 1
  | k + 1 => (dec P (ats P k)).2.1.toNat
def num (P : List Nat) (k : Nat) : Int := (dec P (ats P k)).1
theorem bod_nums {x : List Int} (h : Vx x) : num (bod x) 0 = (x.length : Int) ∧ num (bod x) 1 = mn x ∧ num (bod x) 2 = mx x - mn x ∧ (bod x).drop (ats (bod x) 4) = dt x ∧ (bod x).getD 0 0 = kd x ∧ (∀ k, k < 4 → (dec (bod x) (ats (bod x) k)).2.2 = 0) := by
  obtain ⟨p1, p2, p3, p4, e0, d1, d2, d3, d4, e5, l1, l2, l3, l4⟩ := bod_read h
  have a1 : ats (bod x) 1 = p1 := by show (dec (bod x) 1).2.1.toNat = p1; rw [d1]; rfl
  have a2 : ats (bod x) 2 = p2 := by show (dec (bod x) (ats (bod x) 1)).2.1.toNat = p2; rw [a1, d2]; rfl
  have a3 : ats (bod x) 3 = p3 := by show (dec (bod x) (ats (bod x) 2)).2.1.toNat = p3; rw [a2, d3]; rfl
  have a4 : ats (bod x) 4 = p4 := by show (dec (bod x) (ats (bod x) 3)).2.1.toNat = p4; rw [a3, d4]; rfl
  refine ⟨?_, ?_, ?_, by rw [a4, e5], e0, fun k hk => ?_⟩
  · show (dec (bod x) 1).1 = _; rw [d1]
  · show (dec (bod x) (ats (bod x) 1)).1 = _; rw [a1, d2]
  · show (dec (bod x) (ats (bod x) 2)).1 = _; rw [a2, d3]
  · rcases (show k = 0 ∨ k = 1 ∨ k = 2 ∨ k = 3 by omega) with rfl | rfl | rfl | rfl
    · show (dec (bod x) 1).2.2 = _; rw [d1]
    · rw [a1, d2]
    · rw [a2, d3]
    · rw [a3, d4]
theorem kd_zero {x : List Int} (h : kd x = 0) : mn x = mx x := by
  unfold kd at h
  split at h
  · assumption
  · split at h <;> omega
theorem kd_one {x : List Int} (h : kd x = 1) : dt x = pd x := by
  unfold kd at h
  unfold dt
  split at h
  · omega
  · rename_i h1
    split at h
    · omega
    · rename_i h2; rw [if_neg h1, if_neg h2]
theorem kd_two {x : List Int} (h : kd x = 2) : dt x = dd x := by
  unfold kd at h
  unfold dt
  split at h
  · omega
  · rename_i h1
    split at h
    · rename_i h2; rw [if_neg h1, if_pos h2]
    · omega
theorem kd_any (A : Option Addr) (c M n k0 : Nat) (P : List Nat) (K Lo G S : Int) (D : List Nat) (hn1 : 1 ≤ n) (hn : n ≤ 64) (hM : M ≤ 1000000) (hcc : M < c) (hcm : c ≤ 9223372036854775807) (w : World) (hr : Rd w A M D) (f : FuncId)
    (hk : (k0 = 0 ∧ f = 78) ∨ (k0 = 1 ∧ f = 80) ∨ (k0 = 2 ∧ f = 92)) :
    Calls Try.prog f #[.agg #[], .slice A M c, hdv K (n : Int) Lo G S] w (SomeKd (fun x => x.length = n ∧ Lo = mn x ∧ G = mx x ∧ D = dt x ∧ kd x = k0) w) := by
  rcases hk with ⟨rfl, rfl⟩ | ⟨rfl, rfl⟩ | ⟨rfl, rfl⟩
  · refine (kdec0 A M c n K Lo G S hn w).mono ?_
    rintro e w' ⟨a, rfl, ha, hz, hb⟩
    refine ⟨_, _, _, _, true, rfl, hz, hn, Nat.le_refl _, by unfold maxLen; omega, fun e => (by cases e), fun ad e => ⟨a, (by cases e; rfl), ha⟩, hb, fun x hx h => ⟨rfl, ?_⟩⟩
    obtain ⟨h1, h2, h3, h4, h5⟩ := h
    rw [all_eq (kd_zero h5), h1, h2]
  · refine (kdec1 A c M n D K Lo G S hn hM w hr).mono ?_
    rintro e w' ⟨A', m, c', L, b, rfl, hz, h1, h2, h3, h4, h5, hb, hq⟩
    exact ⟨A', m, c', L, b, rfl, hz, h1, h2, h3, h4, h5, hb, fun x hx h => hq x hx ⟨h.1, h.2.1, h.2.2.1, by rw [h.2.2.2.1, kd_one h.2.2.2.2]⟩⟩
  · refine (kdec2 A c M n D K Lo G S hn1 hn hM hcc hcm w hr).mono ?_
    rintro e w' ⟨A', m, c', L, b, rfl, hz, h1, h2, h3, h4, h5, hb, hq⟩
    exact ⟨A', m, c', L, b, rfl, hz, h1, h2, h3, h4, h5, hb, fun x hx h => hq x hx ⟨h.1, by rw [h.2.2.2.1, kd_two h.2.2.2.2]⟩⟩
end Go.Proofs.Ytaplbkfmedofcaa.Sg
