/- The chapter's examples (awake of layer 8), and keep's Grid. -/
import Derived.Test.YtdkibffbaamkkaaRes5
namespace Go.Proofs.Ytdkibffbaamkkaa.Rg
open Go.ChangeShapes Go.WideShapes Go.RowKit Wo Sr Wi Rm
set_option linter.unusedVariables false
set_option maxHeartbeats 4000000 in
theorem two_ok (w : World) : Calls Try.prog 42 #[] w fun e w' => ∃ g, e = .returned (.slice (some ⟨g, 0, none⟩) 2 2) ∧ Bk w' g 40 (rs [(10, 0), (20, 5)]).toArray ∧ Bel w w' := by
  go_enter Try.func42, Try.ntmps42
  go_wp2
  go_ret
  exact ⟨_, rfl, Bk.nw w _ _, Bel.rf.al _⟩
theorem vals_two : vals [(10, 0), (20, 5)] 9 2 3 9 7 = [1073741824, 1, 2, 3, 4, 5, 1073741824] := by kernel_rfl
theorem asc_two : Asc [(10, 0), (20, 5)] := asc_snoc (asc_snoc asc_nil 10 0 (fun i hi => by simp at hi) (by decide) (by decide) (by decide) (by decide)) 20 5 (fun i hi => by
  obtain rfl : i = 0 := by simpa using hi
  decide) (by decide) (by decide) (by decide) (by decide)
set_option maxHeartbeats 4000000 in
theorem awake_ok (w : World) : Calls Try.prog 23 #[] w fun e w' => e = .returned (.bool true) ∧ Bel w w' := by
  have HIN : Hid (∀ (gq h : Nat) (W : World), Zi W (some ⟨gq, 0, none⟩) 7 [1073741824, 1, 2, 3, 4, 5, 1073741824] → Zi W (some ⟨h, 0, none⟩) 7 [1073741824, 1, 2, 3, 4, 5, 1073741824] → _) := fun gq h W h1 h2 => ints_same (some ⟨gq, 0, none⟩) (some ⟨h, 0, none⟩) 7 7 7 [1073741824, 1, 2, 3, 4, 5, 1073741824] (by decide) W h1 h2
  go_enter Try.func23, Try.ntmps23
  go_wp2_with fail
  go_at_call 42
  refine (two_ok _).mono ?_
  rintro e w1 ⟨g, rfl, hk, hb⟩
  have HB1 := Lib.hid hb
  have HAP : Hid (∀ W, Bel w1 W → Calls Try.prog 25 #[.slice (some ⟨g, 0, none⟩) 2 2, .agg #[.int .i64 9, .int .i64 2, .int .i64 7, .int .i64 3, .int .i64 9]] W _) := fun W hW => apply_ok (some ⟨g, 0, none⟩) 2 2 [(10, 0), (20, 5)] (by decide) asc_two 9 2 3 9 7 (by unfold Gv; omega) W (zr_bk (hk.bel hW) 2 rfl)
  clear hk hb
  go_wp2_with fail
  go_at_call 25
  refine (HAP.out _ (by first | exact Bel.rf | exact Bel.rf.drwN _)).mono ?_
  rintro e w2 ⟨gq, rfl, hgq, hkq, hb⟩
  rw [vals_two] at hkq
  have HB2 : Hid (Bel w w2) := by first | exact HB1.out.tr hb | exact (HB1.out.drwN _).tr hb
  have HKQ := Lib.hid hkq
  have hlt := hkq.lt
  clear hkq hb
  go_wp2_with (go_at_call 26; refine (HIN.out _ _ _ (zi_bk (HKQ.out.bel (by repeat (first | exact Bel.rf | (with_reducible refine Bel.drwN ?_ _) | (with_reducible refine Bel.drw ?_) | (with_reducible refine Bel.al ?_ _)))) 7 rfl) (zi_bk (Bk.nq _ _ _ (by simp)) 7 rfl)).mono ?_; rintro e w3 ⟨rfl, hb3⟩)
  go_ret
  exact ⟨rfl, Bel.tr (by repeat (first | exact HB2.out | (with_reducible refine Bel.drwN ?_ _) | (with_reducible refine Bel.drw ?_) | (with_reducible refine Bel.al ?_ _))) hb3⟩
end Go.Proofs.Ytdkibffbaamkkaa.Rg
