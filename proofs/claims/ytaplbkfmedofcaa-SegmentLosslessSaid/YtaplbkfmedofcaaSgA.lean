/- The statements' samples (made); their example (awake). -/
import Derived.Test.YtaplbkfmedofcaaSgZ
import Derived.Test.YtaplbkfmedofcaaSrcNew0
namespace Go.Proofs.Ytaplbkfmedofcaa.Sg
open Go.ChangeShapes Go.WideShapes Go.RowKit Wo Bm By Cd Pk Cr
open Wi (Zi zi_bk row_form own_zi)
open Sr (zs zs_at zs_len Ok Ch pick_any range_any list_any lst_new)
set_option linter.unusedVariables false
def SomeMade (g : Nat) (w : World) (e : Ending) (w' : World) : Prop := ∃ (h c n : Nat) (x : List Int), e = .returned (.slice (some ⟨h, 0, none⟩) n c) ∧ Zi w' (some ⟨h, 0, none⟩) n x ∧ x.length = n ∧ n ≤ c ∧ Vx x ∧ w.heap.size ≤ h ∧ Ok w' g ∧ Ch g w w'
set_option maxHeartbeats 2000000 in
theorem made_ok (g : Nat) (w : World) (h : Ok w g) : Calls Try.prog 9 #[.pointer (some ⟨g, 0, none⟩)] w (SomeMade g w) := by
  have HO := Lib.hid h
  have hgb := h.lt
  have hls := lst_new w [4, 12, 64] 3 #[.int .i64 4, .int .i64 12, .int .i64 64] rfl w.heap.size rfl
  have HPI : Hid (Calls Try.prog 27 #[.pointer (some ⟨g, 0, none⟩), .slice (some ⟨w.heap.size, 0, none⟩) 3 3] (w.alloc (.cells #[.int .i64 4, .int .i64 12, .int .i64 64] 3)) (Sr.SomePick g [4, 12, 64] (w.alloc (.cells #[.int .i64 4, .int .i64 12, .int .i64 64] 3)))) := pick_any g w.heap.size [4, 12, 64] 3 rfl (by omega) (by omega) (by omega) _ (h.bel (Bel.rf.al _)) hls
  clear h hls
  go_enter Try.func9, Try.ntmps9
  go_wp2_with (first
    | (go_at_call 27; refine HPI.out.mono ?_; rintro e w1 ⟨q, rfl, hq, ho1, hc1⟩; have hqb : 1 ≤ q ∧ q ≤ 64 := (by simp at hq; omega); have HO1 := Lib.hid ho1; have HC1 := Lib.hid hc1; clear ho1 hc1)
    | (go_at_call 26; refine (range_any g 1 q (by omega) (by omega) (by omega) _ HO1.out).mono ?_; rintro e w2 ⟨n0, rfl, hn0, hn1, ho2, hc2⟩; obtain ⟨n, rfl⟩ := Int.eq_ofNat_of_zero_le (show 0 ≤ n0 by omega); have HO2 := Lib.hid ho2; have HC2 := Lib.hid hc2; clear ho2 hc2)
    | (go_at_call 25; refine (list_any g n (by omega) _ HO2.out).mono ?_; rintro e w3 ⟨v, L, rfl, hown, hL, hs, ho3, hc3⟩; obtain ⟨h9, c9, rfl, hc9, hg9⟩ := row_form hown (by omega)))
  go_ret
  have hch : Ch g w w3 := ((Ch.of_bel (Bel.rf.al _)).tr HC1.out).tr (HC2.out.tr hc3)
  exact ⟨h9, c9, n, L, rfl, own_zi hown hL, hL, hc9, ⟨by omega, by omega, hs⟩, Nat.le_trans (((Ch.of_bel (Bel.rf.al _)).tr HC1.out).tr HC2.out).sz hg9, ho3, hch⟩
theorem bod_777 : bod [7, 7, 7] = [0, 6, 14, 0, 42] := by
  have e : mn [7, 7, 7] = 7 := by decide
  have e2 : mx [7, 7, 7] = 7 := by decide
  unfold bod kd dt
  rw [e, e2]
  decide
theorem vx_777 : Vx [7, 7, 7] := ⟨by decide, by decide, fun n hn => by simp at hn; omega⟩
theorem len_777 : (seg [7, 7, 7]).length = 9 := by rw [(seg_len vx_777).2.2, bod_777]; rfl
theorem tak_777 : (seg [7, 7, 7]).take 5 = [0, 6, 14, 0, 42] := by
  have := (seg_parts (x := [7, 7, 7])).1
  rw [bod_777] at this
  exact this
theorem hd_777 : hdv (kd [7, 7, 7]) ([7, 7, 7] : List Int).length (mn [7, 7, 7]) (mx [7, 7, 7]) ([7, 7, 7] : List Int).sum = hdv 0 3 7 7 21 := by
  have e : mn [7, 7, 7] = 7 := by decide
  have e2 : mx [7, 7, 7] = 7 := by decide
  have e3 : kd [7, 7, 7] = 0 := by unfold kd; rw [e, e2]; rfl
  rw [e, e2, e3]
  rfl
theorem sb_777 : sb [0, 6, 14, 0, 42] = { data := #[0, 6, 14, 0, 42] } := by rfl
set_option maxHeartbeats 4000000 in
theorem awake10_ok (w : World) : Calls Try.prog 8 #[] w fun e w' => e = .returned (.bool true) ∧ Bel w w' := by
  have HE : Hid (∀ (g : Nat) W, Bk W g 3 #[.int .i64 7, .int .i64 7, .int .i64 7] → Calls Try.prog 11 #[.slice (some ⟨g, 0, none⟩) 3 3] W (fun e w' => ∃ g c, e = .returned (.tuple #[.slice (some ⟨g, 0, none⟩) 9 c, .int .i64 0]) ∧ 9 ≤ c ∧ c ≤ maxLen ∧ Rd w' (some ⟨g, 0, none⟩) 9 (seg [7, 7, 7]) ∧ Bel W w')) := fun g W h => by
    refine (enc_ok g 0 3 3 [7, 7, 7] vx_777 rfl W (zi_bk (L := [7, 7, 7]) h 3 rfl)).mono ?_
    rintro e w' ⟨u, rfl, ho, hb⟩
    obtain ⟨g', c, rfl, h1, h2, _, hr⟩ := own_rd ho (seg_byte vx_777) rfl (by rw [len_777]; omega)
    rw [len_777] at h1 hr ⊢
    exact ⟨g', c, rfl, h1, h2, hr, hb⟩
  have HS : Hid (∀ (g c : Nat) W, 9 ≤ c → c ≤ maxLen → Rd W (some ⟨g, 0, none⟩) 9 (seg [7, 7, 7]) → Calls Try.prog 13 #[.slice (some ⟨g, 0, none⟩) 9 c] W (fun e w' => e = .returned (.tuple #[.agg #[.int .i64 0, .int .i64 3, .int .i64 7, .int .i64 7, .int .i64 21], .int .i64 0]) ∧ Bel W w')) := fun g c W h1 h2 hr => by
    have h9 := sum_ok (some ⟨g, 0, none⟩) c 9 [7, 7, 7] vx_777 (by omega) h1 h2 W hr
    rw [hd_777] at h9
    exact h9
  go_enter Try.func8, Try.ntmps8
  go_wp2_with fail
  go_at_call 11
  refine (HE.out _ _ (by first | exact Bk.nw _ _ _ | exact (Bk.nw _ _ _).drwN _)).mono ?_
  rintro e w2 ⟨h, c, rfl, hc, hcm, hr, hb⟩
  have HR := Lib.hid hr
  have HB : Hid (Bel w w2) := (Bel.rf.al _).tr (by first | exact hb | exact (Bel.rf.drwN _).tr hb)
  have HC := Lib.hid (And.intro hc hcm)
  clear hr hb hcm
  go_wp2_with fail
  go_at_call 13
  refine (HS.out _ _ _ HC.out.1 HC.out.2 (by first | exact HR.out | exact HR.out.bel (Bel.rf.drwN _))).mono ?_
  rintro e w3 ⟨rfl, hb3⟩
  have HB3 : Hid (Bel w2 w3) := by first | exact hb3 | exact (Bel.rf.drwN _).tr hb3
  have hr3 : Rd w3 (some ⟨h, 0, none⟩) 5 [0, 6, 14, 0, 42] := by
    have := rd_take (HR.out.bel HB3.out) 5 (by decide)
    rwa [tak_777] at this
  have st : ∀ o, (convert 23 9 (.slice (some ⟨h, 0, none⟩) 5 c)).run Try.prog (w3.alloc o) = .ok (.string { data := #[0, 6, 14, 0, 42] }) (w3.alloc o) := fun o => by
    rw [← sb_777]; exact str_rd (hr3.bel (Bel.rf.al _))
  have c8 : (5 : Int) ≤ (c : Int) := by omega
  clear hr3 hb3
  go_wp2
  go_ret
  exact ⟨rfl, by first | exact (HB.out.tr HB3.out).al _ | exact ((HB.out.tr HB3.out).al _).drwN _⟩
end Go.Proofs.Ytaplbkfmedofcaa.Sg
