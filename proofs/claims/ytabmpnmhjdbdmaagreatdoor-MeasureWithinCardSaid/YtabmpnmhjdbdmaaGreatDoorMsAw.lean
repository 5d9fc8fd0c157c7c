/- shapesearchlaw17.awake. -/
import Derived.Test.YtabmpnmhjdbdmaaGreatDoorMsD
import Derived.Test.YtabmpnmhjdbdmaaGreatDoorMsP
import Derived.Test.YtabmpnmhjdbdmaaGreatDoorWarp4
namespace Go.Proofs.YtabmpnmhjdbdmaaGreatDoor.Ms
open Go.ChangeShapes Go.WideShapes Go.RowKit Wo Sr Wi Ra Rr
set_option linter.unusedVariables false
def ex : ByteArray := ⟨#[101, 100, 105, 116, 32, 45, 53]⟩
theorem ex_num : num ex = -5 := by decide +kernel
theorem ex_fmt : fmt 5 (-5) = [101, 100, 105, 116, 32, 45, 53] := by
  have e : Lib.itoa (-5) = [45, 53] := by
    have := Lib.itoa_neg 5 (by decide)
    rw [dec_small (by decide)] at this
    exact this
  unfold fmt
  rw [if_pos (by unfold okm; omega), if_neg (by decide), e]
  rfl
theorem ex_cut : (cut32 ex.data.toList).1 = [101, 100, 105, 116] := by decide +kernel
theorem ex_cnd : cnd ex 5 := by
  refine ⟨by rw [ex_cut]; rfl, ?_⟩
  rw [ex_num, ex_fmt]
  rfl
theorem ex_one (k : Nat) (h1 : 1 ≤ k) (h5 : k ≤ 5) (h : cnd ex k) : k = 5 := by
  have e := h.1
  rw [ex_cut] at e
  rcases (by omega : k = 1 ∨ k = 2 ∨ k = 3 ∨ k = 4 ∨ k = 5) with rfl | rfl | rfl | rfl | rfl
  all_goals first | rfl | (exfalso; revert e; decide)
theorem ex_parse (w : World) (hw : Lw w) : Calls Tryz.prog 22 #[.string ex] w fun e w' => e = .returned (.tuple #[.agg #[.int .i64 5, .int .i64 0, .int .i64 (-5)], .int .i64 0]) ∧ Bel w w' := by
  refine (parse_ok ex (by decide) w hw).mono ?_
  rintro e w1 ⟨h, hb⟩
  rcases h with ⟨k, h1, h5, hc, rfl⟩ | ⟨h, _⟩
  · obtain rfl := ex_one k h1 h5 hc
    rw [ex_num]
    exact ⟨rfl, hb⟩
  · exact absurd ex_cnd (h 5 (by decide) (by decide))
set_option maxRecDepth 100000 in
theorem check_zero (w : World) : Calls Tryz.prog 16 #[.agg #[.int .i64 0, .int .i64 1, .int .i64 0]] w fun e w' => e = .returned (.int .i64 9) ∧ Bel w w' := by
  go_enter Tryz.func16, Tryz.ntmps16
  go_wp2
  go_ret
  exact ⟨rfl, Bel.rf.al _⟩
theorem ex_wt : wt [0, 0, 5] [0, 5, 5] 1 3 3 = 0 := by simp [wt, mn3, mn, cst, Bnd, far]
theorem sam_l {L : List Int} (h : (L.all fun x => decide (-1000 ≤ x) && decide (x ≤ 1000)) = true) : Sam L := fun x hx => by
  have := List.all_eq_true.1 h x hx
  simpa using this
theorem dist_warp (A A' : Option Addr) (c c' n m : Nat) (L N : List Int) (b : Int) (n1 : 2 ≤ n) (n2 : n ≤ 32) (m1 : 2 ≤ m) (m2 : m ≤ 32) (b0 : 0 ≤ b) (b32 : b ≤ 32) (b1 : (n : Int) - (m : Int) ≤ b) (b2 : (m : Int) - (n : Int) ≤ b) (hs : Sam L) (ht : Sam N) (w : World) (h1 : Zi w A n L) (h2 : Zi w A' m N) (v0 : 0 ≤ wt L N b n m) (v1 : wt L N b n m ≤ 2305843009213693952) :
    Calls Tryz.prog 8 #[.agg #[.int .i64 4, .int .i64 b, .int .i64 0], .slice A n c, .slice A' m c'] w fun e w' => e = .returned (.tuple #[.agg #[.int .i64 (wt L N b n m), .int .i64 1], .int .i64 0]) ∧ Bel w w' :=
  dist4 b 0 A A' c c' n m _ _ (.inr (.inl ⟨rfl, b0, b32, rfl⟩)) w (fun W gc hW hg =>
    clos2 A A' c c' n m L N _ gc 4 b 0 W hg (h1.bel hW) (h2.bel hW) (fun V hV => Wa.distance_ok A A' c c' n m L N b n1 n2 m1 m2 b0 b32 b1 b2 hs ht V (h1.bel (hW.tr hV)) (h2.bel (hW.tr hV))) v0 v1)
set_option maxHeartbeats 4000000 in
set_option maxRecDepth 100000 in
theorem awake_any (w : World) (hw : Lw w) : Calls Tryz.prog 11 #[] w fun e w' => e = .returned (.bool true) ∧ Bel w w' := by
  have PA : Hid (Calls Tryz.prog 22 #[.string ⟨#[101, 100, 105, 116, 32, 45, 53]⟩] w fun e w' => e = .returned (.tuple #[.agg #[.int .i64 5, .int .i64 0, .int .i64 (-5)], .int .i64 0]) ∧ Bel w w') := ex_parse w hw
  have CZ : Hid (∀ W, _) := fun W => check_zero W
  have EW := Lib.hid ex_wt
  clear hw
  go_enter Tryz.func11, Tryz.ntmps11
  go_wp2_with fail
  go_at_call 22
  refine PA.out.mono ?_
  rintro e w1 ⟨rfl, hb⟩
  have HB1 := Lib.hid hb
  have hM1 : Bk (w1.alloc (.cells #[.int .i64 5, .int .i64 0, .int .i64 (-5)] 26)) w1.heap.size 26 #[.int .i64 5, .int .i64 0, .int .i64 (-5)] := Bk.nw _ _ _
  have HM1 := Lib.hid hM1
  clear hb hM1
  go_wp2_with fail
  go_at_call 8
  refine (dist_warp _ _ 3 3 3 3 [0, 0, 5] [0, 5, 5] 1 (by decide) (by decide) (by decide) (by decide) (by decide) (by decide) (by decide) (by decide) (sam_l (by decide)) (sam_l (by decide)) _ (zi_bk (((Bk.nq _ 3 _ (by simp))).al _) 3 rfl) (zi_bk (Bk.nq _ 3 _ (by simp)) 3 rfl) (by rw [EW.out]; decide) (by rw [EW.out]; decide)).mono ?_
  rintro e w2 ⟨rfl, hb⟩
  rw [EW.out]
  have K2 := ((HM1.out.al _).al _).bel hb
  have HB2 : Hid (Bel w w2) := HB1.out.tr ((((Bel.rf.al _).al _).al _).tr hb)
  have k0 : w2.cell? ⟨w1.heap.size, 0, none⟩ = some (.int .i64 5) := K2.cell 0
  have k1 : w2.cell? ⟨w1.heap.size, 1, none⟩ = some (.int .i64 0) := K2.cell 1
  have k2 : w2.cell? ⟨w1.heap.size, 2, none⟩ = some (.int .i64 (-5)) := K2.cell 2
  have lt := K2.lt
  clear hb K2
  go_wp2_with (go_at_call 16; refine (CZ.out _).mono ?_; rintro e w3 ⟨rfl, h3⟩)
  go_ret
  exact ⟨rfl, HB2.out.tr ((Bel.rf.al _).tr h3)⟩
end Go.Proofs.YtabmpnmhjdbdmaaGreatDoor.Ms
