/- series: the checks of valid series. -/
import Derived.Test.YtaplbkfmedofcaaZiS
import Derived.Test.YtaplbkfmedofcaaSerMath
import Derived.BigQuiet
namespace Go.Proofs.Ytaplbkfmedofcaa.Se
open Go.ChangeShapes Go.WideShapes Go.RowKit Wo Sr Wi
set_option linter.unusedVariables false
/-- values: samples, or missing -/
def Sv (L : List Int) : Prop := ∀ x ∈ L, (-1000 ≤ x ∧ x ≤ 1000) ∨ x = 1073741824
theorem Sv.take {L : List Int} (h : Sv L) (n : Nat) : Sv (L.take n) := fun x hx => h x (List.mem_of_mem_take hx)
theorem Sv.drop {L : List Int} (h : Sv L) (n : Nat) : Sv (L.drop n) := fun x hx => h x (List.mem_of_mem_drop hx)
theorem Sv.app {L M : List Int} (h : Sv L) (k : Sv M) : Sv (L ++ M) := fun x hx => (List.mem_append.1 hx).elim (h x) (k x)
theorem Sv.rep (n : Nat) : Sv (List.replicate n 1073741824) := fun x hx => .inr (List.eq_of_mem_replicate hx)
theorem Sv.at {L : List Int} (h : Sv L) {i : Nat} (hi : i < L.length) : (-1000 ≤ L.getD i 0 ∧ L.getD i 0 ≤ 1000) ∨ L.getD i 0 = 1073741824 := by
  rw [List.getD_eq_getElem?_getD, List.getElem?_eq_getElem hi]
  exact h _ (List.getElem_mem hi)
theorem sample_no (w : World) : Calls Try.prog 42 #[.int .i64 1073741824] w fun e w' => e = .returned (.bool false) ∧ w = w' := by
  go_enter Try.func42, Try.ntmps42
  go_wp2
  go_ret
  exact ⟨rfl, rfl⟩
set_option maxHeartbeats 4000000 in
theorem values_ok (A : Option Addr) (c n : Nat) (L : List Int) (hn : n ≤ 3000) (hs : Sv L) (w : World) (h : Zi w A n L) :
    Calls Try.prog 50 #[.slice A n c] w fun e w' => e = .returned (.bool true) ∧ Bel w w' := by
  have H1 := Lib.hid h
  have HS := Lib.hid hs
  have ni : (n : Int) ≤ 3000 := by omega
  clear h hs
  go_enter Try.func50, Try.ntmps50
  go_wp2
  go_loopw [7] (fun s7 wr => ∃ (k : Nat) (V : World), V = wr ∧ k ≤ n ∧ s7 = .int .i64 (k : Int) ∧ Bel w wr) (fun s7 _ => n - (intOf s7).toNat)
  case atStart => exact ⟨0, _, rfl, by omega, rfl, Bel.rf⟩
  case round =>
    obtain ⟨k, wr, hwr, hk, rfl, hb⟩ := hrel
    subst hwr
    have HB := Lib.hid hb
    rcases Nat.lt_or_ge k n with hlt | hge
    · obtain ⟨ad, rfl, hab, hac⟩ := (H1.out.bel hb).2 (by omega)
      have c1 := hac k hlt
      have hx := HS.out.at (i := k) (by have := H1.out.1; omega)
      obtain ⟨x, hxe⟩ : ∃ x, L.getD k 0 = x := ⟨_, rfl⟩
      rw [hxe] at c1 hx
      have ki : (k : Int) < (n : Int) := by omega
      clear hb hac hab hxe
      rcases hx with ⟨x0, x1⟩ | rfl
      · go_wp2_with (go_at_call 42; refine (sample_ok x x0 x1 _).mono ?_; rintro e w' ⟨rfl, rfl⟩)
        go_roundw
        case rel => exact ⟨k + 1, _, rfl, by omega, by go_num, by first | exact HB.out | exact HB.out.drwN _ | exact HB.out.drw⟩
        case measure => simp [intOf]; omega
      · go_wp2_with (go_at_call 42; refine (sample_no _).mono ?_; rintro e w' ⟨rfl, rfl⟩)
        go_roundw
        case rel => exact ⟨k + 1, _, rfl, by omega, by go_num, by first | exact HB.out | exact HB.out.drwN _ | exact HB.out.drw⟩
        case measure => simp [intOf]; omega
    · obtain rfl : k = n := by omega
      clear hb
      go_wp2
      go_ret
      exact ⟨rfl, HB.out⟩
/-- a series within these bounds -/
def Sb (st sp : Int) (n : Nat) : Prop := 0 ≤ st ∧ st ≤ 1000000 ∧ 1 ≤ sp ∧ sp ≤ 20 ∧ n ≤ 2000
theorem sb_mul {sp : Int} {n : Nat} (h0 : 1 ≤ sp) (h1 : sp ≤ 20) (hn : n ≤ 3000) : 0 ≤ sp * (n : Int) ∧ sp * (n : Int) ≤ 60000 := by
  have a := Int.mul_le_mul_of_nonneg_right h1 (show (0 : Int) ≤ (n : Int) by omega)
  exact ⟨Int.mul_nonneg (by omega) (by omega), by omega⟩
theorem end_ok (st sp : Int) (A : Option Addr) (n c : Nat) (h : Sb st sp n) (w : World) :
    Calls Try.prog 51 #[.agg #[.int .i64 st, .int .i64 sp, .slice A n c]] w fun e w' => e = .returned (.int .i64 (st + sp * (n : Int))) ∧ Bel w w' := by
  obtain ⟨a1, a2, a3, a4, a5⟩ := h
  obtain ⟨p, hp⟩ : ∃ p, sp * (n : Int) = p := ⟨_, rfl⟩
  obtain ⟨p0, p1⟩ := sb_mul a3 a4 (show n ≤ 3000 by omega)
  rw [hp] at p0 p1 ⊢
  have wp1 : IntKind.i64.wrap p = p := IntWalk.i64_in _ (by omega)
  have wp2 : IntKind.i64.wrap (st + p) = st + p := IntWalk.i64_in _ (by omega)
  go_enter Try.func51, Try.ntmps51
  go_wp2
  go_ret
  exact ⟨rfl, Bel.rf.al _⟩
set_option maxHeartbeats 4000000 in
theorem valid_ok (st sp : Int) (A : Option Addr) (n c : Nat) (L : List Int) (h : Sb st sp n) (hs : Sv L) (w : World) (hz : Zi w A n L) :
    Calls Try.prog 36 #[.agg #[.int .i64 st, .int .i64 sp, .slice A n c]] w fun e w' => e = .returned (.bool true) ∧ Bel w w' := by
  have EN : Hid (∀ W, _) := fun W => end_ok st sp A n c h W
  have VL : Hid (∀ W, Zi W A n L → _) := fun W hW => values_ok A c n L (by have := h.2.2.2.2; omega) hs W hW
  have HZ := Lib.hid hz
  obtain ⟨a1, a2, a3, a4, a5⟩ := h
  obtain ⟨p0, p1⟩ := sb_mul a3 a4 (show n ≤ 3000 by omega)
  obtain ⟨p, hp⟩ : ∃ p, st + sp * (n : Int) = p := ⟨_, rfl⟩
  have pb : p ≤ 2199023255552 := by omega
  rw [hp] at EN
  have ni : (n : Int) ≤ 2000 := by omega
  have HK := Lib.hid (Bk.nw w 43 #[.int .i64 st, .int .i64 sp, .slice A n c])
  clear hs hz hp p0 p1
  go_enter Try.func36, Try.ntmps36
  go_wp2_with fail
  go_at_call 50
  refine (VL.out _ (HZ.out.bel (Bel.rf.al _))).mono ?_
  rintro e w2 ⟨rfl, hb2⟩
  have B2 := HK.out.bel hb2
  have d0 := B2.cell 0
  have d1 := B2.cell 1
  have d2 := B2.cell 2
  have dl := B2.lt
  have HB2 := Lib.hid hb2
  clear B2 hb2
  go_wp2_with fail
  go_at_call 51
  refine (EN.out _).mono ?_
  rintro e w3 ⟨rfl, hb3⟩
  have HB3 := Lib.hid hb3
  clear hb3
  go_wp2
  go_ret
  exact ⟨rfl, (Bel.rf.al _).tr (HB2.out.tr HB3.out)⟩
theorem runs_ok (A : Option Addr) (n c : Nat) (w : World) :
    Calls Try.prog 53 #[.slice A n c] w fun e w' => e = .returned (.func (.func 59) #[] #[.pointer (some ⟨w.heap.size, 0, none⟩)]) ∧ w' = w.alloc (.cells #[.slice A n c] 22) := by
  go_enter Try.func53, Try.ntmps53
  go_wp2
  go_ret
  exact ⟨rfl, rfl⟩
end Go.Proofs.Ytaplbkfmedofcaa.Se
