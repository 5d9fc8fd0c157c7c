/- keep.Suited: two windows that suit a measure. -/
import Derived.Test.YtabmpnmhjdbdmaaGreatDoorMsK
import Derived.Test.YtabmpnmhjdbdmaaGreatDoorEdit1
import Derived.Test.YtabmpnmhjdbdmaaGreatDoorMsG
namespace Go.Proofs.YtabmpnmhjdbdmaaGreatDoor.Ms
open Go.ChangeShapes Go.WideShapes Go.RowKit Wo Sr Wi
set_option linter.unusedVariables false
theorem own_low {w : World} {base base' size n : Nat} {e : TypeId} {v : Value} {xs : List Value} (h : w.ownsRow base e size v n xs) (hb : base' ≤ base) : w.ownsRow base' e size v n xs := by
  refine ⟨h.1, ?_⟩
  rcases h.2 with hn | ⟨q', cap, cur, rfl, hbb, rest⟩
  · exact .inl hn
  · exact .inr ⟨q', cap, cur, rfl, by omega, rest⟩
def SomeS (q : Nat) (k b : Int) (w : World) (e : Ending) (w' : World) : Prop := ∃ (xa xb ya yb n m : Nat) (L N : List Int), e = .returned (.tuple #[.slice (some ⟨xa, 0, none⟩) n xb, .slice (some ⟨ya, 0, none⟩) m yb]) ∧ 2 ≤ n ∧ n ≤ 32 ∧ 2 ≤ m ∧ m ≤ 32 ∧ Fit k b n m ∧
  w'.ownsRow w.heap.size 3 1 (.slice (some ⟨xa, 0, none⟩) n xb) n (zs L) ∧ w'.ownsRow w.heap.size 3 1 (.slice (some ⟨ya, 0, none⟩) m yb) m (zs N) ∧ L.length = n ∧ N.length = m ∧ Sam L ∧ Sam N ∧ Ok w' q ∧ Ch q w w'
set_option maxHeartbeats 8000000 in
set_option maxRecDepth 100000 in
theorem suited_any (q : Nat) (k b g : Int) (hmv : Mv k b g) (w : World) (h : Ok w q) : Calls Tryz.prog 6 #[.pointer (some ⟨q, 0, none⟩), .agg #[.int .i64 k, .int .i64 b, .int .i64 g]] w (SomeS q k b w) := by
  have HGB := Lib.hid h.lt
  have HO0 : Hid (Ok (w.alloc (.cells #[.int .i64 k, .int .i64 b, .int .i64 g] 26)) q) := h.bel (Bel.rf.al _)
  have HK0 : Hid (Bk (w.alloc (.cells #[.int .i64 k, .int .i64 b, .int .i64 g] 26)) w.heap.size 26 #[.int .i64 k, .int .i64 b, .int .i64 g]) := Bk.nw _ _ _
  have HC0 : Hid (Ch q w (w.alloc (.cells #[.int .i64 k, .int .i64 b, .int .i64 g] 26))) := Ch.of_bel (Bel.rf.al _)
  clear h
  go_enter Tryz.func6, Tryz.ntmps6
  go_wp2_with fail
  go_at_call 14
  refine (pair_any q _ HO0.out).mono ?_
  rintro e v2 ⟨xa, xb, ya, yb, n, L, M, rfl, n1, n2, hxy, hox, hoy, lL, lM, sL, sM, ho, hc⟩
  have hle : w.heap.size ≤ (w.alloc (.cells #[.int .i64 k, .int .i64 b, .int .i64 g] 26)).heap.size := by simp
  have HX : Hid (v2.ownsRow w.heap.size 3 1 (.slice (some ⟨xa, 0, none⟩) n xb) n (zs L)) := own_low hox hle
  have HY : Hid (v2.ownsRow w.heap.size 3 1 (.slice (some ⟨ya, 0, none⟩) n yb) n (zs M)) := own_low hoy hle
  have hyb := Ed.own_cap hoy
  have HO2 := Lib.hid ho
  have HC2 : Hid (Ch q w v2) := HC0.out.tr hc
  have kk := hc.bk HK0.out (by have := HGB.out; omega)
  have HK2 := Lib.hid kk
  have m0 : v2.cell? ⟨w.heap.size, 0, none⟩ = some (.int .i64 k) := kk.cell 0
  have m1 : v2.cell? ⟨w.heap.size, 1, none⟩ = some (.int .i64 b) := kk.cell 1
  have HLL := Lib.hid (And.intro lL (And.intro lM (And.intro sL sM)))
  have HN := Lib.hid (And.intro n1 n2)
  clear hox hoy ho hc kk lL lM sL sM
  rcases hmv with ⟨hk, rfl, rfl⟩ | ⟨rfl, b0, b1, rfl⟩ | ⟨rfl, rfl, g0, g1⟩
  · have k5 : ¬ k = 5 := by omega
    have k4 : ¬ k = 4 := by omega
    have e5 : (k == 5) = false := by simpa using k5
    have e4 : (k == 4) = false := by simpa using k4
    have HKK := Lib.hid hk
    clear hk k5 k4
    go_wp2
    go_ret2
    exact ⟨xa, xb, ya, yb, n, n, L, M, rfl, n1, n2, n1, n2, ⟨fun _ => rfl, fun e => by have := HKK.out; omega⟩, HX.out, HY.out, HLL.out.1, HLL.out.2.1, HLL.out.2.2.1, HLL.out.2.2.2, HO2.out, HC2.out⟩
  · have mn : 0 ≤ min b 4 ∧ min b 4 ≤ 4 ∧ min b 4 ≤ b := by omega
    obtain ⟨c, hc⟩ : ∃ c, min b 4 = c := ⟨_, rfl⟩
    rw [hc] at mn
    have wc : IntKind.i64.wrap (1 + c) = 1 + c := IntWalk.i64_in _ ⟨by omega, by omega⟩
    go_wp2_with fail
    go_at_call 15
    refine (n_any q (1 + c) (by omega) (by omega) _ HO2.out).mono ?_
    rintro e v3 ⟨r, rfl, r0, r1, ho, hc'⟩
    have HO3 := Lib.hid ho
    have HC3 : Hid (Ch q w v3) := HC2.out.tr hc'
    have HX3 := Lib.hid (own_ch HX.out hc' HGB.out)
    have HY3 := Lib.hid (own_ch HY.out hc' HGB.out)
    have HK3 := Lib.hid (hc'.bk HK2.out (by have := HGB.out; omega))
    have m0 : v3.cell? ⟨w.heap.size, 0, none⟩ = some (.int .i64 4) := HK3.out.cell 0
    clear ho hc'
    have wr : IntKind.i64.wrap ((n : Int) - r) = (n : Int) - r := IntWalk.i64_in _ ⟨by omega, by omega⟩
    obtain ⟨m, hmx, m2, mn2, mr⟩ : ∃ m : Nat, max (2 : Int) ((n : Int) - r) = (m : Int) ∧ 2 ≤ m ∧ m ≤ n ∧ (n : Int) - (m : Int) ≤ r := ⟨(max (2 : Int) ((n : Int) - r)).toNat, by omega, by omega, by omega, by omega⟩
    have hm0 : (0 : Int) ≤ (m : Int) := by omega
    have hmy : (m : Int) ≤ (yb : Int) := by omega
    go_wp2
    go_ret2
    have oy := Ed.own_take (m := m) HY3.out HLL.out.2.1 (by omega)
    exact ⟨xa, xb, ya, yb, n, m, L, M.take m, rfl, n1, n2, by omega, by omega, ⟨fun e => by omega, fun e => ⟨by omega, by omega⟩⟩, HX3.out, oy, HLL.out.1, by rw [List.length_take, HLL.out.2.1]; omega, HLL.out.2.2.1, HLL.out.2.2.2.take m, HO3.out, HC3.out⟩
  · have wc : IntKind.i64.wrap (1 + 0) = 1 := by decide
    go_wp2_with fail
    go_at_call 15
    refine (n_any q 1 (by omega) (by omega) _ HO2.out).mono ?_
    rintro e v3 ⟨r, rfl, r0, r1, ho, hc'⟩
    obtain rfl : r = 0 := by omega
    have HO3 := Lib.hid ho
    have HC3 : Hid (Ch q w v3) := HC2.out.tr hc'
    have HX3 := Lib.hid (own_ch HX.out hc' HGB.out)
    have HY3 := Lib.hid (own_ch HY.out hc' HGB.out)
    have HK3 := Lib.hid (hc'.bk HK2.out (by have := HGB.out; omega))
    have m0 : v3.cell? ⟨w.heap.size, 0, none⟩ = some (.int .i64 5) := HK3.out.cell 0
    clear ho hc'
    have wr : IntKind.i64.wrap (n : Int) = (n : Int) := IntWalk.i64_in _ ⟨by omega, by omega⟩
    have hn0 : (0 : Int) ≤ (n : Int) := by omega
    have hny : (n : Int) ≤ (yb : Int) := by omega
    have hmx : max (2 : Int) (n : Int) = (n : Int) := by omega
    go_wp2_with fail
    go_at_call 12
    refine (range_any q 2 (n : Int) (by decide) (by omega) (by omega) _ HO3.out).mono ?_
    rintro e v4 ⟨mm, rfl, q0, q1, ho, hc'⟩
    obtain ⟨m, rfl⟩ := Int.eq_ofNat_of_zero_le (show 0 ≤ mm by omega)
    have HO4 := Lib.hid ho
    have HC4 : Hid (Ch q w v4) := HC3.out.tr hc'
    have HX4 := Lib.hid (own_ch HX3.out hc' HGB.out)
    have HY4 := Lib.hid (own_ch HY3.out hc' HGB.out)
    have hm0 : (0 : Int) ≤ (m : Int) := by omega
    have hmy : (m : Int) ≤ (yb : Int) := by omega
    clear ho hc'
    go_wp2
    go_ret2
    have oy := Ed.own_take (m := m) HY4.out HLL.out.2.1 (by omega)
    exact ⟨xa, xb, ya, yb, n, m, L, M.take m, rfl, n1, n2, by omega, by omega, ⟨fun e => by omega, fun e => by omega⟩, HX4.out, oy, HLL.out.1, by rw [List.length_take, HLL.out.2.1]; omega, HLL.out.2.2.1, HLL.out.2.2.2.take m, HO4.out, HC4.out⟩
end Go.Proofs.YtabmpnmhjdbdmaaGreatDoor.Ms
