/- The contract of the function that pieces.divide hands back. -/
import Derived.RangeFuncBox
import Derived.RangeFuncLeaves
import Derived.RangeFuncNested
import Derived.RangeFuncBound
import Derived.RangeFuncCalls
import Derived.Shelf.Abstract
import Derived.Shelf.RegionOpen
import Derived.WalkKit
import Derived.OwnWalkIn
import Derived.TacticsInMore
import Derived.LoopNIn
import Derived.LoopIn
import Derived.Maps.AppendAt
import Derived.Test.YtkonknkoggfeaaaPieMath
import Derived.Test.YtkonknkoggfeaaaZi
import Derived.Test.YtkonknkoggfeaaaRegionInvIn
namespace Go.Proofs.Ytkonknkoggfeaaa.Pc
open Go.RowKit Go.Shelf Wo Sr Wi
set_option linter.unusedVariables false
attribute [local go_sem] Oper.semAt_some
/-- the two blocks that the iterator reads -/
def Kpc (Bm Bn : Nat) (W W' : World) : Prop := ∀ b, b = Bm ∨ b = Bn → W'.cell? ⟨b, 0, none⟩ = W.cell? ⟨b, 0, none⟩
/-- a piece, as it is yielded -/
def enp (m n : Nat) (x : Fin n) : Array Value := #[.agg #[.int .i64 (st m n x.val : Int), .int .i64 (st m n (x.val + 1) : Int)]]
theorem rep_get {q n : Nat} : (Array.replicate n false).getD q false = false := by
  rw [Array.getD_eq_getD_getElem?, Array.getElem?_replicate]
  split <;> simp
theorem get_def {li : Array Bool} {q : Nat} (h : li.getD q false = true) : li.getD q true = true := by
  rw [Array.getD_eq_getD_getElem?] at h ⊢
  cases hx : li[q]?
  · rw [hx] at h; cases h
  · rw [hx] at h; exact h
theorem get_set {li : Array Bool} {q : Nat} (h : li.getD q true = false) : (li.setIfInBounds q true).getD q false = true := by
  rw [Array.getD_eq_getD_getElem?] at h ⊢
  have hl : q < li.size := by
    rcases Nat.lt_or_ge q li.size with hl | hl
    · exact hl
    · rw [Array.getElem?_eq_none hl] at h; cases h
  rw [Array.getElem?_setIfInBounds, if_pos rfl, if_pos hl]; rfl
set_option maxRecDepth 100000 in
set_option maxHeartbeats 2000000 in
theorem div1_in (F : Fence) (d : Nat) (hf : F.fn 69) (hro : F.round = none) (hd : 1 ≤ d) (l Bm Bn m n : Nat) (n1 : 1 ≤ n) (n8 : n ≤ 8) (m32 : m ≤ 32) (J Jx : List (Fin n) → World → Prop) (W : World) (hJ : AbidesFrom W.heap.size J)
    (hY : ∀ pre x W, J pre W → pre.length < n → YieldAt F (d - 1) Try.prog l (enp m n x) W fun e W' =>
      (e = .returned (.bool true) ∧ J (pre ++ [x]) W' ∧ Kpc Bm Bn W W') ∨ (e = .returned (.bool false) ∧ Jx (pre ++ [x]) W'))
    (hBm : W.cell? ⟨Bm, 0, none⟩ = some (.int .i64 (m : Int))) (hBn : W.cell? ⟨Bn, 0, none⟩ = some (.int .i64 (n : Int))) (h0 : J [] W) :
    CallsIn F d Try.prog 69 #[.func (.yield l) #[] #[], .pointer (some ⟨Bn, 0, none⟩), .pointer (some ⟨Bm, 0, none⟩)] W fun e W' => (∃ v, e = .returned v) ∧
      ((∃ ys : List (Fin n), ys.map Fin.val = List.range n ∧ J ys W') ∨ (∃ pre : List (Fin n), True ∧ Jx pre W')) := by
  refine callsIn_of_wp Try.func69 rfl hf ?_ hro
  simp only [Try.ntmps69, List.size_toArray, List.length_cons, List.length_nil, Nat.reduceAdd, Nat.reduceSub, Array.replicate_succ, Array.replicate_zero, List.push_toArray, List.append_toArray, List.nil_append, List.cons_append]
  gi_wp2
  gi_loopw [6] (fun p wr => ∃ (k : Nat) (pre : List (Fin n)), p = .int .i64 (k : Int) ∧ k ≤ n ∧ pre.map Fin.val = List.range k ∧ J pre wr ∧ wr.cell? ⟨Bm, 0, none⟩ = some (.int .i64 (m : Int)) ∧ wr.cell? ⟨Bn, 0, none⟩ = some (.int .i64 (n : Int)))
    (fun p wr => n - (intOf p).toNat)
  case atStart => exact ⟨0, [], rfl, Nat.zero_le _, rfl, h0, hBm, hBn⟩
  case round =>
    obtain ⟨k, pre, rfl, hk, hpre, hJs, cm, cn⟩ := hrel
    rcases Nat.lt_or_ge k n with hlt | hge
    · have hl : pre.length = k := by have := congrArg List.length hpre; simpa using this
      have hJd : J pre wr.drew := hJ pre wr wr.drew none hJs ⟨rfl, rfl, rfl, Nat.le_refl _, fun _ _ _ => rfl⟩ (fun r e => by cases e)
      obtain ⟨fn, tmps, assign, body, hy, hR⟩ := hY pre ⟨k, hlt⟩ wr.drew hJd (by omega)
      have ki : (k : Int) < (n : Int) := by omega
      have n0 : (n : Int) ≠ 0 := by omega
      have hs0 : ((k * m : Nat) : Int).tdiv (n : Int) = (st m n k : Int) := by rw [Int.tdiv_eq_ediv_of_nonneg (by omega)]; rfl
      have hs1 : (((k + 1) * m : Nat) : Int).tdiv (n : Int) = (st m n (k + 1) : Int) := by rw [Int.tdiv_eq_ediv_of_nonneg (by omega)]; rfl
      rw [Int.natCast_mul] at hs0 hs1
      rw [show ((k + 1 : Nat) : Int) = (k : Int) + 1 by omega] at hs1
      have b0 : k * m ≤ 8 * 32 := Nat.mul_le_mul (by omega) m32
      have b1 : (k + 1) * m ≤ 8 * 32 := Nat.mul_le_mul (by omega) m32
      have b0i : (k : Int) * (m : Int) ≤ 256 := by have := Int.ofNat_le.2 b0; rw [Int.natCast_mul] at this; exact this
      have b1i : ((k : Int) + 1) * (m : Int) ≤ 256 := by have := Int.ofNat_le.2 b1; rw [Int.natCast_mul] at this; exact this
      have p0 : 0 ≤ (k : Int) * (m : Int) := Int.mul_nonneg (by omega) (by omega)
      have p1 : 0 ≤ ((k : Int) + 1) * (m : Int) := Int.mul_nonneg (by omega) (by omega)
      have l0 : st m n k ≤ 32 := Nat.le_trans (st_le m n k (by omega) (by omega)) m32
      have l1 : st m n (k + 1) ≤ 32 := Nat.le_trans (st_le m n (k + 1) (by omega) (by omega)) m32
      obtain ⟨s0, hs0'⟩ : ∃ s, st m n k = s := ⟨_, rfl⟩
      obtain ⟨s1, hs1'⟩ : ∃ s, st m n (k + 1) = s := ⟨_, rfl⟩
      obtain ⟨A, hA⟩ : ∃ a, (k : Int) * (m : Int) = a := ⟨_, rfl⟩
      obtain ⟨B, hB⟩ : ∃ a, ((k : Int) + 1) * (m : Int) = a := ⟨_, rfl⟩
      rw [hs0', hA] at hs0
      rw [hs1', hB] at hs1
      rw [hs0'] at l0
      rw [hs1'] at l1
      rw [hA] at b0i p0
      rw [hB] at b1i p1
      have wA : IntKind.i64.wrap A = A := IntWalk.i64_in _ (by omega)
      have wB : IntKind.i64.wrap B = B := IntWalk.i64_in _ (by omega)
      have ws0 : IntKind.i64.wrap (s0 : Int) = (s0 : Int) := IntWalk.i64_in _ (by omega)
      have ws1 : IntKind.i64.wrap (s1 : Int) = (s1 : Int) := IntWalk.i64_in _ (by omega)
      have wk1 : IntKind.i64.wrap ((k : Int) + 1) = (k : Int) + 1 := IntWalk.i64_in _ (by omega)
      have hmx : Try.prog.follows .mixedOrders = true := by kernel_rfl
      have n0b : ((n : Int) == 0) = false := by simp; omega
      have ey : enp m n ⟨k, hlt⟩ = #[.agg #[.int .i64 (s0 : Int), .int .i64 (s1 : Int)]] := by unfold enp; simp only [hs0', hs1']
      rw [ey] at hy
      have HP := Lib.hid hpre
      have HJS := Lib.hid hJs
      clear hJs hpre hs0' hs1' b0 b1 hY hJ h0 ey
      gi_wp2
      obtain ⟨H, hH⟩ : ∃ H : Bool → World → Prop, H = fun bb W' => ((bb = true ∧ J (pre ++ [⟨k, hlt⟩]) W' ∧ Kpc Bm Bn wr.drew W') ∨ (bb = false ∧ Jx (pre ++ [⟨k, hlt⟩]) W')) := ⟨_, rfl⟩
      have hR2 := hR.mono (R' := fun e W' => ∃ bb, e = .returned (.bool bb) ∧ H bb W') (fun e W' h3 => by rw [hH]; exact h3.elim (fun h => ⟨true, h.1, .inl ⟨rfl, h.2.1, h.2.2⟩⟩) (fun h => ⟨false, h.1, .inr ⟨rfl, h.2⟩⟩))
      have HH := Lib.hid hH
      clear hR hH
      obtain ⟨J3, HJ⟩ : ∃ J3 : Array Bool → Act → World → Prop, Hid (∀ li a wx, J3 li a wx ↔ ∃ v : Nat → Value, a = { tmps := #[.func (.yield l) #[] #[], .pointer (some ⟨Bn, 0, none⟩), .pointer (some ⟨Bm, 0, none⟩), undef, .int .i64 (k : Int), .int .i64 (n : Int), .int .i64 (k : Int), .bool true, .int .i64 (k : Int), v 0, v 1, v 2, v 3, v 4, v 5, v 6, v 7, v 8, v 9, v 10, v 11, v 12, v 13, v 14, u24], defers := [] } ∧ (li.getD 0 false = true → v 0 = .func (.yield l) #[] #[]) ∧ (li.getD 1 false = true → v 1 = .int .i64 (k : Int)) ∧ (li.getD 2 false = true → v 2 = .int .i64 (m : Int)) ∧ (li.getD 3 false = true → v 3 = .int .i64 A) ∧ (li.getD 4 false = true → v 4 = .int .i64 (n : Int)) ∧ (li.getD 5 false = true → v 5 = .int .i64 (s0 : Int)) ∧ (li.getD 6 false = true → v 6 = .int .i64 (k : Int)) ∧ (li.getD 7 false = true → v 7 = .int .i64 ((k : Int) + 1)) ∧ (li.getD 8 false = true → v 8 = .int .i64 (m : Int)) ∧ (li.getD 9 false = true → v 9 = .int .i64 B) ∧ (li.getD 10 false = true → v 10 = .int .i64 (n : Int)) ∧ (li.getD 11 false = true → v 11 = .int .i64 (s1 : Int)) ∧ (li.getD 12 false = true → v 12 = .agg #[.int .i64 (s0 : Int), .int .i64 (s1 : Int)]) ∧ (li.getD 13 false = true → ∀ j, j < 13 → li.getD j false = true) ∧ (li.getD 13 false = false → wx = wr.drew) ∧ (li.getD 13 false = true → ∃ bb, v 13 = .bool bb ∧ H bb wx ∧ (li.getD 14 false = true → v 14 = .bool (!bb)))) := ⟨_, fun _ _ _ => Iff.rfl⟩
      refine Ri9In.wpIn_region_inv2 (by kernel_rfl) (by intro i o ho; (rcases i with _ | _ | _ | _ | _ | _ | _ | _ | _ | _ | _ | _ | _ | _ | _ | i) <;> first | (cases ho; decide) | (exact absurd ho (by simp))) J3 ?_ ?_ ?_
      · refine (HJ.out _ _ _).2 ⟨fun q => (#[u9, u10, u11, u12, u13, u14, u15, u16, u17, u18, u19, u20, u21, u22, u23] : Array Value).getD q undef, by rfl, (fun h => by rw [rep_get] at h; cases h), (fun h => by rw [rep_get] at h; cases h), (fun h => by rw [rep_get] at h; cases h), (fun h => by rw [rep_get] at h; cases h), (fun h => by rw [rep_get] at h; cases h), (fun h => by rw [rep_get] at h; cases h), (fun h => by rw [rep_get] at h; cases h), (fun h => by rw [rep_get] at h; cases h), (fun h => by rw [rep_get] at h; cases h), (fun h => by rw [rep_get] at h; cases h), (fun h => by rw [rep_get] at h; cases h), (fun h => by rw [rep_get] at h; cases h), (fun h => by rw [rep_get] at h; cases h), ?_, ?_, ?_⟩
        · intro h; rw [rep_get] at h; cases h
        · intro _; rfl
        · intro h; rw [rep_get] at h; cases h
      · intro i o ho li a wx hcl hJ3 haft hun
        obtain ⟨v, rfl, f0, f1, f2, f3, f4, f5, f6, f7, f8, f9, f10, f11, f12, k13, k14, k15⟩ := (HJ.out _ _ _).1 hJ3
        have HC := Lib.hid hcl
        have HAF := Lib.hid haft
        have HK := Lib.hid (And.intro k13 (And.intro k14 k15))
        clear hcl hJ3 haft k13 k14 k15
        rcases i with _ | _ | _ | _ | _ | _ | _ | _ | _ | _ | _ | _ | _ | _ | _ | i
        · -- operation 0
          cases ho
          have n13 : li.getD 13 false = false := by
            cases hx : li.getD 13 false
            · rfl
            · have := HK.out.1 hx 0 (by omega)
              rw [get_def this] at hun; cases hun
          obtain rfl := HK.out.2.1 n13
          have HFF := Lib.hid (And.intro f0 ( And.intro f1 ( And.intro f2 ( And.intro f3 ( And.intro f4 ( And.intro f5 ( And.intro f6 ( And.intro f7 ( And.intro f8 ( And.intro f9 ( And.intro f10 ( And.intro f11 (f12)))))))))))))
          clear f0 f1 f2 f3 f4 f5 f6 f7 f8 f9 f10 f11 f12 hun
          refine Ri9In.wpOpIn_list rfl ?_
          gi_wp2
          refine (HJ.out _ _ _).2 ⟨fun x => if x = 0 then .func (.yield l) #[] #[] else v x, by simp [], (fun _ => rfl), (fun h => HFF.out.2.1 (by rw [getD_set_ne _ (by decide)] at h; exact h)), (fun h => HFF.out.2.2.1 (by rw [getD_set_ne _ (by decide)] at h; exact h)), (fun h => HFF.out.2.2.2.1 (by rw [getD_set_ne _ (by decide)] at h; exact h)), (fun h => HFF.out.2.2.2.2.1 (by rw [getD_set_ne _ (by decide)] at h; exact h)), (fun h => HFF.out.2.2.2.2.2.1 (by rw [getD_set_ne _ (by decide)] at h; exact h)), (fun h => HFF.out.2.2.2.2.2.2.1 (by rw [getD_set_ne _ (by decide)] at h; exact h)), (fun h => HFF.out.2.2.2.2.2.2.2.1 (by rw [getD_set_ne _ (by decide)] at h; exact h)), (fun h => HFF.out.2.2.2.2.2.2.2.2.1 (by rw [getD_set_ne _ (by decide)] at h; exact h)), (fun h => HFF.out.2.2.2.2.2.2.2.2.2.1 (by rw [getD_set_ne _ (by decide)] at h; exact h)), (fun h => HFF.out.2.2.2.2.2.2.2.2.2.2.1 (by rw [getD_set_ne _ (by decide)] at h; exact h)), (fun h => HFF.out.2.2.2.2.2.2.2.2.2.2.2.1 (by rw [getD_set_ne _ (by decide)] at h; exact h)), (fun h => HFF.out.2.2.2.2.2.2.2.2.2.2.2.2 (by rw [getD_set_ne _ (by decide)] at h; exact h)), ?_, fun _ => rfl, ?_⟩
          · intro h; rw [getD_set_ne _ (by decide), n13] at h; cases h
          · intro h; rw [getD_set_ne _ (by decide), n13] at h; cases h
        · -- operation 1
          cases ho
          have n13 : li.getD 13 false = false := by
            cases hx : li.getD 13 false
            · rfl
            · have := HK.out.1 hx 1 (by omega)
              rw [get_def this] at hun; cases hun
          obtain rfl := HK.out.2.1 n13
          have HFF := Lib.hid (And.intro f0 ( And.intro f1 ( And.intro f2 ( And.intro f3 ( And.intro f4 ( And.intro f5 ( And.intro f6 ( And.intro f7 ( And.intro f8 ( And.intro f9 ( And.intro f10 ( And.intro f11 (f12)))))))))))))
          clear f0 f1 f2 f3 f4 f5 f6 f7 f8 f9 f10 f11 f12 hun
          refine Ri9In.wpOpIn_list rfl ?_
          gi_wp2
          refine (HJ.out _ _ _).2 ⟨fun x => if x = 1 then .int .i64 (k : Int) else v x, by simp [], (fun h => HFF.out.1 (by rw [getD_set_ne _ (by decide)] at h; exact h)), (fun _ => rfl), (fun h => HFF.out.2.2.1 (by rw [getD_set_ne _ (by decide)] at h; exact h)), (fun h => HFF.out.2.2.2.1 (by rw [getD_set_ne _ (by decide)] at h; exact h)), (fun h => HFF.out.2.2.2.2.1 (by rw [getD_set_ne _ (by decide)] at h; exact h)), (fun h => HFF.out.2.2.2.2.2.1 (by rw [getD_set_ne _ (by decide)] at h; exact h)), (fun h => HFF.out.2.2.2.2.2.2.1 (by rw [getD_set_ne _ (by decide)] at h; exact h)), (fun h => HFF.out.2.2.2.2.2.2.2.1 (by rw [getD_set_ne _ (by decide)] at h; exact h)), (fun h => HFF.out.2.2.2.2.2.2.2.2.1 (by rw [getD_set_ne _ (by decide)] at h; exact h)), (fun h => HFF.out.2.2.2.2.2.2.2.2.2.1 (by rw [getD_set_ne _ (by decide)] at h; exact h)), (fun h => HFF.out.2.2.2.2.2.2.2.2.2.2.1 (by rw [getD_set_ne _ (by decide)] at h; exact h)), (fun h => HFF.out.2.2.2.2.2.2.2.2.2.2.2.1 (by rw [getD_set_ne _ (by decide)] at h; exact h)), (fun h => HFF.out.2.2.2.2.2.2.2.2.2.2.2.2 (by rw [getD_set_ne _ (by decide)] at h; exact h)), ?_, fun _ => rfl, ?_⟩
          · intro h; rw [getD_set_ne _ (by decide), n13] at h; cases h
          · intro h; rw [getD_set_ne _ (by decide), n13] at h; cases h
        · -- operation 2
          cases ho
          have n13 : li.getD 13 false = false := by
            cases hx : li.getD 13 false
            · rfl
            · have := HK.out.1 hx 2 (by omega)
              rw [get_def this] at hun; cases hun
          obtain rfl := HK.out.2.1 n13
          have HFF := Lib.hid (And.intro f0 ( And.intro f1 ( And.intro f2 ( And.intro f3 ( And.intro f4 ( And.intro f5 ( And.intro f6 ( And.intro f7 ( And.intro f8 ( And.intro f9 ( And.intro f10 ( And.intro f11 (f12)))))))))))))
          clear f0 f1 f2 f3 f4 f5 f6 f7 f8 f9 f10 f11 f12 hun
          refine Ri9In.wpOpIn_list rfl ?_
          gi_wp2
          refine (HJ.out _ _ _).2 ⟨fun x => if x = 2 then .int .i64 (m : Int) else v x, by simp [], (fun h => HFF.out.1 (by rw [getD_set_ne _ (by decide)] at h; exact h)), (fun h => HFF.out.2.1 (by rw [getD_set_ne _ (by decide)] at h; exact h)), (fun _ => rfl), (fun h => HFF.out.2.2.2.1 (by rw [getD_set_ne _ (by decide)] at h; exact h)), (fun h => HFF.out.2.2.2.2.1 (by rw [getD_set_ne _ (by decide)] at h; exact h)), (fun h => HFF.out.2.2.2.2.2.1 (by rw [getD_set_ne _ (by decide)] at h; exact h)), (fun h => HFF.out.2.2.2.2.2.2.1 (by rw [getD_set_ne _ (by decide)] at h; exact h)), (fun h => HFF.out.2.2.2.2.2.2.2.1 (by rw [getD_set_ne _ (by decide)] at h; exact h)), (fun h => HFF.out.2.2.2.2.2.2.2.2.1 (by rw [getD_set_ne _ (by decide)] at h; exact h)), (fun h => HFF.out.2.2.2.2.2.2.2.2.2.1 (by rw [getD_set_ne _ (by decide)] at h; exact h)), (fun h => HFF.out.2.2.2.2.2.2.2.2.2.2.1 (by rw [getD_set_ne _ (by decide)] at h; exact h)), (fun h => HFF.out.2.2.2.2.2.2.2.2.2.2.2.1 (by rw [getD_set_ne _ (by decide)] at h; exact h)), (fun h => HFF.out.2.2.2.2.2.2.2.2.2.2.2.2 (by rw [getD_set_ne _ (by decide)] at h; exact h)), ?_, fun _ => rfl, ?_⟩
          · intro h; rw [getD_set_ne _ (by decide), n13] at h; cases h
          · intro h; rw [getD_set_ne _ (by decide), n13] at h; cases h
        · -- operation 3
          cases ho
          have n13 : li.getD 13 false = false := by
            cases hx : li.getD 13 false
            · rfl
            · have := HK.out.1 hx 3 (by omega)
              rw [get_def this] at hun; cases hun
          obtain rfl := HK.out.2.1 n13
          have e1 := f1 (HAF.out ⟨1, .data⟩ (by simp) rfl)
          have e2 := f2 (HAF.out ⟨2, .data⟩ (by simp) rfl)
          have HFF := Lib.hid (And.intro f0 ( And.intro f1 ( And.intro f2 ( And.intro f3 ( And.intro f4 ( And.intro f5 ( And.intro f6 ( And.intro f7 ( And.intro f8 ( And.intro f9 ( And.intro f10 ( And.intro f11 (f12)))))))))))))
          clear f0 f1 f2 f3 f4 f5 f6 f7 f8 f9 f10 f11 f12 hun
          refine Ri9In.wpOpIn_list rfl ?_
          gi_wp2
          refine (HJ.out _ _ _).2 ⟨fun x => if x = 3 then .int .i64 A else v x, by simp [e1, e2], (fun h => HFF.out.1 (by rw [getD_set_ne _ (by decide)] at h; exact h)), (fun h => HFF.out.2.1 (by rw [getD_set_ne _ (by decide)] at h; exact h)), (fun h => HFF.out.2.2.1 (by rw [getD_set_ne _ (by decide)] at h; exact h)), (fun _ => rfl), (fun h => HFF.out.2.2.2.2.1 (by rw [getD_set_ne _ (by decide)] at h; exact h)), (fun h => HFF.out.2.2.2.2.2.1 (by rw [getD_set_ne _ (by decide)] at h; exact h)), (fun h => HFF.out.2.2.2.2.2.2.1 (by rw [getD_set_ne _ (by decide)] at h; exact h)), (fun h => HFF.out.2.2.2.2.2.2.2.1 (by rw [getD_set_ne _ (by decide)] at h; exact h)), (fun h => HFF.out.2.2.2.2.2.2.2.2.1 (by rw [getD_set_ne _ (by decide)] at h; exact h)), (fun h => HFF.out.2.2.2.2.2.2.2.2.2.1 (by rw [getD_set_ne _ (by decide)] at h; exact h)), (fun h => HFF.out.2.2.2.2.2.2.2.2.2.2.1 (by rw [getD_set_ne _ (by decide)] at h; exact h)), (fun h => HFF.out.2.2.2.2.2.2.2.2.2.2.2.1 (by rw [getD_set_ne _ (by decide)] at h; exact h)), (fun h => HFF.out.2.2.2.2.2.2.2.2.2.2.2.2 (by rw [getD_set_ne _ (by decide)] at h; exact h)), ?_, fun _ => rfl, ?_⟩
          · intro h; rw [getD_set_ne _ (by decide), n13] at h; cases h
          · intro h; rw [getD_set_ne _ (by decide), n13] at h; cases h
        · -- operation 4
          cases ho
          have n13 : li.getD 13 false = false := by
            cases hx : li.getD 13 false
            · rfl
            · have := HK.out.1 hx 4 (by omega)
              rw [get_def this] at hun; cases hun
          obtain rfl := HK.out.2.1 n13
          have HFF := Lib.hid (And.intro f0 ( And.intro f1 ( And.intro f2 ( And.intro f3 ( And.intro f4 ( And.intro f5 ( And.intro f6 ( And.intro f7 ( And.intro f8 ( And.intro f9 ( And.intro f10 ( And.intro f11 (f12)))))))))))))
          clear f0 f1 f2 f3 f4 f5 f6 f7 f8 f9 f10 f11 f12 hun
          refine Ri9In.wpOpIn_list rfl ?_
          gi_wp2
          refine (HJ.out _ _ _).2 ⟨fun x => if x = 4 then .int .i64 (n : Int) else v x, by simp [], (fun h => HFF.out.1 (by rw [getD_set_ne _ (by decide)] at h; exact h)), (fun h => HFF.out.2.1 (by rw [getD_set_ne _ (by decide)] at h; exact h)), (fun h => HFF.out.2.2.1 (by rw [getD_set_ne _ (by decide)] at h; exact h)), (fun h => HFF.out.2.2.2.1 (by rw [getD_set_ne _ (by decide)] at h; exact h)), (fun _ => rfl), (fun h => HFF.out.2.2.2.2.2.1 (by rw [getD_set_ne _ (by decide)] at h; exact h)), (fun h => HFF.out.2.2.2.2.2.2.1 (by rw [getD_set_ne _ (by decide)] at h; exact h)), (fun h => HFF.out.2.2.2.2.2.2.2.1 (by rw [getD_set_ne _ (by decide)] at h; exact h)), (fun h => HFF.out.2.2.2.2.2.2.2.2.1 (by rw [getD_set_ne _ (by decide)] at h; exact h)), (fun h => HFF.out.2.2.2.2.2.2.2.2.2.1 (by rw [getD_set_ne _ (by decide)] at h; exact h)), (fun h => HFF.out.2.2.2.2.2.2.2.2.2.2.1 (by rw [getD_set_ne _ (by decide)] at h; exact h)), (fun h => HFF.out.2.2.2.2.2.2.2.2.2.2.2.1 (by rw [getD_set_ne _ (by decide)] at h; exact h)), (fun h => HFF.out.2.2.2.2.2.2.2.2.2.2.2.2 (by rw [getD_set_ne _ (by decide)] at h; exact h)), ?_, fun _ => rfl, ?_⟩
          · intro h; rw [getD_set_ne _ (by decide), n13] at h; cases h
          · intro h; rw [getD_set_ne _ (by decide), n13] at h; cases h
        · -- operation 5
          cases ho
          have n13 : li.getD 13 false = false := by
            cases hx : li.getD 13 false
            · rfl
            · have := HK.out.1 hx 5 (by omega)
              rw [get_def this] at hun; cases hun
          obtain rfl := HK.out.2.1 n13
          have e3 := f3 (HAF.out ⟨3, .data⟩ (by simp) rfl)
          have e4 := f4 (HAF.out ⟨4, .data⟩ (by simp) rfl)
          have HFF := Lib.hid (And.intro f0 ( And.intro f1 ( And.intro f2 ( And.intro f3 ( And.intro f4 ( And.intro f5 ( And.intro f6 ( And.intro f7 ( And.intro f8 ( And.intro f9 ( And.intro f10 ( And.intro f11 (f12)))))))))))))
          clear f0 f1 f2 f3 f4 f5 f6 f7 f8 f9 f10 f11 f12 hun
          refine Ri9In.wpOpIn_list rfl ?_
          gi_wp2
          refine (HJ.out _ _ _).2 ⟨fun x => if x = 5 then .int .i64 (s0 : Int) else v x, by simp [e3, e4], (fun h => HFF.out.1 (by rw [getD_set_ne _ (by decide)] at h; exact h)), (fun h => HFF.out.2.1 (by rw [getD_set_ne _ (by decide)] at h; exact h)), (fun h => HFF.out.2.2.1 (by rw [getD_set_ne _ (by decide)] at h; exact h)), (fun h => HFF.out.2.2.2.1 (by rw [getD_set_ne _ (by decide)] at h; exact h)), (fun h => HFF.out.2.2.2.2.1 (by rw [getD_set_ne _ (by decide)] at h; exact h)), (fun _ => rfl), (fun h => HFF.out.2.2.2.2.2.2.1 (by rw [getD_set_ne _ (by decide)] at h; exact h)), (fun h => HFF.out.2.2.2.2.2.2.2.1 (by rw [getD_set_ne _ (by decide)] at h; exact h)), (fun h => HFF.out.2.2.2.2.2.2.2.2.1 (by rw [getD_set_ne _ (by decide)] at h; exact h)), (fun h => HFF.out.2.2.2.2.2.2.2.2.2.1 (by rw [getD_set_ne _ (by decide)] at h; exact h)), (fun h => HFF.out.2.2.2.2.2.2.2.2.2.2.1 (by rw [getD_set_ne _ (by decide)] at h; exact h)), (fun h => HFF.out.2.2.2.2.2.2.2.2.2.2.2.1 (by rw [getD_set_ne _ (by decide)] at h; exact h)), (fun h => HFF.out.2.2.2.2.2.2.2.2.2.2.2.2 (by rw [getD_set_ne _ (by decide)] at h; exact h)), ?_, fun _ => rfl, ?_⟩
          · intro h; rw [getD_set_ne _ (by decide), n13] at h; cases h
          · intro h; rw [getD_set_ne _ (by decide), n13] at h; cases h
        · -- operation 6
          cases ho
          have n13 : li.getD 13 false = false := by
            cases hx : li.getD 13 false
            · rfl
            · have := HK.out.1 hx 6 (by omega)
              rw [get_def this] at hun; cases hun
          obtain rfl := HK.out.2.1 n13
          have HFF := Lib.hid (And.intro f0 ( And.intro f1 ( And.intro f2 ( And.intro f3 ( And.intro f4 ( And.intro f5 ( And.intro f6 ( And.intro f7 ( And.intro f8 ( And.intro f9 ( And.intro f10 ( And.intro f11 (f12)))))))))))))
          clear f0 f1 f2 f3 f4 f5 f6 f7 f8 f9 f10 f11 f12 hun
          refine Ri9In.wpOpIn_list rfl ?_
          gi_wp2
          refine (HJ.out _ _ _).2 ⟨fun x => if x = 6 then .int .i64 (k : Int) else v x, by simp [], (fun h => HFF.out.1 (by rw [getD_set_ne _ (by decide)] at h; exact h)), (fun h => HFF.out.2.1 (by rw [getD_set_ne _ (by decide)] at h; exact h)), (fun h => HFF.out.2.2.1 (by rw [getD_set_ne _ (by decide)] at h; exact h)), (fun h => HFF.out.2.2.2.1 (by rw [getD_set_ne _ (by decide)] at h; exact h)), (fun h => HFF.out.2.2.2.2.1 (by rw [getD_set_ne _ (by decide)] at h; exact h)), (fun h => HFF.out.2.2.2.2.2.1 (by rw [getD_set_ne _ (by decide)] at h; exact h)), (fun _ => rfl), (fun h => HFF.out.2.2.2.2.2.2.2.1 (by rw [getD_set_ne _ (by decide)] at h; exact h)), (fun h => HFF.out.2.2.2.2.2.2.2.2.1 (by rw [getD_set_ne _ (by decide)] at h; exact h)), (fun h => HFF.out.2.2.2.2.2.2.2.2.2.1 (by rw [getD_set_ne _ (by decide)] at h; exact h)), (fun h => HFF.out.2.2.2.2.2.2.2.2.2.2.1 (by rw [getD_set_ne _ (by decide)] at h; exact h)), (fun h => HFF.out.2.2.2.2.2.2.2.2.2.2.2.1 (by rw [getD_set_ne _ (by decide)] at h; exact h)), (fun h => HFF.out.2.2.2.2.2.2.2.2.2.2.2.2 (by rw [getD_set_ne _ (by decide)] at h; exact h)), ?_, fun _ => rfl, ?_⟩
          · intro h; rw [getD_set_ne _ (by decide), n13] at h; cases h
          · intro h; rw [getD_set_ne _ (by decide), n13] at h; cases h
        · -- operation 7
          cases ho
          have n13 : li.getD 13 false = false := by
            cases hx : li.getD 13 false
            · rfl
            · have := HK.out.1 hx 7 (by omega)
              rw [get_def this] at hun; cases hun
          obtain rfl := HK.out.2.1 n13
          have e6 := f6 (HAF.out ⟨6, .data⟩ (by simp) rfl)
          have HFF := Lib.hid (And.intro f0 ( And.intro f1 ( And.intro f2 ( And.intro f3 ( And.intro f4 ( And.intro f5 ( And.intro f6 ( And.intro f7 ( And.intro f8 ( And.intro f9 ( And.intro f10 ( And.intro f11 (f12)))))))))))))
          clear f0 f1 f2 f3 f4 f5 f6 f7 f8 f9 f10 f11 f12 hun
          refine Ri9In.wpOpIn_list rfl ?_
          gi_wp2
          refine (HJ.out _ _ _).2 ⟨fun x => if x = 7 then .int .i64 ((k : Int) + 1) else v x, by simp [e6], (fun h => HFF.out.1 (by rw [getD_set_ne _ (by decide)] at h; exact h)), (fun h => HFF.out.2.1 (by rw [getD_set_ne _ (by decide)] at h; exact h)), (fun h => HFF.out.2.2.1 (by rw [getD_set_ne _ (by decide)] at h; exact h)), (fun h => HFF.out.2.2.2.1 (by rw [getD_set_ne _ (by decide)] at h; exact h)), (fun h => HFF.out.2.2.2.2.1 (by rw [getD_set_ne _ (by decide)] at h; exact h)), (fun h => HFF.out.2.2.2.2.2.1 (by rw [getD_set_ne _ (by decide)] at h; exact h)), (fun h => HFF.out.2.2.2.2.2.2.1 (by rw [getD_set_ne _ (by decide)] at h; exact h)), (fun _ => rfl), (fun h => HFF.out.2.2.2.2.2.2.2.2.1 (by rw [getD_set_ne _ (by decide)] at h; exact h)), (fun h => HFF.out.2.2.2.2.2.2.2.2.2.1 (by rw [getD_set_ne _ (by decide)] at h; exact h)), (fun h => HFF.out.2.2.2.2.2.2.2.2.2.2.1 (by rw [getD_set_ne _ (by decide)] at h; exact h)), (fun h => HFF.out.2.2.2.2.2.2.2.2.2.2.2.1 (by rw [getD_set_ne _ (by decide)] at h; exact h)), (fun h => HFF.out.2.2.2.2.2.2.2.2.2.2.2.2 (by rw [getD_set_ne _ (by decide)] at h; exact h)), ?_, fun _ => rfl, ?_⟩
          · intro h; rw [getD_set_ne _ (by decide), n13] at h; cases h
          · intro h; rw [getD_set_ne _ (by decide), n13] at h; cases h
        · -- operation 8
          cases ho
          have n13 : li.getD 13 false = false := by
            cases hx : li.getD 13 false
            · rfl
            · have := HK.out.1 hx 8 (by omega)
              rw [get_def this] at hun; cases hun
          obtain rfl := HK.out.2.1 n13
          have HFF := Lib.hid (And.intro f0 ( And.intro f1 ( And.intro f2 ( And.intro f3 ( And.intro f4 ( And.intro f5 ( And.intro f6 ( And.intro f7 ( And.intro f8 ( And.intro f9 ( And.intro f10 ( And.intro f11 (f12)))))))))))))
          clear f0 f1 f2 f3 f4 f5 f6 f7 f8 f9 f10 f11 f12 hun
          refine Ri9In.wpOpIn_list rfl ?_
          gi_wp2
          refine (HJ.out _ _ _).2 ⟨fun x => if x = 8 then .int .i64 (m : Int) else v x, by simp [], (fun h => HFF.out.1 (by rw [getD_set_ne _ (by decide)] at h; exact h)), (fun h => HFF.out.2.1 (by rw [getD_set_ne _ (by decide)] at h; exact h)), (fun h => HFF.out.2.2.1 (by rw [getD_set_ne _ (by decide)] at h; exact h)), (fun h => HFF.out.2.2.2.1 (by rw [getD_set_ne _ (by decide)] at h; exact h)), (fun h => HFF.out.2.2.2.2.1 (by rw [getD_set_ne _ (by decide)] at h; exact h)), (fun h => HFF.out.2.2.2.2.2.1 (by rw [getD_set_ne _ (by decide)] at h; exact h)), (fun h => HFF.out.2.2.2.2.2.2.1 (by rw [getD_set_ne _ (by decide)] at h; exact h)), (fun h => HFF.out.2.2.2.2.2.2.2.1 (by rw [getD_set_ne _ (by decide)] at h; exact h)), (fun _ => rfl), (fun h => HFF.out.2.2.2.2.2.2.2.2.2.1 (by rw [getD_set_ne _ (by decide)] at h; exact h)), (fun h => HFF.out.2.2.2.2.2.2.2.2.2.2.1 (by rw [getD_set_ne _ (by decide)] at h; exact h)), (fun h => HFF.out.2.2.2.2.2.2.2.2.2.2.2.1 (by rw [getD_set_ne _ (by decide)] at h; exact h)), (fun h => HFF.out.2.2.2.2.2.2.2.2.2.2.2.2 (by rw [getD_set_ne _ (by decide)] at h; exact h)), ?_, fun _ => rfl, ?_⟩
          · intro h; rw [getD_set_ne _ (by decide), n13] at h; cases h
          · intro h; rw [getD_set_ne _ (by decide), n13] at h; cases h
        · -- operation 9
          cases ho
          have n13 : li.getD 13 false = false := by
            cases hx : li.getD 13 false
            · rfl
            · have := HK.out.1 hx 9 (by omega)
              rw [get_def this] at hun; cases hun
          obtain rfl := HK.out.2.1 n13
          have e7 := f7 (HAF.out ⟨7, .data⟩ (by simp) rfl)
          have e8 := f8 (HAF.out ⟨8, .data⟩ (by simp) rfl)
          have HFF := Lib.hid (And.intro f0 ( And.intro f1 ( And.intro f2 ( And.intro f3 ( And.intro f4 ( And.intro f5 ( And.intro f6 ( And.intro f7 ( And.intro f8 ( And.intro f9 ( And.intro f10 ( And.intro f11 (f12)))))))))))))
          clear f0 f1 f2 f3 f4 f5 f6 f7 f8 f9 f10 f11 f12 hun
          refine Ri9In.wpOpIn_list rfl ?_
          gi_wp2
          refine (HJ.out _ _ _).2 ⟨fun x => if x = 9 then .int .i64 B else v x, by simp [e7, e8], (fun h => HFF.out.1 (by rw [getD_set_ne _ (by decide)] at h; exact h)), (fun h => HFF.out.2.1 (by rw [getD_set_ne _ (by decide)] at h; exact h)), (fun h => HFF.out.2.2.1 (by rw [getD_set_ne _ (by decide)] at h; exact h)), (fun h => HFF.out.2.2.2.1 (by rw [getD_set_ne _ (by decide)] at h; exact h)), (fun h => HFF.out.2.2.2.2.1 (by rw [getD_set_ne _ (by decide)] at h; exact h)), (fun h => HFF.out.2.2.2.2.2.1 (by rw [getD_set_ne _ (by decide)] at h; exact h)), (fun h => HFF.out.2.2.2.2.2.2.1 (by rw [getD_set_ne _ (by decide)] at h; exact h)), (fun h => HFF.out.2.2.2.2.2.2.2.1 (by rw [getD_set_ne _ (by decide)] at h; exact h)), (fun h => HFF.out.2.2.2.2.2.2.2.2.1 (by rw [getD_set_ne _ (by decide)] at h; exact h)), (fun _ => rfl), (fun h => HFF.out.2.2.2.2.2.2.2.2.2.2.1 (by rw [getD_set_ne _ (by decide)] at h; exact h)), (fun h => HFF.out.2.2.2.2.2.2.2.2.2.2.2.1 (by rw [getD_set_ne _ (by decide)] at h; exact h)), (fun h => HFF.out.2.2.2.2.2.2.2.2.2.2.2.2 (by rw [getD_set_ne _ (by decide)] at h; exact h)), ?_, fun _ => rfl, ?_⟩
          · intro h; rw [getD_set_ne _ (by decide), n13] at h; cases h
          · intro h; rw [getD_set_ne _ (by decide), n13] at h; cases h
        · -- operation 10
          cases ho
          have n13 : li.getD 13 false = false := by
            cases hx : li.getD 13 false
            · rfl
            · have := HK.out.1 hx 10 (by omega)
              rw [get_def this] at hun; cases hun
          obtain rfl := HK.out.2.1 n13
          have HFF := Lib.hid (And.intro f0 ( And.intro f1 ( And.intro f2 ( And.intro f3 ( And.intro f4 ( And.intro f5 ( And.intro f6 ( And.intro f7 ( And.intro f8 ( And.intro f9 ( And.intro f10 ( And.intro f11 (f12)))))))))))))
          clear f0 f1 f2 f3 f4 f5 f6 f7 f8 f9 f10 f11 f12 hun
          refine Ri9In.wpOpIn_list rfl ?_
          gi_wp2
          refine (HJ.out _ _ _).2 ⟨fun x => if x = 10 then .int .i64 (n : Int) else v x, by simp [], (fun h => HFF.out.1 (by rw [getD_set_ne _ (by decide)] at h; exact h)), (fun h => HFF.out.2.1 (by rw [getD_set_ne _ (by decide)] at h; exact h)), (fun h => HFF.out.2.2.1 (by rw [getD_set_ne _ (by decide)] at h; exact h)), (fun h => HFF.out.2.2.2.1 (by rw [getD_set_ne _ (by decide)] at h; exact h)), (fun h => HFF.out.2.2.2.2.1 (by rw [getD_set_ne _ (by decide)] at h; exact h)), (fun h => HFF.out.2.2.2.2.2.1 (by rw [getD_set_ne _ (by decide)] at h; exact h)), (fun h => HFF.out.2.2.2.2.2.2.1 (by rw [getD_set_ne _ (by decide)] at h; exact h)), (fun h => HFF.out.2.2.2.2.2.2.2.1 (by rw [getD_set_ne _ (by decide)] at h; exact h)), (fun h => HFF.out.2.2.2.2.2.2.2.2.1 (by rw [getD_set_ne _ (by decide)] at h; exact h)), (fun h => HFF.out.2.2.2.2.2.2.2.2.2.1 (by rw [getD_set_ne _ (by decide)] at h; exact h)), (fun _ => rfl), (fun h => HFF.out.2.2.2.2.2.2.2.2.2.2.2.1 (by rw [getD_set_ne _ (by decide)] at h; exact h)), (fun h => HFF.out.2.2.2.2.2.2.2.2.2.2.2.2 (by rw [getD_set_ne _ (by decide)] at h; exact h)), ?_, fun _ => rfl, ?_⟩
          · intro h; rw [getD_set_ne _ (by decide), n13] at h; cases h
          · intro h; rw [getD_set_ne _ (by decide), n13] at h; cases h
        · -- operation 11
          cases ho
          have n13 : li.getD 13 false = false := by
            cases hx : li.getD 13 false
            · rfl
            · have := HK.out.1 hx 11 (by omega)
              rw [get_def this] at hun; cases hun
          obtain rfl := HK.out.2.1 n13
          have e9 := f9 (HAF.out ⟨9, .data⟩ (by simp) rfl)
          have e10 := f10 (HAF.out ⟨10, .data⟩ (by simp) rfl)
          have HFF := Lib.hid (And.intro f0 ( And.intro f1 ( And.intro f2 ( And.intro f3 ( And.intro f4 ( And.intro f5 ( And.intro f6 ( And.intro f7 ( And.intro f8 ( And.intro f9 ( And.intro f10 ( And.intro f11 (f12)))))))))))))
          clear f0 f1 f2 f3 f4 f5 f6 f7 f8 f9 f10 f11 f12 hun
          refine Ri9In.wpOpIn_list rfl ?_
          gi_wp2
          refine (HJ.out _ _ _).2 ⟨fun x => if x = 11 then .int .i64 (s1 : Int) else v x, by simp [e9, e10], (fun h => HFF.out.1 (by rw [getD_set_ne _ (by decide)] at h; exact h)), (fun h => HFF.out.2.1 (by rw [getD_set_ne _ (by decide)] at h; exact h)), (fun h => HFF.out.2.2.1 (by rw [getD_set_ne _ (by decide)] at h; exact h)), (fun h => HFF.out.2.2.2.1 (by rw [getD_set_ne _ (by decide)] at h; exact h)), (fun h => HFF.out.2.2.2.2.1 (by rw [getD_set_ne _ (by decide)] at h; exact h)), (fun h => HFF.out.2.2.2.2.2.1 (by rw [getD_set_ne _ (by decide)] at h; exact h)), (fun h => HFF.out.2.2.2.2.2.2.1 (by rw [getD_set_ne _ (by decide)] at h; exact h)), (fun h => HFF.out.2.2.2.2.2.2.2.1 (by rw [getD_set_ne _ (by decide)] at h; exact h)), (fun h => HFF.out.2.2.2.2.2.2.2.2.1 (by rw [getD_set_ne _ (by decide)] at h; exact h)), (fun h => HFF.out.2.2.2.2.2.2.2.2.2.1 (by rw [getD_set_ne _ (by decide)] at h; exact h)), (fun h => HFF.out.2.2.2.2.2.2.2.2.2.2.1 (by rw [getD_set_ne _ (by decide)] at h; exact h)), (fun _ => rfl), (fun h => HFF.out.2.2.2.2.2.2.2.2.2.2.2.2 (by rw [getD_set_ne _ (by decide)] at h; exact h)), ?_, fun _ => rfl, ?_⟩
          · intro h; rw [getD_set_ne _ (by decide), n13] at h; cases h
          · intro h; rw [getD_set_ne _ (by decide), n13] at h; cases h
        · -- operation 12
          cases ho
          have n13 : li.getD 13 false = false := by
            cases hx : li.getD 13 false
            · rfl
            · have := HK.out.1 hx 12 (by omega)
              rw [get_def this] at hun; cases hun
          obtain rfl := HK.out.2.1 n13
          have e5 := f5 (HAF.out ⟨5, .data⟩ (by simp) rfl)
          have e11 := f11 (HAF.out ⟨11, .data⟩ (by simp) rfl)
          have HFF := Lib.hid (And.intro f0 ( And.intro f1 ( And.intro f2 ( And.intro f3 ( And.intro f4 ( And.intro f5 ( And.intro f6 ( And.intro f7 ( And.intro f8 ( And.intro f9 ( And.intro f10 ( And.intro f11 (f12)))))))))))))
          clear f0 f1 f2 f3 f4 f5 f6 f7 f8 f9 f10 f11 f12 hun
          refine Ri9In.wpOpIn_list rfl ?_
          gi_wp2
          refine (HJ.out _ _ _).2 ⟨fun x => if x = 12 then .agg #[.int .i64 (s0 : Int), .int .i64 (s1 : Int)] else v x, by simp [e5, e11], (fun h => HFF.out.1 (by rw [getD_set_ne _ (by decide)] at h; exact h)), (fun h => HFF.out.2.1 (by rw [getD_set_ne _ (by decide)] at h; exact h)), (fun h => HFF.out.2.2.1 (by rw [getD_set_ne _ (by decide)] at h; exact h)), (fun h => HFF.out.2.2.2.1 (by rw [getD_set_ne _ (by decide)] at h; exact h)), (fun h => HFF.out.2.2.2.2.1 (by rw [getD_set_ne _ (by decide)] at h; exact h)), (fun h => HFF.out.2.2.2.2.2.1 (by rw [getD_set_ne _ (by decide)] at h; exact h)), (fun h => HFF.out.2.2.2.2.2.2.1 (by rw [getD_set_ne _ (by decide)] at h; exact h)), (fun h => HFF.out.2.2.2.2.2.2.2.1 (by rw [getD_set_ne _ (by decide)] at h; exact h)), (fun h => HFF.out.2.2.2.2.2.2.2.2.1 (by rw [getD_set_ne _ (by decide)] at h; exact h)), (fun h => HFF.out.2.2.2.2.2.2.2.2.2.1 (by rw [getD_set_ne _ (by decide)] at h; exact h)), (fun h => HFF.out.2.2.2.2.2.2.2.2.2.2.1 (by rw [getD_set_ne _ (by decide)] at h; exact h)), (fun h => HFF.out.2.2.2.2.2.2.2.2.2.2.2.1 (by rw [getD_set_ne _ (by decide)] at h; exact h)), (fun _ => rfl), ?_, fun _ => rfl, ?_⟩
          · intro h; rw [getD_set_ne _ (by decide), n13] at h; cases h
          · intro h; rw [getD_set_ne _ (by decide), n13] at h; cases h
        · -- operation 13
          cases ho
          have HUN := Lib.hid hun
          have n13 : li.getD 13 false = false := by
            cases hx : li.getD 13 false
            · rfl
            · rw [get_def hx] at hun; cases hun
          obtain rfl := HK.out.2.1 n13
          have c0 := HAF.out ⟨0, .data⟩ (by simp) rfl
          have c12 := HAF.out ⟨12, .data⟩ (by simp) rfl
          have c5 : li.getD 5 false = true := HC.out 12 _ rfl c12 ⟨5, .data⟩ (by simp) rfl
          have c11 : li.getD 11 false = true := HC.out 12 _ rfl c12 ⟨11, .data⟩ (by simp) rfl
          have c3 : li.getD 3 false = true := HC.out 5 _ rfl c5 ⟨3, .data⟩ (by simp) rfl
          have c4 : li.getD 4 false = true := HC.out 5 _ rfl c5 ⟨4, .data⟩ (by simp) rfl
          have c1 : li.getD 1 false = true := HC.out 3 _ rfl c3 ⟨1, .data⟩ (by simp) rfl
          have c2 : li.getD 2 false = true := HC.out 3 _ rfl c3 ⟨2, .data⟩ (by simp) rfl
          have c9 : li.getD 9 false = true := HC.out 11 _ rfl c11 ⟨9, .data⟩ (by simp) rfl
          have c10 : li.getD 10 false = true := HC.out 11 _ rfl c11 ⟨10, .data⟩ (by simp) rfl
          have c7 : li.getD 7 false = true := HC.out 9 _ rfl c9 ⟨7, .data⟩ (by simp) rfl
          have c8 : li.getD 8 false = true := HC.out 9 _ rfl c9 ⟨8, .data⟩ (by simp) rfl
          have c6 : li.getD 6 false = true := HC.out 7 _ rfl c7 ⟨6, .data⟩ (by simp) rfl
          have n14 : li.getD 14 false = false := by
            cases hx : li.getD 14 false
            · rfl
            · have := HC.out 14 _ rfl hx ⟨13, .data⟩ (by simp) rfl
              rw [n13] at this; cases this
          have e0 := f0 c0
          have e12 := f12 c12
          have HFF := Lib.hid (And.intro f0 ( And.intro f1 ( And.intro f2 ( And.intro f3 ( And.intro f4 ( And.intro f5 ( And.intro f6 ( And.intro f7 ( And.intro f8 ( And.intro f9 ( And.intro f10 ( And.intro f11 (f12)))))))))))))
          have HCC := Lib.hid (And.intro c0 ( And.intro c1 ( And.intro c2 ( And.intro c3 ( And.intro c4 ( And.intro c5 ( And.intro c6 ( And.intro c7 ( And.intro c8 ( And.intro c9 ( And.intro c10 ( And.intro c11 (c12)))))))))))))
          clear f0 f1 f2 f3 f4 f5 f6 f7 f8 f9 f10 f11 f12 c0 c1 c2 c3 c4 c5 c6 c7 c8 c9 c10 c11 c12 hun
          refine Ri9In.wpOpIn_list rfl ?_
          gi_wp2_with (refine hR2.mono ?_; rintro e W3 ⟨bb, rfl, hbb⟩)
          refine (HJ.out _ _ _).2 ⟨fun x => if x = 13 then .bool bb else v x, by simp [e0, e12], (fun h => HFF.out.1 (by rw [getD_set_ne _ (by decide)] at h; exact h)), (fun h => HFF.out.2.1 (by rw [getD_set_ne _ (by decide)] at h; exact h)), (fun h => HFF.out.2.2.1 (by rw [getD_set_ne _ (by decide)] at h; exact h)), (fun h => HFF.out.2.2.2.1 (by rw [getD_set_ne _ (by decide)] at h; exact h)), (fun h => HFF.out.2.2.2.2.1 (by rw [getD_set_ne _ (by decide)] at h; exact h)), (fun h => HFF.out.2.2.2.2.2.1 (by rw [getD_set_ne _ (by decide)] at h; exact h)), (fun h => HFF.out.2.2.2.2.2.2.1 (by rw [getD_set_ne _ (by decide)] at h; exact h)), (fun h => HFF.out.2.2.2.2.2.2.2.1 (by rw [getD_set_ne _ (by decide)] at h; exact h)), (fun h => HFF.out.2.2.2.2.2.2.2.2.1 (by rw [getD_set_ne _ (by decide)] at h; exact h)), (fun h => HFF.out.2.2.2.2.2.2.2.2.2.1 (by rw [getD_set_ne _ (by decide)] at h; exact h)), (fun h => HFF.out.2.2.2.2.2.2.2.2.2.2.1 (by rw [getD_set_ne _ (by decide)] at h; exact h)), (fun h => HFF.out.2.2.2.2.2.2.2.2.2.2.2.1 (by rw [getD_set_ne _ (by decide)] at h; exact h)), (fun h => HFF.out.2.2.2.2.2.2.2.2.2.2.2.2 (by rw [getD_set_ne _ (by decide)] at h; exact h)), ?_, ?_, ?_⟩
          · intro _ j hj
            obtain ⟨c0, c1, c2, c3, c4, c5, c6, c7, c8, c9, c10, c11, c12⟩ := HCC.out
            rw [getD_set_ne _ (by omega)]
            rcases j with _ | _ | _ | _ | _ | _ | _ | _ | _ | _ | _ | _ | _ | j <;> first | assumption | (exfalso; omega)
          · intro h
            rw [get_set HUN.out] at h; cases h
          · intro _
            refine ⟨bb, rfl, hbb, fun h => ?_⟩
            rw [getD_set_ne _ (by decide), n14] at h; cases h
        · -- operation 14
          cases ho
          have c13 := HAF.out ⟨13, .data⟩ (by simp) rfl
          obtain ⟨bb, e13, hbb, _⟩ := HK.out.2.2 c13
          have hall := HK.out.1 c13
          have HFF := Lib.hid (And.intro f0 ( And.intro f1 ( And.intro f2 ( And.intro f3 ( And.intro f4 ( And.intro f5 ( And.intro f6 ( And.intro f7 ( And.intro f8 ( And.intro f9 ( And.intro f10 ( And.intro f11 (f12)))))))))))))
          clear f0 f1 f2 f3 f4 f5 f6 f7 f8 f9 f10 f11 f12 hun
          refine Ri9In.wpOpIn_list rfl ?_
          gi_wp2
          refine (HJ.out _ _ _).2 ⟨fun x => if x = 14 then .bool (!bb) else v x, by simp [e13], (fun h => HFF.out.1 (by rw [getD_set_ne _ (by decide)] at h; exact h)), (fun h => HFF.out.2.1 (by rw [getD_set_ne _ (by decide)] at h; exact h)), (fun h => HFF.out.2.2.1 (by rw [getD_set_ne _ (by decide)] at h; exact h)), (fun h => HFF.out.2.2.2.1 (by rw [getD_set_ne _ (by decide)] at h; exact h)), (fun h => HFF.out.2.2.2.2.1 (by rw [getD_set_ne _ (by decide)] at h; exact h)), (fun h => HFF.out.2.2.2.2.2.1 (by rw [getD_set_ne _ (by decide)] at h; exact h)), (fun h => HFF.out.2.2.2.2.2.2.1 (by rw [getD_set_ne _ (by decide)] at h; exact h)), (fun h => HFF.out.2.2.2.2.2.2.2.1 (by rw [getD_set_ne _ (by decide)] at h; exact h)), (fun h => HFF.out.2.2.2.2.2.2.2.2.1 (by rw [getD_set_ne _ (by decide)] at h; exact h)), (fun h => HFF.out.2.2.2.2.2.2.2.2.2.1 (by rw [getD_set_ne _ (by decide)] at h; exact h)), (fun h => HFF.out.2.2.2.2.2.2.2.2.2.2.1 (by rw [getD_set_ne _ (by decide)] at h; exact h)), (fun h => HFF.out.2.2.2.2.2.2.2.2.2.2.2.1 (by rw [getD_set_ne _ (by decide)] at h; exact h)), (fun h => HFF.out.2.2.2.2.2.2.2.2.2.2.2.2 (by rw [getD_set_ne _ (by decide)] at h; exact h)), ?_, ?_, ?_⟩
          · intro _ j hj
            rw [getD_set_ne _ (by omega)]
            exact hall j hj
          · intro h; rw [getD_set_ne _ (by decide), c13] at h; cases h
          · intro _
            exact ⟨bb, by simp [e13], hbb, fun _ => rfl⟩
        · exact absurd ho (by simp)
      · intro li a wx hJ3 hall
        obtain ⟨v, rfl, f0, f1, f2, f3, f4, f5, f6, f7, f8, f9, f10, f11, f12, k13, k14, k15⟩ := (HJ.out _ _ _).1 hJ3
        have hal : ∀ j, j < 15 → li.getD j false = true := fun j hj => hall j hj
        obtain ⟨bb, e13, hbb, e14⟩ := k15 (hal 13 (by omega))
        have e14 := e14 (hal 14 (by omega))
        clear k13 k14 k15 hall hJ3 hal f0 f1 f2 f3 f4 f5 f6 f7 f8 f9 f10 f11 f12
        rw [HH.out] at hbb
        rcases hbb with ⟨rfl, hJ3, hk3⟩ | ⟨rfl, hJx3⟩
        · have cm3 : wx.cell? ⟨Bm, 0, none⟩ = some (.int .i64 (m : Int)) := (hk3 Bm (.inl rfl)).trans cm
          have cn3 : wx.cell? ⟨Bn, 0, none⟩ = some (.int .i64 (n : Int)) := (hk3 Bn (.inr rfl)).trans cn
          have e14b : v 14 = .bool false := e14
          rw [e14b]
          clear e14
          gi_wp2
          go_roundw
          case rel => exact ⟨k + 1, pre ++ [⟨k, hlt⟩], by go_num, by omega, by rw [List.map_append, HP.out, List.range_succ]; rfl, hJ3, cm3, cn3⟩
          case measure => simp [intOf]; omega
        · have e14b : v 14 = .bool true := e14
          rw [e14b]
          clear e14
          gi_wp2
          refine bodyPost_ret (results_none rfl _ _ _) rfl ?_
          exact ⟨⟨_, rfl⟩, .inr ⟨pre ++ [⟨k, hlt⟩], trivial, hJx3⟩⟩
    · obtain rfl : k = n := by omega
      gi_wp2
      go_end0
      exact ⟨⟨_, rfl⟩, .inl ⟨pre, hpre, hJs⟩⟩
end Go.Proofs.Ytkonknkoggfeaaa.Pc
