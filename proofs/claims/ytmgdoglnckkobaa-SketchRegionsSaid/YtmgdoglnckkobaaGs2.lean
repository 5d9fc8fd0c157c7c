/- Merged: Pie1 Pie2 Pie3 Euc0 RatioMake Nor Pie4 PieC UnitMath Half RootWalks Near Ref01 App SkS SkO SkU SkG SkA. -/
import Derived.Test.YtmgdoglnckkobaaRows
import Derived.Test.YtmgdoglnckkobaaGs1
import Derived.RangeFuncBox
import Derived.RangeFuncLeaves
import Derived.RangeFuncNested
import Derived.RangeFuncBound
import Derived.RangeFuncCalls
import Derived.Shelf.Abstract
import Derived.Shelf.RegionOpen
import Derived.WalkKit
import Derived.OwnWalkIn
import Derived.TacticsInMore
import Derived.LoopNIn
import Derived.LoopIn
import Derived.Maps.AppendAt
import Derived.WalkLawsBesides
import Derived.WalkSpells
import Derived.Outline
import Derived.Lib.Hide
import Derived.IntWalk
import Derived.WalkMore
import Derived.Deep.QuietTactic
import Derived.BigQuiet
import Derived.Laws.ResultCell
import Derived.Deep.RegionHeld3
import Derived.Deep.DeepCutAuto
import Derived.Below
import Derived.RegionTactic
import Derived.Deep.RegionLaw
namespace Go.Proofs.Ytmgdoglnckkobaa.Pc
open Go.RowKit Go.Shelf Wo Sr Wi
set_option linter.unusedVariables false
attribute [local go_sem] Oper.semAt_some
/-- the two blocks that the iterator reads -/
def Kpc (Bm Bn : Nat) (W W' : World) : Prop := ∀ b, b = Bm ∨ b = Bn → W'.cell? ⟨b, 0, none⟩ = W.cell? ⟨b, 0, none⟩
/-- a piece, as it is yielded -/
def enp (m n : Nat) (x : Fin n) : Array Value := #[.agg #[.int .i64 (st m n x.val : Int), .int .i64 (st m n (x.val + 1) : Int)]]
theorem rep_get {q n : Nat} : (Array.replicate n false).getD q false = false := by
  rw [Array.getD_eq_getD_getElem?, Array.getElem?_replicate]
  split <;> simp
theorem get_def {li : Array Bool} {q : Nat} (h : li.getD q false = true) : li.getD q true = true := by
  rw [Array.getD_eq_getD_getElem?] at h ⊢
  cases hx : li[q]?
  · rw [hx] at h; cases h
  · rw [hx] at h; exact h
theorem get_set {li : Array Bool} {q : Nat} (h : li.getD q true = false) : (li.setIfInBounds q true).getD q false = true := by
  rw [Array.getD_eq_getD_getElem?] at h ⊢
  have hl : q < li.size := by
    rcases Nat.lt_or_ge q li.size with hl | hl
    · exact hl
    · rw [Array.getElem?_eq_none hl] at h; cases h
  rw [Array.getElem?_setIfInBounds, if_pos rfl, if_pos hl]; rfl
set_option maxRecDepth 100000 in
set_option maxHeartbeats 2000000 in
theorem div1_in (F : Fence) (d : Nat) (hf : F.fn 116) (hro : F.round = none) (hd : 1 ≤ d) (l Bm Bn m n : Nat) (n1 : 1 ≤ n) (n8 : n ≤ 8) (m32 : m ≤ 32) (J Jx : List (Fin n) → World → Prop) (W : World) (hJ : AbidesFrom W.heap.size J)
    (hY : ∀ pre x W, J pre W → pre.length < n → YieldAt F (d - 1) Try.prog l (enp m n x) W fun e W' =>
      (e = .returned (.bool true) ∧ J (pre ++ [x]) W' ∧ Kpc Bm Bn W W') ∨ (e = .returned (.bool false) ∧ Jx (pre ++ [x]) W'))
    (hBm : W.cell? ⟨Bm, 0, none⟩ = some (.int .i64 (m : Int))) (hBn : W.cell? ⟨Bn, 0, none⟩ = some (.int .i64 (n : Int))) (h0 : J [] W) :
    CallsIn F d Try.prog 116 #[.func (.yield l) #[] #[], .pointer (some ⟨Bn, 0, none⟩), .pointer (some ⟨Bm, 0, none⟩)] W fun e W' => (∃ v, e = .returned v) ∧
      ((∃ ys : List (Fin n), ys.map Fin.val = List.range n ∧ J ys W') ∨ (∃ pre : List (Fin n), True ∧ Jx pre W')) := by
  refine callsIn_of_wp Try.func116 rfl hf ?_ hro
  simp only [Try.ntmps116, List.size_toArray, List.length_cons, List.length_nil, Nat.reduceAdd, Nat.reduceSub, Array.replicate_succ, Array.replicate_zero, List.push_toArray, List.append_toArray, List.nil_append, List.cons_append]
  gi_wp2
  gi_loopw [6] (fun p wr => ∃ (k : Nat) (pre : List (Fin n)), p = .int .i64 (k : Int) ∧ k ≤ n ∧ pre.map Fin.val = List.range k ∧ J pre wr ∧ wr.cell? ⟨Bm, 0, none⟩ = some (.int .i64 (m : Int)) ∧ wr.cell? ⟨Bn, 0, none⟩ = some (.int .i64 (n : Int)))
    (fun p wr => n - (intOf p).toNat)
  case atStart => exact ⟨0, [], rfl, Nat.zero_le _, rfl, h0, hBm, hBn⟩
  case round =>
    obtain ⟨k, pre, rfl, hk, hpre, hJs, cm, cn⟩ := hrel
    rcases Nat.lt_or_ge k n with hlt | hge
    · have hl : pre.length = k := by have := congrArg List.length hpre; simpa using this
      have hJd : J pre wr.drew := hJ pre wr wr.drew none hJs ⟨rfl, rfl, rfl, Nat.le_refl _, fun _ _ _ => rfl⟩ (fun r e => by cases e)
      obtain ⟨fn, tmps, assign, body, hy, hR⟩ := hY pre ⟨k, hlt⟩ wr.drew hJd (by omega)
      have ki : (k : Int) < (n : Int) := by omega
      have n0 : (n : Int) ≠ 0 := by omega
      have hs0 : ((k * m : Nat) : Int).tdiv (n : Int) = (st m n k : Int) := by rw [Int.tdiv_eq_ediv_of_nonneg (by omega)]; rfl
      have hs1 : (((k + 1) * m : Nat) : Int).tdiv (n : Int) = (st m n (k + 1) : Int) := by rw [Int.tdiv_eq_ediv_of_nonneg (by omega)]; rfl
      rw [Int.natCast_mul] at hs0 hs1
      rw [show ((k + 1 : Nat) : Int) = (k : Int) + 1 by omega] at hs1
      have b0 : k * m ≤ 8 * 32 := Nat.mul_le_mul (by omega) m32
      have b1 : (k + 1) * m ≤ 8 * 32 := Nat.mul_le_mul (by omega) m32
      have b0i : (k : Int) * (m : Int) ≤ 256 := by have := Int.ofNat_le.2 b0; rw [Int.natCast_mul] at this; exact this
      have b1i : ((k : Int) + 1) * (m : Int) ≤ 256 := by have := Int.ofNat_le.2 b1; rw [Int.natCast_mul] at this; exact this
      have p0 : 0 ≤ (k : Int) * (m : Int) := Int.mul_nonneg (by omega) (by omega)
      have p1 : 0 ≤ ((k : Int) + 1) * (m : Int) := Int.mul_nonneg (by omega) (by omega)
      have l0 : st m n k ≤ 32 := Nat.le_trans (st_le m n k (by omega) (by omega)) m32
      have l1 : st m n (k + 1) ≤ 32 := Nat.le_trans (st_le m n (k + 1) (by omega) (by omega)) m32
      obtain ⟨s0, hs0'⟩ : ∃ s, st m n k = s := ⟨_, rfl⟩
      obtain ⟨s1, hs1'⟩ : ∃ s, st m n (k + 1) = s := ⟨_, rfl⟩
      obtain ⟨A, hA⟩ : ∃ a, (k : Int) * (m : Int) = a := ⟨_, rfl⟩
      obtain ⟨B, hB⟩ : ∃ a, ((k : Int) + 1) * (m : Int) = a := ⟨_, rfl⟩
      rw [hs0', hA] at hs0
      rw [hs1', hB] at hs1
      rw [hs0'] at l0
      rw [hs1'] at l1
      rw [hA] at b0i p0
      rw [hB] at b1i p1
      have wA : IntKind.i64.wrap A = A := IntWalk.i64_in _ (by omega)
      have wB : IntKind.i64.wrap B = B := IntWalk.i64_in _ (by omega)
      have ws0 : IntKind.i64.wrap (s0 : Int) = (s0 : Int) := IntWalk.i64_in _ (by omega)
      have ws1 : IntKind.i64.wrap (s1 : Int) = (s1 : Int) := IntWalk.i64_in _ (by omega)
      have wk1 : IntKind.i64.wrap ((k : Int) + 1) = (k : Int) + 1 := IntWalk.i64_in _ (by omega)
      have hmx : Try.prog.follows .mixedOrders = true := by kernel_rfl
      have n0b : ((n : Int) == 0) = false := by simp; omega
      have ey : enp m n ⟨k, hlt⟩ = #[.agg #[.int .i64 (s0 : Int), .int .i64 (s1 : Int)]] := by unfold enp; simp only [hs0', hs1']
      rw [ey] at hy
      have HP := Lib.hid hpre
      have HJS := Lib.hid hJs
      clear hJs hpre hs0' hs1' b0 b1 hY hJ h0 ey
      gi_wp2
      obtain ⟨H, hH⟩ : ∃ H : Bool → World → Prop, H = fun bb W' => ((bb = true ∧ J (pre ++ [⟨k, hlt⟩]) W' ∧ Kpc Bm Bn wr.drew W') ∨ (bb = false ∧ Jx (pre ++ [⟨k, hlt⟩]) W')) := ⟨_, rfl⟩
      have hR2 := hR.mono (R' := fun e W' => ∃ bb, e = .returned (.bool bb) ∧ H bb W') (fun e W' h3 => by rw [hH]; exact h3.elim (fun h => ⟨true, h.1, .inl ⟨rfl, h.2.1, h.2.2⟩⟩) (fun h => ⟨false, h.1, .inr ⟨rfl, h.2⟩⟩))
      have HH := Lib.hid hH
      clear hR hH
      obtain ⟨J3, HJ⟩ : ∃ J3 : Array Bool → Act → World → Prop, Hid (∀ li a wx, J3 li a wx ↔ ∃ v : Nat → Value, a = { tmps := #[.func (.yield l) #[] #[], .pointer (some ⟨Bn, 0, none⟩), .pointer (some ⟨Bm, 0, none⟩), undef, .int .i64 (k : Int), .int .i64 (n : Int), .int .i64 (k : Int), .bool true, .int .i64 (k : Int), v 0, v 1, v 2, v 3, v 4, v 5, v 6, v 7, v 8, v 9, v 10, v 11, v 12, v 13, v 14, u24], defers := [] } ∧ (li.getD 0 false = true → v 0 = .func (.yield l) #[] #[]) ∧ (li.getD 1 false = true → v 1 = .int .i64 (k : Int)) ∧ (li.getD 2 false = true → v 2 = .int .i64 (m : Int)) ∧ (li.getD 3 false = true → v 3 = .int .i64 A) ∧ (li.getD 4 false = true → v 4 = .int .i64 (n : Int)) ∧ (li.getD 5 false = true → v 5 = .int .i64 (s0 : Int)) ∧ (li.getD 6 false = true → v 6 = .int .i64 (k : Int)) ∧ (li.getD 7 false = true → v 7 = .int .i64 ((k : Int) + 1)) ∧ (li.getD 8 false = true → v 8 = .int .i64 (m : Int)) ∧ (li.getD 9 false = true → v 9 = .int .i64 B) ∧ (li.getD 10 false = true → v 10 = .int .i64 (n : Int)) ∧ (li.getD 11 false = true → v 11 = .int .i64 (s1 : Int)) ∧ (li.getD 12 false = true → v 12 = .agg #[.int .i64 (s0 : Int), .int .i64 (s1 : Int)]) ∧ (li.getD 13 false = true → ∀ j, j < 13 → li.getD j false = true) ∧ (li.getD 13 false = false → wx = wr.drew) ∧ (li.getD 13 false = true → ∃ bb, v 13 = .bool bb ∧ H bb wx ∧ (li.getD 14 false = true → v 14 = .bool (!bb)))) := ⟨_, fun _ _ _ => Iff.rfl⟩
      refine Ri9In.wpIn_region_inv2 (by kernel_rfl) (by intro i o ho; (rcases i with _ | _ | _ | _ | _ | _ | _ | _ | _ | _ | _ | _ | _ | _ | _ | i) <;> first | (cases ho; decide) | (exact absurd ho (by simp))) J3 ?_ ?_ ?_
      · refine (HJ.out _ _ _).2 ⟨fun q => (#[u9, u10, u11, u12, u13, u14, u15, u16, u17, u18, u19, u20, u21, u22, u23] : Array Value).getD q undef, by rfl, (fun h => by rw [rep_get] at h; cases h), (fun h => by rw [rep_get] at h; cases h), (fun h => by rw [rep_get] at h; cases h), (fun h => by rw [rep_get] at h; cases h), (fun h => by rw [rep_get] at h; cases h), (fun h => by rw [rep_get] at h; cases h), (fun h => by rw [rep_get] at h; cases h), (fun h => by rw [rep_get] at h; cases h), (fun h => by rw [rep_get] at h; cases h), (fun h => by rw [rep_get] at h; cases h), (fun h => by rw [rep_get] at h; cases h), (fun h => by rw [rep_get] at h; cases h), (fun h => by rw [rep_get] at h; cases h), ?_, ?_, ?_⟩
        · intro h; rw [rep_get] at h; cases h
        · intro _; rfl
        · intro h; rw [rep_get] at h; cases h
      · intro i o ho li a wx hcl hJ3 haft hun
        obtain ⟨v, rfl, f0, f1, f2, f3, f4, f5, f6, f7, f8, f9, f10, f11, f12, k13, k14, k15⟩ := (HJ.out _ _ _).1 hJ3
        have HC := Lib.hid hcl
        have HAF := Lib.hid haft
        have HK := Lib.hid (And.intro k13 (And.intro k14 k15))
        clear hcl hJ3 haft k13 k14 k15
        rcases i with _ | _ | _ | _ | _ | _ | _ | _ | _ | _ | _ | _ | _ | _ | _ | i
        · -- operation 0
          cases ho
          have n13 : li.getD 13 false = false := by
            cases hx : li.getD 13 false
            · rfl
            · have := HK.out.1 hx 0 (by omega)
              rw [get_def this] at hun; cases hun
          obtain rfl := HK.out.2.1 n13
          have HFF := Lib.hid (And.intro f0 ( And.intro f1 ( And.intro f2 ( And.intro f3 ( And.intro f4 ( And.intro f5 ( And.intro f6 ( And.intro f7 ( And.intro f8 ( And.intro f9 ( And.intro f10 ( And.intro f11 (f12)))))))))))))
          clear f0 f1 f2 f3 f4 f5 f6 f7 f8 f9 f10 f11 f12 hun
          refine Ri9In.wpOpIn_list rfl ?_
          gi_wp2
          refine (HJ.out _ _ _).2 ⟨fun x => if x = 0 then .func (.yield l) #[] #[] else v x, by simp [], (fun _ => rfl), (fun h => HFF.out.2.1 (by rw [getD_set_ne _ (by decide)] at h; exact h)), (fun h => HFF.out.2.2.1 (by rw [getD_set_ne _ (by decide)] at h; exact h)), (fun h => HFF.out.2.2.2.1 (by rw [getD_set_ne _ (by decide)] at h; exact h)), (fun h => HFF.out.2.2.2.2.1 (by rw [getD_set_ne _ (by decide)] at h; exact h)), (fun h => HFF.out.2.2.2.2.2.1 (by rw [getD_set_ne _ (by decide)] at h; exact h)), (fun h => HFF.out.2.2.2.2.2.2.1 (by rw [getD_set_ne _ (by decide)] at h; exact h)), (fun h => HFF.out.2.2.2.2.2.2.2.1 (by rw [getD_set_ne _ (by decide)] at h; exact h)), (fun h => HFF.out.2.2.2.2.2.2.2.2.1 (by rw [getD_set_ne _ (by decide)] at h; exact h)), (fun h => HFF.out.2.2.2.2.2.2.2.2.2.1 (by rw [getD_set_ne _ (by decide)] at h; exact h)), (fun h => HFF.out.2.2.2.2.2.2.2.2.2.2.1 (by rw [getD_set_ne _ (by decide)] at h; exact h)), (fun h => HFF.out.2.2.2.2.2.2.2.2.2.2.2.1 (by rw [getD_set_ne _ (by decide)] at h; exact h)), (fun h => HFF.out.2.2.2.2.2.2.2.2.2.2.2.2 (by rw [getD_set_ne _ (by decide)] at h; exact h)), ?_, fun _ => rfl, ?_⟩
          · intro h; rw [getD_set_ne _ (by decide), n13] at h; cases h
          · intro h; rw [getD_set_ne _ (by decide), n13] at h; cases h
        · -- operation 1
          cases ho
          have n13 : li.getD 13 false = false := by
            cases hx : li.getD 13 false
            · rfl
            · have := HK.out.1 hx 1 (by omega)
              rw [get_def this] at hun; cases hun
          obtain rfl := HK.out.2.1 n13
          have HFF := Lib.hid (And.intro f0 ( And.intro f1 ( And.intro f2 ( And.intro f3 ( And.intro f4 ( And.intro f5 ( And.intro f6 ( And.intro f7 ( And.intro f8 ( And.intro f9 ( And.intro f10 ( And.intro f11 (f12)))))))))))))
          clear f0 f1 f2 f3 f4 f5 f6 f7 f8 f9 f10 f11 f12 hun
          refine Ri9In.wpOpIn_list rfl ?_
          gi_wp2
          refine (HJ.out _ _ _).2 ⟨fun x => if x = 1 then .int .i64 (k : Int) else v x, by simp [], (fun h => HFF.out.1 (by rw [getD_set_ne _ (by decide)] at h; exact h)), (fun _ => rfl), (fun h => HFF.out.2.2.1 (by rw [getD_set_ne _ (by decide)] at h; exact h)), (fun h => HFF.out.2.2.2.1 (by rw [getD_set_ne _ (by decide)] at h; exact h)), (fun h => HFF.out.2.2.2.2.1 (by rw [getD_set_ne _ (by decide)] at h; exact h)), (fun h => HFF.out.2.2.2.2.2.1 (by rw [getD_set_ne _ (by decide)] at h; exact h)), (fun h => HFF.out.2.2.2.2.2.2.1 (by rw [getD_set_ne _ (by decide)] at h; exact h)), (fun h => HFF.out.2.2.2.2.2.2.2.1 (by rw [getD_set_ne _ (by decide)] at h; exact h)), (fun h => HFF.out.2.2.2.2.2.2.2.2.1 (by rw [getD_set_ne _ (by decide)] at h; exact h)), (fun h => HFF.out.2.2.2.2.2.2.2.2.2.1 (by rw [getD_set_ne _ (by decide)] at h; exact h)), (fun h => HFF.out.2.2.2.2.2.2.2.2.2.2.1 (by rw [getD_set_ne _ (by decide)] at h; exact h)), (fun h => HFF.out.2.2.2.2.2.2.2.2.2.2.2.1 (by rw [getD_set_ne _ (by decide)] at h; exact h)), (fun h => HFF.out.2.2.2.2.2.2.2.2.2.2.2.2 (by rw [getD_set_ne _ (by decide)] at h; exact h)), ?_, fun _ => rfl, ?_⟩
          · intro h; rw [getD_set_ne _ (by decide), n13] at h; cases h
          · intro h; rw [getD_set_ne _ (by decide), n13] at h; cases h
        · -- operation 2
          cases ho
          have n13 : li.getD 13 false = false := by
            cases hx : li.getD 13 false
            · rfl
            · have := HK.out.1 hx 2 (by omega)
              rw [get_def this] at hun; cases hun
          obtain rfl := HK.out.2.1 n13
          have HFF := Lib.hid (And.intro f0 ( And.intro f1 ( And.intro f2 ( And.intro f3 ( And.intro f4 ( And.intro f5 ( And.intro f6 ( And.intro f7 ( And.intro f8 ( And.intro f9 ( And.intro f10 ( And.intro f11 (f12)))))))))))))
          clear f0 f1 f2 f3 f4 f5 f6 f7 f8 f9 f10 f11 f12 hun
          refine Ri9In.wpOpIn_list rfl ?_
          gi_wp2
          refine (HJ.out _ _ _).2 ⟨fun x => if x = 2 then .int .i64 (m : Int) else v x, by simp [], (fun h => HFF.out.1 (by rw [getD_set_ne _ (by decide)] at h; exact h)), (fun h => HFF.out.2.1 (by rw [getD_set_ne _ (by decide)] at h; exact h)), (fun _ => rfl), (fun h => HFF.out.2.2.2.1 (by rw [getD_set_ne _ (by decide)] at h; exact h)), (fun h => HFF.out.2.2.2.2.1 (by rw [getD_set_ne _ (by decide)] at h; exact h)), (fun h => HFF.out.2.2.2.2.2.1 (by rw [getD_set_ne _ (by decide)] at h; exact h)), (fun h => HFF.out.2.2.2.2.2.2.1 (by rw [getD_set_ne _ (by decide)] at h; exact h)), (fun h => HFF.out.2.2.2.2.2.2.2.1 (by rw [getD_set_ne _ (by decide)] at h; exact h)), (fun h => HFF.out.2.2.2.2.2.2.2.2.1 (by rw [getD_set_ne _ (by decide)] at h; exact h)), (fun h => HFF.out.2.2.2.2.2.2.2.2.2.1 (by rw [getD_set_ne _ (by decide)] at h; exact h)), (fun h => HFF.out.2.2.2.2.2.2.2.2.2.2.1 (by rw [getD_set_ne _ (by decide)] at h; exact h)), (fun h => HFF.out.2.2.2.2.2.2.2.2.2.2.2.1 (by rw [getD_set_ne _ (by decide)] at h; exact h)), (fun h => HFF.out.2.2.2.2.2.2.2.2.2.2.2.2 (by rw [getD_set_ne _ (by decide)] at h; exact h)), ?_, fun _ => rfl, ?_⟩
          · intro h; rw [getD_set_ne _ (by decide), n13] at h; cases h
          · intro h; rw [getD_set_ne _ (by decide), n13] at h; cases h
        · -- operation 3
          cases ho
          have n13 : li.getD 13 false = false := by
            cases hx : li.getD 13 false
            · rfl
            · have := HK.out.1 hx 3 (by omega)
              rw [get_def this] at hun; cases hun
          obtain rfl := HK.out.2.1 n13
          have e1 := f1 (HAF.out ⟨1, .data⟩ (by simp) rfl)
          have e2 := f2 (HAF.out ⟨2, .data⟩ (by simp) rfl)
          have HFF := Lib.hid (And.intro f0 ( And.intro f1 ( And.intro f2 ( And.intro f3 ( And.intro f4 ( And.intro f5 ( And.intro f6 ( And.intro f7 ( And.intro f8 ( And.intro f9 ( And.intro f10 ( And.intro f11 (f12)))))))))))))
          clear f0 f1 f2 f3 f4 f5 f6 f7 f8 f9 f10 f11 f12 hun
          refine Ri9In.wpOpIn_list rfl ?_
          gi_wp2
          refine (HJ.out _ _ _).2 ⟨fun x => if x = 3 then .int .i64 A else v x, by simp [e1, e2], (fun h => HFF.out.1 (by rw [getD_set_ne _ (by decide)] at h; exact h)), (fun h => HFF.out.2.1 (by rw [getD_set_ne _ (by decide)] at h; exact h)), (fun h => HFF.out.2.2.1 (by rw [getD_set_ne _ (by decide)] at h; exact h)), (fun _ => rfl), (fun h => HFF.out.2.2.2.2.1 (by rw [getD_set_ne _ (by decide)] at h; exact h)), (fun h => HFF.out.2.2.2.2.2.1 (by rw [getD_set_ne _ (by decide)] at h; exact h)), (fun h => HFF.out.2.2.2.2.2.2.1 (by rw [getD_set_ne _ (by decide)] at h; exact h)), (fun h => HFF.out.2.2.2.2.2.2.2.1 (by rw [getD_set_ne _ (by decide)] at h; exact h)), (fun h => HFF.out.2.2.2.2.2.2.2.2.1 (by rw [getD_set_ne _ (by decide)] at h; exact h)), (fun h => HFF.out.2.2.2.2.2.2.2.2.2.1 (by rw [getD_set_ne _ (by decide)] at h; exact h)), (fun h => HFF.out.2.2.2.2.2.2.2.2.2.2.1 (by rw [getD_set_ne _ (by decide)] at h; exact h)), (fun h => HFF.out.2.2.2.2.2.2.2.2.2.2.2.1 (by rw [getD_set_ne _ (by decide)] at h; exact h)), (fun h => HFF.out.2.2.2.2.2.2.2.2.2.2.2.2 (by rw [getD_set_ne _ (by decide)] at h; exact h)), ?_, fun _ => rfl, ?_⟩
          · intro h; rw [getD_set_ne _ (by decide), n13] at h; cases h
          · intro h; rw [getD_set_ne _ (by decide), n13] at h; cases h
        · -- operation 4
          cases ho
          have n13 : li.getD 13 false = false := by
            cases hx : li.getD 13 false
            · rfl
            · have := HK.out.1 hx 4 (by omega)
              rw [get_def this] at hun; cases hun
          obtain rfl := HK.out.2.1 n13
          have HFF := Lib.hid (And.intro f0 ( And.intro f1 ( And.intro f2 ( And.intro f3 ( And.intro f4 ( And.intro f5 ( And.intro f6 ( And.intro f7 ( And.intro f8 ( And.intro f9 ( And.intro f10 ( And.intro f11 (f12)))))))))))))
          clear f0 f1 f2 f3 f4 f5 f6 f7 f8 f9 f10 f11 f12 hun
          refine Ri9In.wpOpIn_list rfl ?_
          gi_wp2
          refine (HJ.out _ _ _).2 ⟨fun x => if x = 4 then .int .i64 (n : Int) else v x, by simp [], (fun h => HFF.out.1 (by rw [getD_set_ne _ (by decide)] at h; exact h)), (fun h => HFF.out.2.1 (by rw [getD_set_ne _ (by decide)] at h; exact h)), (fun h => HFF.out.2.2.1 (by rw [getD_set_ne _ (by decide)] at h; exact h)), (fun h => HFF.out.2.2.2.1 (by rw [getD_set_ne _ (by decide)] at h; exact h)), (fun _ => rfl), (fun h => HFF.out.2.2.2.2.2.1 (by rw [getD_set_ne _ (by decide)] at h; exact h)), (fun h => HFF.out.2.2.2.2.2.2.1 (by rw [getD_set_ne _ (by decide)] at h; exact h)), (fun h => HFF.out.2.2.2.2.2.2.2.1 (by rw [getD_set_ne _ (by decide)] at h; exact h)), (fun h => HFF.out.2.2.2.2.2.2.2.2.1 (by rw [getD_set_ne _ (by decide)] at h; exact h)), (fun h => HFF.out.2.2.2.2.2.2.2.2.2.1 (by rw [getD_set_ne _ (by decide)] at h; exact h)), (fun h => HFF.out.2.2.2.2.2.2.2.2.2.2.1 (by rw [getD_set_ne _ (by decide)] at h; exact h)), (fun h => HFF.out.2.2.2.2.2.2.2.2.2.2.2.1 (by rw [getD_set_ne _ (by decide)] at h; exact h)), (fun h => HFF.out.2.2.2.2.2.2.2.2.2.2.2.2 (by rw [getD_set_ne _ (by decide)] at h; exact h)), ?_, fun _ => rfl, ?_⟩
          · intro h; rw [getD_set_ne _ (by decide), n13] at h; cases h
          · intro h; rw [getD_set_ne _ (by decide), n13] at h; cases h
        · -- operation 5
          cases ho
          have n13 : li.getD 13 false = false := by
            cases hx : li.getD 13 false
            · rfl
            · have := HK.out.1 hx 5 (by omega)
              rw [get_def this] at hun; cases hun
          obtain rfl := HK.out.2.1 n13
          have e3 := f3 (HAF.out ⟨3, .data⟩ (by simp) rfl)
          have e4 := f4 (HAF.out ⟨4, .data⟩ (by simp) rfl)
          have HFF := Lib.hid (And.intro f0 ( And.intro f1 ( And.intro f2 ( And.intro f3 ( And.intro f4 ( And.intro f5 ( And.intro f6 ( And.intro f7 ( And.intro f8 ( And.intro f9 ( And.intro f10 ( And.intro f11 (f12)))))))))))))
          clear f0 f1 f2 f3 f4 f5 f6 f7 f8 f9 f10 f11 f12 hun
          refine Ri9In.wpOpIn_list rfl ?_
          gi_wp2
          refine (HJ.out _ _ _).2 ⟨fun x => if x = 5 then .int .i64 (s0 : Int) else v x, by simp [e3, e4], (fun h => HFF.out.1 (by rw [getD_set_ne _ (by decide)] at h; exact h)), (fun h => HFF.out.2.1 (by rw [getD_set_ne _ (by decide)] at h; exact h)), (fun h => HFF.out.2.2.1 (by rw [getD_set_ne _ (by decide)] at h; exact h)), (fun h => HFF.out.2.2.2.1 (by rw [getD_set_ne _ (by decide)] at h; exact h)), (fun h => HFF.out.2.2.2.2.1 (by rw [getD_set_ne _ (by decide)] at h; exact h)), (fun _ => rfl), (fun h => HFF.out.2.2.2.2.2.2.1 (by rw [getD_set_ne _ (by decide)] at h; exact h)), (fun h => HFF.out.2.2.2.2.2.2.2.1 (by rw [getD_set_ne _ (by decide)] at h; exact h)), (fun h => HFF.out.2.2.2.2.2.2.2.2.1 (by rw [getD_set_ne _ (by decide)] at h; exact h)), (fun h => HFF.out.2.2.2.2.2.2.2.2.2.1 (by rw [getD_set_ne _ (by decide)] at h; exact h)), (fun h => HFF.out.2.2.2.2.2.2.2.2.2.2.1 (by rw [getD_set_ne _ (by decide)] at h; exact h)), (fun h => HFF.out.2.2.2.2.2.2.2.2.2.2.2.1 (by rw [getD_set_ne _ (by decide)] at h; exact h)), (fun h => HFF.out.2.2.2.2.2.2.2.2.2.2.2.2 (by rw [getD_set_ne _ (by decide)] at h; exact h)), ?_, fun _ => rfl, ?_⟩
          · intro h; rw [getD_set_ne _ (by decide), n13] at h; cases h
          · intro h; rw [getD_set_ne _ (by decide), n13] at h; cases h
        · -- operation 6
          cases ho
          have n13 : li.getD 13 false = false := by
            cases hx : li.getD 13 false
            · rfl
            · have := HK.out.1 hx 6 (by omega)
              rw [get_def this] at hun; cases hun
          obtain rfl := HK.out.2.1 n13
          have HFF := Lib.hid (And.intro f0 ( And.intro f1 ( And.intro f2 ( And.intro f3 ( And.intro f4 ( And.intro f5 ( And.intro f6 ( And.intro f7 ( And.intro f8 ( And.intro f9 ( And.intro f10 ( And.intro f11 (f12)))))))))))))
          clear f0 f1 f2 f3 f4 f5 f6 f7 f8 f9 f10 f11 f12 hun
          refine Ri9In.wpOpIn_list rfl ?_
          gi_wp2
          refine (HJ.out _ _ _).2 ⟨fun x => if x = 6 then .int .i64 (k : Int) else v x, by simp [], (fun h => HFF.out.1 (by rw [getD_set_ne _ (by decide)] at h; exact h)), (fun h => HFF.out.2.1 (by rw [getD_set_ne _ (by decide)] at h; exact h)), (fun h => HFF.out.2.2.1 (by rw [getD_set_ne _ (by decide)] at h; exact h)), (fun h => HFF.out.2.2.2.1 (by rw [getD_set_ne _ (by decide)] at h; exact h)), (fun h => HFF.out.2.2.2.2.1 (by rw [getD_set_ne _ (by decide)] at h; exact h)), (fun h => HFF.out.2.2.2.2.2.1 (by rw [getD_set_ne _ (by decide)] at h; exact h)), (fun _ => rfl), (fun h => HFF.out.2.2.2.2.2.2.2.1 (by rw [getD_set_ne _ (by decide)] at h; exact h)), (fun h => HFF.out.2.2.2.2.2.2.2.2.1 (by rw [getD_set_ne _ (by decide)] at h; exact h)), (fun h => HFF.out.2.2.2.2.2.2.2.2.2.1 (by rw [getD_set_ne _ (by decide)] at h; exact h)), (fun h => HFF.out.2.2.2.2.2.2.2.2.2.2.1 (by rw [getD_set_ne _ (by decide)] at h; exact h)), (fun h => HFF.out.2.2.2.2.2.2.2.2.2.2.2.1 (by rw [getD_set_ne _ (by decide)] at h; exact h)), (fun h => HFF.out.2.2.2.2.2.2.2.2.2.2.2.2 (by rw [getD_set_ne _ (by decide)] at h; exact h)), ?_, fun _ => rfl, ?_⟩
          · intro h; rw [getD_set_ne _ (by decide), n13] at h; cases h
          · intro h; rw [getD_set_ne _ (by decide), n13] at h; cases h
        · -- operation 7
          cases ho
          have n13 : li.getD 13 false = false := by
            cases hx : li.getD 13 false
            · rfl
            · have := HK.out.1 hx 7 (by omega)
              rw [get_def this] at hun; cases hun
          obtain rfl := HK.out.2.1 n13
          have e6 := f6 (HAF.out ⟨6, .data⟩ (by simp) rfl)
          have HFF := Lib.hid (And.intro f0 ( And.intro f1 ( And.intro f2 ( And.intro f3 ( And.intro f4 ( And.intro f5 ( And.intro f6 ( And.intro f7 ( And.intro f8 ( And.intro f9 ( And.intro f10 ( And.intro f11 (f12)))))))))))))
          clear f0 f1 f2 f3 f4 f5 f6 f7 f8 f9 f10 f11 f12 hun
          refine Ri9In.wpOpIn_list rfl ?_
          gi_wp2
          refine (HJ.out _ _ _).2 ⟨fun x => if x = 7 then .int .i64 ((k : Int) + 1) else v x, by simp [e6], (fun h => HFF.out.1 (by rw [getD_set_ne _ (by decide)] at h; exact h)), (fun h => HFF.out.2.1 (by rw [getD_set_ne _ (by decide)] at h; exact h)), (fun h => HFF.out.2.2.1 (by rw [getD_set_ne _ (by decide)] at h; exact h)), (fun h => HFF.out.2.2.2.1 (by rw [getD_set_ne _ (by decide)] at h; exact h)), (fun h => HFF.out.2.2.2.2.1 (by rw [getD_set_ne _ (by decide)] at h; exact h)), (fun h => HFF.out.2.2.2.2.2.1 (by rw [getD_set_ne _ (by decide)] at h; exact h)), (fun h => HFF.out.2.2.2.2.2.2.1 (by rw [getD_set_ne _ (by decide)] at h; exact h)), (fun _ => rfl), (fun h => HFF.out.2.2.2.2.2.2.2.2.1 (by rw [getD_set_ne _ (by decide)] at h; exact h)), (fun h => HFF.out.2.2.2.2.2.2.2.2.2.1 (by rw [getD_set_ne _ (by decide)] at h; exact h)), (fun h => HFF.out.2.2.2.2.2.2.2.2.2.2.1 (by rw [getD_set_ne _ (by decide)] at h; exact h)), (fun h => HFF.out.2.2.2.2.2.2.2.2.2.2.2.1 (by rw [getD_set_ne _ (by decide)] at h; exact h)), (fun h => HFF.out.2.2.2.2.2.2.2.2.2.2.2.2 (by rw [getD_set_ne _ (by decide)] at h; exact h)), ?_, fun _ => rfl, ?_⟩
          · intro h; rw [getD_set_ne _ (by decide), n13] at h; cases h
          · intro h; rw [getD_set_ne _ (by decide), n13] at h; cases h
        · -- operation 8
          cases ho
          have n13 : li.getD 13 false = false := by
            cases hx : li.getD 13 false
            · rfl
            · have := HK.out.1 hx 8 (by omega)
              rw [get_def this] at hun; cases hun
          obtain rfl := HK.out.2.1 n13
          have HFF := Lib.hid (And.intro f0 ( And.intro f1 ( And.intro f2 ( And.intro f3 ( And.intro f4 ( And.intro f5 ( And.intro f6 ( And.intro f7 ( And.intro f8 ( And.intro f9 ( And.intro f10 ( And.intro f11 (f12)))))))))))))
          clear f0 f1 f2 f3 f4 f5 f6 f7 f8 f9 f10 f11 f12 hun
          refine Ri9In.wpOpIn_list rfl ?_
          gi_wp2
          refine (HJ.out _ _ _).2 ⟨fun x => if x = 8 then .int .i64 (m : Int) else v x, by simp [], (fun h => HFF.out.1 (by rw [getD_set_ne _ (by decide)] at h; exact h)), (fun h => HFF.out.2.1 (by rw [getD_set_ne _ (by decide)] at h; exact h)), (fun h => HFF.out.2.2.1 (by rw [getD_set_ne _ (by decide)] at h; exact h)), (fun h => HFF.out.2.2.2.1 (by rw [getD_set_ne _ (by decide)] at h; exact h)), (fun h => HFF.out.2.2.2.2.1 (by rw [getD_set_ne _ (by decide)] at h; exact h)), (fun h => HFF.out.2.2.2.2.2.1 (by rw [getD_set_ne _ (by decide)] at h; exact h)), (fun h => HFF.out.2.2.2.2.2.2.1 (by rw [getD_set_ne _ (by decide)] at h; exact h)), (fun h => HFF.out.2.2.2.2.2.2.2.1 (by rw [getD_set_ne _ (by decide)] at h; exact h)), (fun _ => rfl), (fun h => HFF.out.2.2.2.2.2.2.2.2.2.1 (by rw [getD_set_ne _ (by decide)] at h; exact h)), (fun h => HFF.out.2.2.2.2.2.2.2.2.2.2.1 (by rw [getD_set_ne _ (by decide)] at h; exact h)), (fun h => HFF.out.2.2.2.2.2.2.2.2.2.2.2.1 (by rw [getD_set_ne _ (by decide)] at h; exact h)), (fun h => HFF.out.2.2.2.2.2.2.2.2.2.2.2.2 (by rw [getD_set_ne _ (by decide)] at h; exact h)), ?_, fun _ => rfl, ?_⟩
          · intro h; rw [getD_set_ne _ (by decide), n13] at h; cases h
          · intro h; rw [getD_set_ne _ (by decide), n13] at h; cases h
        · -- operation 9
          cases ho
          have n13 : li.getD 13 false = false := by
            cases hx : li.getD 13 false
            · rfl
            · have := HK.out.1 hx 9 (by omega)
              rw [get_def this] at hun; cases hun
          obtain rfl := HK.out.2.1 n13
          have e7 := f7 (HAF.out ⟨7, .data⟩ (by simp) rfl)
          have e8 := f8 (HAF.out ⟨8, .data⟩ (by simp) rfl)
          have HFF := Lib.hid (And.intro f0 ( And.intro f1 ( And.intro f2 ( And.intro f3 ( And.intro f4 ( And.intro f5 ( And.intro f6 ( And.intro f7 ( And.intro f8 ( And.intro f9 ( And.intro f10 ( And.intro f11 (f12)))))))))))))
          clear f0 f1 f2 f3 f4 f5 f6 f7 f8 f9 f10 f11 f12 hun
          refine Ri9In.wpOpIn_list rfl ?_
          gi_wp2
          refine (HJ.out _ _ _).2 ⟨fun x => if x = 9 then .int .i64 B else v x, by simp [e7, e8], (fun h => HFF.out.1 (by rw [getD_set_ne _ (by decide)] at h; exact h)), (fun h => HFF.out.2.1 (by rw [getD_set_ne _ (by decide)] at h; exact h)), (fun h => HFF.out.2.2.1 (by rw [getD_set_ne _ (by decide)] at h; exact h)), (fun h => HFF.out.2.2.2.1 (by rw [getD_set_ne _ (by decide)] at h; exact h)), (fun h => HFF.out.2.2.2.2.1 (by rw [getD_set_ne _ (by decide)] at h; exact h)), (fun h => HFF.out.2.2.2.2.2.1 (by rw [getD_set_ne _ (by decide)] at h; exact h)), (fun h => HFF.out.2.2.2.2.2.2.1 (by rw [getD_set_ne _ (by decide)] at h; exact h)), (fun h => HFF.out.2.2.2.2.2.2.2.1 (by rw [getD_set_ne _ (by decide)] at h; exact h)), (fun h => HFF.out.2.2.2.2.2.2.2.2.1 (by rw [getD_set_ne _ (by decide)] at h; exact h)), (fun _ => rfl), (fun h => HFF.out.2.2.2.2.2.2.2.2.2.2.1 (by rw [getD_set_ne _ (by decide)] at h; exact h)), (fun h => HFF.out.2.2.2.2.2.2.2.2.2.2.2.1 (by rw [getD_set_ne _ (by decide)] at h; exact h)), (fun h => HFF.out.2.2.2.2.2.2.2.2.2.2.2.2 (by rw [getD_set_ne _ (by decide)] at h; exact h)), ?_, fun _ => rfl, ?_⟩
          · intro h; rw [getD_set_ne _ (by decide), n13] at h; cases h
          · intro h; rw [getD_set_ne _ (by decide), n13] at h; cases h
        · -- operation 10
          cases ho
          have n13 : li.getD 13 false = false := by
            cases hx : li.getD 13 false
            · rfl
            · have := HK.out.1 hx 10 (by omega)
              rw [get_def this] at hun; cases hun
          obtain rfl := HK.out.2.1 n13
          have HFF := Lib.hid (And.intro f0 ( And.intro f1 ( And.intro f2 ( And.intro f3 ( And.intro f4 ( And.intro f5 ( And.intro f6 ( And.intro f7 ( And.intro f8 ( And.intro f9 ( And.intro f10 ( And.intro f11 (f12)))))))))))))
          clear f0 f1 f2 f3 f4 f5 f6 f7 f8 f9 f10 f11 f12 hun
          refine Ri9In.wpOpIn_list rfl ?_
          gi_wp2
          refine (HJ.out _ _ _).2 ⟨fun x => if x = 10 then .int .i64 (n : Int) else v x, by simp [], (fun h => HFF.out.1 (by rw [getD_set_ne _ (by decide)] at h; exact h)), (fun h => HFF.out.2.1 (by rw [getD_set_ne _ (by decide)] at h; exact h)), (fun h => HFF.out.2.2.1 (by rw [getD_set_ne _ (by decide)] at h; exact h)), (fun h => HFF.out.2.2.2.1 (by rw [getD_set_ne _ (by decide)] at h; exact h)), (fun h => HFF.out.2.2.2.2.1 (by rw [getD_set_ne _ (by decide)] at h; exact h)), (fun h => HFF.out.2.2.2.2.2.1 (by rw [getD_set_ne _ (by decide)] at h; exact h)), (fun h => HFF.out.2.2.2.2.2.2.1 (by rw [getD_set_ne _ (by decide)] at h; exact h)), (fun h => HFF.out.2.2.2.2.2.2.2.1 (by rw [getD_set_ne _ (by decide)] at h; exact h)), (fun h => HFF.out.2.2.2.2.2.2.2.2.1 (by rw [getD_set_ne _ (by decide)] at h; exact h)), (fun h => HFF.out.2.2.2.2.2.2.2.2.2.1 (by rw [getD_set_ne _ (by decide)] at h; exact h)), (fun _ => rfl), (fun h => HFF.out.2.2.2.2.2.2.2.2.2.2.2.1 (by rw [getD_set_ne _ (by decide)] at h; exact h)), (fun h => HFF.out.2.2.2.2.2.2.2.2.2.2.2.2 (by rw [getD_set_ne _ (by decide)] at h; exact h)), ?_, fun _ => rfl, ?_⟩
          · intro h; rw [getD_set_ne _ (by decide), n13] at h; cases h
          · intro h; rw [getD_set_ne _ (by decide), n13] at h; cases h
        · -- operation 11
          cases ho
          have n13 : li.getD 13 false = false := by
            cases hx : li.getD 13 false
            · rfl
            · have := HK.out.1 hx 11 (by omega)
              rw [get_def this] at hun; cases hun
          obtain rfl := HK.out.2.1 n13
          have e9 := f9 (HAF.out ⟨9, .data⟩ (by simp) rfl)
          have e10 := f10 (HAF.out ⟨10, .data⟩ (by simp) rfl)
          have HFF := Lib.hid (And.intro f0 ( And.intro f1 ( And.intro f2 ( And.intro f3 ( And.intro f4 ( And.intro f5 ( And.intro f6 ( And.intro f7 ( And.intro f8 ( And.intro f9 ( And.intro f10 ( And.intro f11 (f12)))))))))))))
          clear f0 f1 f2 f3 f4 f5 f6 f7 f8 f9 f10 f11 f12 hun
          refine Ri9In.wpOpIn_list rfl ?_
          gi_wp2
          refine (HJ.out _ _ _).2 ⟨fun x => if x = 11 then .int .i64 (s1 : Int) else v x, by simp [e9, e10], (fun h => HFF.out.1 (by rw [getD_set_ne _ (by decide)] at h; exact h)), (fun h => HFF.out.2.1 (by rw [getD_set_ne _ (by decide)] at h; exact h)), (fun h => HFF.out.2.2.1 (by rw [getD_set_ne _ (by decide)] at h; exact h)), (fun h => HFF.out.2.2.2.1 (by rw [getD_set_ne _ (by decide)] at h; exact h)), (fun h => HFF.out.2.2.2.2.1 (by rw [getD_set_ne _ (by decide)] at h; exact h)), (fun h => HFF.out.2.2.2.2.2.1 (by rw [getD_set_ne _ (by decide)] at h; exact h)), (fun h => HFF.out.2.2.2.2.2.2.1 (by rw [getD_set_ne _ (by decide)] at h; exact h)), (fun h => HFF.out.2.2.2.2.2.2.2.1 (by rw [getD_set_ne _ (by decide)] at h; exact h)), (fun h => HFF.out.2.2.2.2.2.2.2.2.1 (by rw [getD_set_ne _ (by decide)] at h; exact h)), (fun h => HFF.out.2.2.2.2.2.2.2.2.2.1 (by rw [getD_set_ne _ (by decide)] at h; exact h)), (fun h => HFF.out.2.2.2.2.2.2.2.2.2.2.1 (by rw [getD_set_ne _ (by decide)] at h; exact h)), (fun _ => rfl), (fun h => HFF.out.2.2.2.2.2.2.2.2.2.2.2.2 (by rw [getD_set_ne _ (by decide)] at h; exact h)), ?_, fun _ => rfl, ?_⟩
          · intro h; rw [getD_set_ne _ (by decide), n13] at h; cases h
          · intro h; rw [getD_set_ne _ (by decide), n13] at h; cases h
        · -- operation 12
          cases ho
          have n13 : li.getD 13 false = false := by
            cases hx : li.getD 13 false
            · rfl
            · have := HK.out.1 hx 12 (by omega)
              rw [get_def this] at hun; cases hun
          obtain rfl := HK.out.2.1 n13
          have e5 := f5 (HAF.out ⟨5, .data⟩ (by simp) rfl)
          have e11 := f11 (HAF.out ⟨11, .data⟩ (by simp) rfl)
          have HFF := Lib.hid (And.intro f0 ( And.intro f1 ( And.intro f2 ( And.intro f3 ( And.intro f4 ( And.intro f5 ( And.intro f6 ( And.intro f7 ( And.intro f8 ( And.intro f9 ( And.intro f10 ( And.intro f11 (f12)))))))))))))
          clear f0 f1 f2 f3 f4 f5 f6 f7 f8 f9 f10 f11 f12 hun
          refine Ri9In.wpOpIn_list rfl ?_
          gi_wp2
          refine (HJ.out _ _ _).2 ⟨fun x => if x = 12 then .agg #[.int .i64 (s0 : Int), .int .i64 (s1 : Int)] else v x, by simp [e5, e11], (fun h => HFF.out.1 (by rw [getD_set_ne _ (by decide)] at h; exact h)), (fun h => HFF.out.2.1 (by rw [getD_set_ne _ (by decide)] at h; exact h)), (fun h => HFF.out.2.2.1 (by rw [getD_set_ne _ (by decide)] at h; exact h)), (fun h => HFF.out.2.2.2.1 (by rw [getD_set_ne _ (by decide)] at h; exact h)), (fun h => HFF.out.2.2.2.2.1 (by rw [getD_set_ne _ (by decide)] at h; exact h)), (fun h => HFF.out.2.2.2.2.2.1 (by rw [getD_set_ne _ (by decide)] at h; exact h)), (fun h => HFF.out.2.2.2.2.2.2.1 (by rw [getD_set_ne _ (by decide)] at h; exact h)), (fun h => HFF.out.2.2.2.2.2.2.2.1 (by rw [getD_set_ne _ (by decide)] at h; exact h)), (fun h => HFF.out.2.2.2.2.2.2.2.2.1 (by rw [getD_set_ne _ (by decide)] at h; exact h)), (fun h => HFF.out.2.2.2.2.2.2.2.2.2.1 (by rw [getD_set_ne _ (by decide)] at h; exact h)), (fun h => HFF.out.2.2.2.2.2.2.2.2.2.2.1 (by rw [getD_set_ne _ (by decide)] at h; exact h)), (fun h => HFF.out.2.2.2.2.2.2.2.2.2.2.2.1 (by rw [getD_set_ne _ (by decide)] at h; exact h)), (fun _ => rfl), ?_, fun _ => rfl, ?_⟩
          · intro h; rw [getD_set_ne _ (by decide), n13] at h; cases h
          · intro h; rw [getD_set_ne _ (by decide), n13] at h; cases h
        · -- operation 13
          cases ho
          have HUN := Lib.hid hun
          have n13 : li.getD 13 false = false := by
            cases hx : li.getD 13 false
            · rfl
            · rw [get_def hx] at hun; cases hun
          obtain rfl := HK.out.2.1 n13
          have c0 := HAF.out ⟨0, .data⟩ (by simp) rfl
          have c12 := HAF.out ⟨12, .data⟩ (by simp) rfl
          have c5 : li.getD 5 false = true := HC.out 12 _ rfl c12 ⟨5, .data⟩ (by simp) rfl
          have c11 : li.getD 11 false = true := HC.out 12 _ rfl c12 ⟨11, .data⟩ (by simp) rfl
          have c3 : li.getD 3 false = true := HC.out 5 _ rfl c5 ⟨3, .data⟩ (by simp) rfl
          have c4 : li.getD 4 false = true := HC.out 5 _ rfl c5 ⟨4, .data⟩ (by simp) rfl
          have c1 : li.getD 1 false = true := HC.out 3 _ rfl c3 ⟨1, .data⟩ (by simp) rfl
          have c2 : li.getD 2 false = true := HC.out 3 _ rfl c3 ⟨2, .data⟩ (by simp) rfl
          have c9 : li.getD 9 false = true := HC.out 11 _ rfl c11 ⟨9, .data⟩ (by simp) rfl
          have c10 : li.getD 10 false = true := HC.out 11 _ rfl c11 ⟨10, .data⟩ (by simp) rfl
          have c7 : li.getD 7 false = true := HC.out 9 _ rfl c9 ⟨7, .data⟩ (by simp) rfl
          have c8 : li.getD 8 false = true := HC.out 9 _ rfl c9 ⟨8, .data⟩ (by simp) rfl
          have c6 : li.getD 6 false = true := HC.out 7 _ rfl c7 ⟨6, .data⟩ (by simp) rfl
          have n14 : li.getD 14 false = false := by
            cases hx : li.getD 14 false
            · rfl
            · have := HC.out 14 _ rfl hx ⟨13, .data⟩ (by simp) rfl
              rw [n13] at this; cases this
          have e0 := f0 c0
          have e12 := f12 c12
          have HFF := Lib.hid (And.intro f0 ( And.intro f1 ( And.intro f2 ( And.intro f3 ( And.intro f4 ( And.intro f5 ( And.intro f6 ( And.intro f7 ( And.intro f8 ( And.intro f9 ( And.intro f10 ( And.intro f11 (f12)))))))))))))
          have HCC := Lib.hid (And.intro c0 ( And.intro c1 ( And.intro c2 ( And.intro c3 ( And.intro c4 ( And.intro c5 ( And.intro c6 ( And.intro c7 ( And.intro c8 ( And.intro c9 ( And.intro c10 ( And.intro c11 (c12)))))))))))))
          clear f0 f1 f2 f3 f4 f5 f6 f7 f8 f9 f10 f11 f12 c0 c1 c2 c3 c4 c5 c6 c7 c8 c9 c10 c11 c12 hun
          refine Ri9In.wpOpIn_list rfl ?_
          gi_wp2_with (refine hR2.mono ?_; rintro e W3 ⟨bb, rfl, hbb⟩)
          refine (HJ.out _ _ _).2 ⟨fun x => if x = 13 then .bool bb else v x, by simp [e0, e12], (fun h => HFF.out.1 (by rw [getD_set_ne _ (by decide)] at h; exact h)), (fun h => HFF.out.2.1 (by rw [getD_set_ne _ (by decide)] at h; exact h)), (fun h => HFF.out.2.2.1 (by rw [getD_set_ne _ (by decide)] at h; exact h)), (fun h => HFF.out.2.2.2.1 (by rw [getD_set_ne _ (by decide)] at h; exact h)), (fun h => HFF.out.2.2.2.2.1 (by rw [getD_set_ne _ (by decide)] at h; exact h)), (fun h => HFF.out.2.2.2.2.2.1 (by rw [getD_set_ne _ (by decide)] at h; exact h)), (fun h => HFF.out.2.2.2.2.2.2.1 (by rw [getD_set_ne _ (by decide)] at h; exact h)), (fun h => HFF.out.2.2.2.2.2.2.2.1 (by rw [getD_set_ne _ (by decide)] at h; exact h)), (fun h => HFF.out.2.2.2.2.2.2.2.2.1 (by rw [getD_set_ne _ (by decide)] at h; exact h)), (fun h => HFF.out.2.2.2.2.2.2.2.2.2.1 (by rw [getD_set_ne _ (by decide)] at h; exact h)), (fun h => HFF.out.2.2.2.2.2.2.2.2.2.2.1 (by rw [getD_set_ne _ (by decide)] at h; exact h)), (fun h => HFF.out.2.2.2.2.2.2.2.2.2.2.2.1 (by rw [getD_set_ne _ (by decide)] at h; exact h)), (fun h => HFF.out.2.2.2.2.2.2.2.2.2.2.2.2 (by rw [getD_set_ne _ (by decide)] at h; exact h)), ?_, ?_, ?_⟩
          · intro _ j hj
            obtain ⟨c0, c1, c2, c3, c4, c5, c6, c7, c8, c9, c10, c11, c12⟩ := HCC.out
            rw [getD_set_ne _ (by omega)]
            rcases j with _ | _ | _ | _ | _ | _ | _ | _ | _ | _ | _ | _ | _ | j <;> first | assumption | (exfalso; omega)
          · intro h
            rw [get_set HUN.out] at h; cases h
          · intro _
            refine ⟨bb, rfl, hbb, fun h => ?_⟩
            rw [getD_set_ne _ (by decide), n14] at h; cases h
        · -- operation 14
          cases ho
          have c13 := HAF.out ⟨13, .data⟩ (by simp) rfl
          obtain ⟨bb, e13, hbb, _⟩ := HK.out.2.2 c13
          have hall := HK.out.1 c13
          have HFF := Lib.hid (And.intro f0 ( And.intro f1 ( And.intro f2 ( And.intro f3 ( And.intro f4 ( And.intro f5 ( And.intro f6 ( And.intro f7 ( And.intro f8 ( And.intro f9 ( And.intro f10 ( And.intro f11 (f12)))))))))))))
          clear f0 f1 f2 f3 f4 f5 f6 f7 f8 f9 f10 f11 f12 hun
          refine Ri9In.wpOpIn_list rfl ?_
          gi_wp2
          refine (HJ.out _ _ _).2 ⟨fun x => if x = 14 then .bool (!bb) else v x, by simp [e13], (fun h => HFF.out.1 (by rw [getD_set_ne _ (by decide)] at h; exact h)), (fun h => HFF.out.2.1 (by rw [getD_set_ne _ (by decide)] at h; exact h)), (fun h => HFF.out.2.2.1 (by rw [getD_set_ne _ (by decide)] at h; exact h)), (fun h => HFF.out.2.2.2.1 (by rw [getD_set_ne _ (by decide)] at h; exact h)), (fun h => HFF.out.2.2.2.2.1 (by rw [getD_set_ne _ (by decide)] at h; exact h)), (fun h => HFF.out.2.2.2.2.2.1 (by rw [getD_set_ne _ (by decide)] at h; exact h)), (fun h => HFF.out.2.2.2.2.2.2.1 (by rw [getD_set_ne _ (by decide)] at h; exact h)), (fun h => HFF.out.2.2.2.2.2.2.2.1 (by rw [getD_set_ne _ (by decide)] at h; exact h)), (fun h => HFF.out.2.2.2.2.2.2.2.2.1 (by rw [getD_set_ne _ (by decide)] at h; exact h)), (fun h => HFF.out.2.2.2.2.2.2.2.2.2.1 (by rw [getD_set_ne _ (by decide)] at h; exact h)), (fun h => HFF.out.2.2.2.2.2.2.2.2.2.2.1 (by rw [getD_set_ne _ (by decide)] at h; exact h)), (fun h => HFF.out.2.2.2.2.2.2.2.2.2.2.2.1 (by rw [getD_set_ne _ (by decide)] at h; exact h)), (fun h => HFF.out.2.2.2.2.2.2.2.2.2.2.2.2 (by rw [getD_set_ne _ (by decide)] at h; exact h)), ?_, ?_, ?_⟩
          · intro _ j hj
            rw [getD_set_ne _ (by omega)]
            exact hall j hj
          · intro h; rw [getD_set_ne _ (by decide), c13] at h; cases h
          · intro _
            exact ⟨bb, by simp [e13], hbb, fun _ => rfl⟩
        · exact absurd ho (by simp)
      · intro li a wx hJ3 hall
        obtain ⟨v, rfl, f0, f1, f2, f3, f4, f5, f6, f7, f8, f9, f10, f11, f12, k13, k14, k15⟩ := (HJ.out _ _ _).1 hJ3
        have hal : ∀ j, j < 15 → li.getD j false = true := fun j hj => hall j hj
        obtain ⟨bb, e13, hbb, e14⟩ := k15 (hal 13 (by omega))
        have e14 := e14 (hal 14 (by omega))
        clear k13 k14 k15 hall hJ3 hal f0 f1 f2 f3 f4 f5 f6 f7 f8 f9 f10 f11 f12
        rw [HH.out] at hbb
        rcases hbb with ⟨rfl, hJ3, hk3⟩ | ⟨rfl, hJx3⟩
        · have cm3 : wx.cell? ⟨Bm, 0, none⟩ = some (.int .i64 (m : Int)) := (hk3 Bm (.inl rfl)).trans cm
          have cn3 : wx.cell? ⟨Bn, 0, none⟩ = some (.int .i64 (n : Int)) := (hk3 Bn (.inr rfl)).trans cn
          have e14b : v 14 = .bool false := e14
          rw [e14b]
          clear e14
          gi_wp2
          go_roundw
          case rel => exact ⟨k + 1, pre ++ [⟨k, hlt⟩], by go_num, by omega, by rw [List.map_append, HP.out, List.range_succ]; rfl, hJ3, cm3, cn3⟩
          case measure => simp [intOf]; omega
        · have e14b : v 14 = .bool true := e14
          rw [e14b]
          clear e14
          gi_wp2
          refine bodyPost_ret (results_none rfl _ _ _) rfl ?_
          exact ⟨⟨_, rfl⟩, .inr ⟨pre ++ [⟨k, hlt⟩], trivial, hJx3⟩⟩
    · obtain rfl : k = n := by omega
      gi_wp2
      go_end0
      exact ⟨⟨_, rfl⟩, .inl ⟨pre, hpre, hJs⟩⟩
end Go.Proofs.Ytmgdoglnckkobaa.Pc
namespace Go.Proofs.Ytmgdoglnckkobaa.Pc
open Go.RowKit Go.Shelf Wo Sr Wi
set_option linter.unusedVariables false
attribute [local go_sem] Oper.semAt_some
theorem div_in (F : Fence) (d : Nat) (hf : F.fn 96) (hro : F.round = none) (m n : Int) (w : World) :
    CallsIn F d Try.prog 96 #[.int .i64 m, .int .i64 n] w fun e w' => e = .returned (.func (.func 116) #[] #[.pointer (some ⟨w.heap.size + 1, 0, none⟩), .pointer (some ⟨w.heap.size, 0, none⟩)]) ∧ w' = (w.alloc (.cells #[.int .i64 m] 3)).alloc (.cells #[.int .i64 n] 3) := by
  refine callsIn_of_wp Try.func96 rfl hf ?_ hro
  simp only [Try.ntmps96, List.size_toArray, List.length_cons, List.length_nil, Nat.reduceAdd, Nat.reduceSub, Array.replicate_succ, Array.replicate_zero, List.push_toArray, List.append_toArray, List.nil_append, List.cons_append]
  gi_wp2
  go_ret
  exact ⟨by simp, rfl⟩
theorem div_stops (F : Fence) (d : Nat) (hf : F.fn 116) (hro : F.round = none) (hd : 1 ≤ d) (Bm Bn m n : Nat) (n1 : 1 ≤ n) (n8 : n ≤ 8) (m32 : m ≤ 32) (w : World) (hm : Bm < w.heap.size) (hn : Bn < w.heap.size)
    (hBm : w.cell? ⟨Bm, 0, none⟩ = some (.int .i64 (m : Int))) (hBn : w.cell? ⟨Bn, 0, none⟩ = some (.int .i64 (n : Int))) :
    SeqStopsK F d Try.prog 116 #[.pointer (some ⟨Bn, 0, none⟩), .pointer (some ⟨Bm, 0, none⟩)] (enp m n) (Kpc Bm Bn) (fun ys => ys.map Fin.val = List.range n) (fun _ => True) n w := fun l J Jx W hW hJ _ hY h0 =>
  div1_in F d hf hro hd l Bm Bn m n n1 n8 m32 J Jx W hJ hY ((hW.cell (p := ⟨Bm, 0, none⟩) hm).trans hBm) ((hW.cell (p := ⟨Bn, 0, none⟩) hn).trans hBn) h0
theorem kpc_t {Bm Bn : Nat} {A B C : World} (h : Kpc Bm Bn A B) (k : Kpc Bm Bn B C) : Kpc Bm Bn A C := fun b hb => (k b hb).trans (h b hb)
theorem kpc_b {Bm Bn n₀ : Nat} (hm : Bm < n₀) (hn : Bn < n₀) (W : World) (l : Nat) (o o' : Obj) (hl : n₀ ≤ l) (_ : W.heap[l]? = some o) (_ : o.isCells = false) (_ : o.isWalk = false) : Kpc Bm Bn W (W.putObj l o') := fun b hb => by
  have hbl : b ≠ l := by rcases hb with rfl | rfl <;> omega
  apply World.cell?_of_block
  unfold World.putObj
  simp [hbl.symm]
theorem kpc_bl {Bm Bn n₀ : Nat} (hm : Bm < n₀) (hn : Bn < n₀) {W W' : World} (h : Below n₀ W W') : Kpc Bm Bn W W' := fun b hb => h.cell (p := ⟨b, 0, none⟩) (by rcases hb with rfl | rfl <;> assumption)
/-- the starts of the pieces that have come -/
def stl (m n : Nat) (pre : List (Fin n)) : List Int := pre.map fun x => (st m n x.val : Int)
theorem info_i : (Try.prog.info? 3).map (fun i => (i.zero, i.size, i.bytes)) = some (some (.int .i64 0), 1, 8) := by kernel_rfl
theorem own_ne {W : World} {base k size : Nat} {e : TypeId} {v : Value} {xs : List Value} (h : W.ownsRow base e size v k xs) {b : Nat} (hb : b < base) : some b ≠ v.ownBlock := by
  intro hg
  rcases h.2 with ⟨rfl, _⟩ | ⟨g, cap, cur, rfl, hh, _⟩
  · cases hg
  · injection hg with hg
    have : b = g := hg
    omega
theorem own_nd {W : World} {base k size : Nat} {e : TypeId} {v : Value} {xs : List Value} (h : W.ownsRow base e size v k xs) {b : Nat} {o : Obj} (hb : W.heap[b]? = some o) (ho : o.isCells = false) : some b ≠ v.ownBlock := by
  intro hg
  rcases h.2 with ⟨rfl, _⟩ | ⟨g, cap, cur, rfl, _, hh, _⟩
  · cases hg
  · injection hg with hg
    have : b = g := hg
    subst this
    rw [hb] at hh
    cases hh
    cases ho
theorem own_lo {w : World} {base base' size n : Nat} {e : TypeId} {v : Value} {xs : List Value} (h : w.ownsRow base e size v n xs) (hb : base' ≤ base) : w.ownsRow base' e size v n xs := by
  refine ⟨h.1, ?_⟩
  rcases h.2 with hn | ⟨g, cap, cur, rfl, hbb, rest⟩
  · exact .inl hn
  · exact .inr ⟨g, cap, cur, rfl, by omega, rest⟩
theorem cell_lt {W : World} {b k : Nat} {v : Value} (h : W.cell? ⟨b, k, none⟩ = some v) : b < W.heap.size := by
  obtain ⟨o, ho, _⟩ := cells_of_cell h
  exact (Array.getElem?_eq_some_iff.1 ho).1
set_option maxRecDepth 100000 in
set_option maxHeartbeats 2000000 in
theorem starts_in (F : Fence) (d : Nat) (h3 : F.fn 70) (h4 : F.fn 96) (h5 : F.fn 116) (hro : F.round = none) (hd : 3 ≤ d) (m n : Nat) (n1 : 1 ≤ n) (n8 : n ≤ 8) (m32 : m ≤ 32) (w : World) :
    CallsIn F d Try.prog 70 #[.int .i64 (m : Int), .int .i64 (n : Int)] w fun e W' => ∃ v, e = .returned v ∧ W'.ownsRow w.heap.size 3 1 v (n + 1) (zs ((List.range n).map (fun k => (st m n k : Int)) ++ [(m : Int)])) ∧ Below w.heap.size w W' := by
  have h1 : 1 ≤ d := by omega
  obtain ⟨i0, hi, hz0, hz1, hz2⟩ := info_parts info_i
  refine callsIn_of_wp_marks Try.func70 rfl h3 ?_ hro
  simp only [Try.ntmps70, List.size_toArray, List.length_cons, List.length_nil, Nat.reduceAdd, Nat.reduceSub, Array.replicate_succ, Array.replicate_zero, List.push_toArray, List.append_toArray, List.nil_append, List.cons_append]
  gi_wp2_with (gi_at_call 96; refine (div_in F (d - 1) h4 hro _ _ _).mono ?_; rintro e w' ⟨rfl, rfl⟩)
  have bO := Boxed.new w 22 (.slice none 0 0)
  have bM := Boxed.new (w.alloc (.cells #[.slice none 0 0] 22)) 3 (.int .i64 (m : Int))
  have bN := Boxed.new ((w.alloc (.cells #[.slice none 0 0] 22)).alloc (.cells #[.int .i64 (m : Int)] 3)) 3 (.int .i64 (n : Int))
  simp only [World.size_alloc] at bM bN
  have hB0 : Below w.heap.size w (((w.alloc (.cells #[.slice none 0 0] 22)).alloc (.cells #[.int .i64 (m : Int)] 3)).alloc (.cells #[.int .i64 (n : Int)] 3)) := (((Below.refl _ w).alloc (Nat.le_refl _) _).alloc (by simp) _).alloc (by simp; omega) _
  refine wpIn_rangeFunc_ownH hro h1 (gf := 116) (lb := #[.pointer (some ⟨w.heap.size + 1 + 1, 0, none⟩), .pointer (some ⟨w.heap.size + 1, 0, none⟩)]) rfl h5 (enters_of Try.func116 (by kernel_rfl) rfl)
    (div_stops F (d - 1) h5 hro (by omega) (w.heap.size + 1) (w.heap.size + 1 + 1) m n n1 n8 m32 _ (by simp) (by simp) (bM.alloc _).cell bN.cell) kpc_t (fun W l o o' hl h2 h3 h4 => kpc_b (n₀ := w.heap.size + 1 + 1 + 1) (by omega) (by omega) W l o o' (by simp at hl; omega) h2 h3 h4) (Below.refl _ _) (fun _ => rfl)
    (fun pre W => ((∃ v, Boxed W w.heap.size 22 v ∧ W.ownsRow (w.heap.size + 1 + 1 + 1) 3 1 v pre.length (zs (stl m n pre)) ∧ True) ∧ W.cell? ⟨w.heap.size + 1 + 1, 0, none⟩ = some (.int .i64 (n : Int))) ∧ Below w.heap.size w W)
    (fun _ _ _ => False)
    (OwnFrom.and (OwnFrom.and (Own.from (holdsRow_own (w.heap.size + 1 + 1 + 1) w.heap.size 22 3 1 (fun pre => pre.length) (fun pre => zs (stl m n pre)) (fun _ _ => True)) _) (fun s A B row h hg hr => cell_kept h hg (fun r e => (hr r e).2))) (ownFrom_below (Nat.le_refl _) (by simp; omega)))
    (fun _ _ _ _ _ hs _ _ => hs)
    ⟨⟨⟨_, (bO.alloc _).alloc _, World.ownsRow_nil _ _ _ _, trivial⟩, bN.cell⟩, hB0⟩
    (fun x a' W => ∃ Bx, w.heap.size + 1 + 1 + 1 ≤ Bx ∧ W.cell? ⟨Bx, 0, none⟩ = some (.int .i64 (st m n x.val : Int)) ∧ a' = { tmps := #[.int .i64 (m : Int), .int .i64 (n : Int), undef, undef, .slice none 0 0, .pointer (some ⟨w.heap.size, 0, none⟩), .pointer (some ⟨Bx, 0, none⟩), .int .i64 (m : Int), .int .i64 (n : Int), .func (.func 116) #[] #[.pointer (some ⟨w.heap.size + 1 + 1, 0, none⟩), .pointer (some ⟨w.heap.size + 1, 0, none⟩)], .agg #[.int .i64 (st m n x.val : Int), .int .i64 (st m n (x.val + 1) : Int)], undef, undef, undef, undef, undef, undef, undef, undef, undef], defers := [] })
    (fun x a' _ A B row hs hg hr => by obtain ⟨Bx, q1, q2, q3⟩ := hs; exact ⟨Bx, q1, cell_kept q2 hg (fun r e => (hr r e).2), q3⟩)
    ?assign ?body ?done ?stop
  case assign =>
    rintro l pre x W K ⟨⟨⟨v, hv, hrow, _⟩, hcn⟩, hB⟩ hK
    have hlt := cell_lt hcn
    unfold enp
    gi_wp2
    have hbw : Below (w.heap.size + 1 + 1 + 1) W (W.alloc (.cells #[.int .i64 (st m n x.val : Int), .int .i64 (st m n (x.val + 1) : Int)] 120)) := (Below.refl _ W).alloc (by omega) _
    exact hK _ _ ((KeepsOthers.alloc _ _).from _) (kpc_bl (n₀ := w.heap.size + 1 + 1 + 1) (by omega) (by omega) hbw) ⟨⟨⟨v, hv.alloc _, hrow.alloc _, trivial⟩, (hbw.cell (p := ⟨w.heap.size + 1 + 1, 0, none⟩) (by show w.heap.size + 1 + 1 < _; omega)).trans hcn⟩, hB.alloc hB.size _⟩ ⟨W.heap.size, by omega, by unfold World.cell?; rw [World.alloc_heap_new]; rfl, rfl⟩
  case body =>
    rintro l pre x a' W hl ⟨r, hr⟩ ⟨⟨⟨v, hv, hrow, _⟩, hcn⟩, hB⟩ ⟨Bx, hBx, hcx, rfl⟩ hlt
    have hc := hv.cell
    have hszx := cell_lt hcx
    have hszn := cell_lt hcn
    gi_wp2_with (gi_at_builtin; refine wpListIn_append_own _ rfl _ _ 22 rfl (w.heap.size + 1 + 1 + 1) 3 i0 (.int .i64 0) 1 8 Try.underlying22 hi hz0 hz1 hz2 rfl (by decide) _ _ _ rfl (hrow.alloc _) ⟨W.heap.size, 0, none⟩ 1 1 [.int .i64 (st m n x.val : Int)] rfl rfl (cell_one_new _ _ _) (by simp [Value.oneCell']) (by unfold maxLen; omega) (by omega) (by simp; omega) ?_; intro v' w1 hown' hgrow _; obtain ⟨g', cap', rfl⟩ := ownsRow_succ hown'; obtain ⟨hv1, hv2, hr2, hk2, hb2⟩ := hv.appended (by decide) (own_lo hrow (by omega)) hB.size (Nat.le_refl _) (own_lo hown' (by omega)) hgrow; have hc1 := hv1.cell; have hf1 := hv1.frozen)
    have hne := hgrow.block
    have kc : ∀ b, b = w.heap.size + 1 ∨ b = w.heap.size + 1 + 1 → (w1.setCell ⟨w.heap.size, 0, none⟩ (.slice (some ⟨g', 0, none⟩) (pre.length + 1) cap')).cell? ⟨b, 0, none⟩ = W.cell? ⟨b, 0, none⟩ := fun b hb => by
      have hb1 : b ≠ w.heap.size := by omega
      have hb2 : b < w.heap.size + 1 + 1 + 1 := by omega
      refine Eq.trans (by apply World.cell?_setCell_other; intro e; exact hb1 (congrArg Addr.block e).symm) ?_
      refine (World.cell?_of_block (hne b (by rw [World.size_alloc]; omega) (own_ne hrow hb2))).trans ?_
      exact World.cell?_of_block (Below.heap_alloc _ _ _ (by show b < _; omega))
    exact ⟨hk2.from _, kc, ⟨⟨_, hv2, by
      have e1 : (pre ++ [x]).length = pre.length + 1 := by simp
      have e2 : zs (stl m n (pre ++ [x])) = zs (stl m n pre) ++ [.int .i64 (st m n x.val : Int)] := by simp [zs, stl]
      rw [e1, e2]
      exact hown'.kept (grownBy_setCell' w1 _ _) (.inr (hv1.not_row (by decide) hown').symm), trivial⟩, (kc _ (.inr rfl)).trans hcn⟩, hB.trans hb2⟩
  case done =>
    rintro D ys W hD hys ⟨⟨⟨v, hv, hrow, _⟩, hcn⟩, hB⟩ hK
    have hc := hv.cell
    have hszn := cell_lt hcn
    have hly : ys.length = n := by have := congrArg List.length hys; simpa using this
    gi_wp2_with (gi_at_builtin; refine wpListIn_append_own _ rfl _ _ 22 rfl (w.heap.size + 1 + 1 + 1) 3 i0 (.int .i64 0) 1 8 Try.underlying22 hi hz0 hz1 hz2 rfl (by decide) _ _ _ rfl (hrow.alloc _) ⟨W.heap.size, 0, none⟩ 1 1 [.int .i64 (m : Int)] rfl rfl (cell_one_new _ _ _) (by simp [Value.oneCell']) (by unfold maxLen; omega) (by omega) (by simp; omega) ?_; intro v' w1 hown' hgrow _; obtain ⟨g', cap', rfl⟩ := ownsRow_succ hown')
    have hDl : D < W.heap.size := (Array.getElem?_eq_some_iff.1 hK).1
    have hK1 : w1.heap[D]? = some (.deferred (some [])) := (hgrow.block D (by rw [World.size_alloc]; omega) (own_nd hrow hK rfl)).trans ((Below.heap_alloc _ _ _ hDl).trans hK)
    refine ⟨by simp, .inl ⟨_, _, rfl, run_takeDeferred hK1, ?_⟩⟩
    have e1 : ys.length = n := hly
    have e2 : zs (stl m n ys) ++ [.int .i64 (m : Int)] = zs ((List.range n).map (fun k => (st m n k : Int)) ++ [(m : Int)]) := by
      rw [← hys]; simp [zs, stl]
    have hb2 : Below w.heap.size W w1 := ((Below.refl _ W).alloc hB.size _).trans ⟨hgrow.os, hgrow.tape, hgrow.output, hgrow.size, fun b hb => hgrow.block b (by have := hB.size; rw [World.size_alloc]; omega) (own_ne hrow (by omega))⟩
    rw [e1, e2] at hown'
    exact ⟨_, results_tmp rfl _ _ _, _, rfl, own_lo (ownsRow_putObj hown' _ hK1 rfl) (by omega), (hB.trans hb2).trans (belowK_b (w := w) (Nat.le_refl _) w1 D _ _ (by simp at hD; omega) hK1 rfl rfl)⟩
  case stop =>
    rintro D c pre W _ _ h _
    exact h.elim
end Go.Proofs.Ytmgdoglnckkobaa.Pc
namespace Go.Proofs.Ytmgdoglnckkobaa.Pc
open Go.RowKit Go.Shelf Wo Sr Wi
set_option linter.unusedVariables false
attribute [local go_sem] Oper.semAt_some
/-- the sums of the pieces that have come -/
def sgl (L : List Int) (m n : Nat) (pre : List (Fin n)) : List Int := pre.map fun x => pg L (st m n x.val) (st m n (x.val + 1))
theorem heap_set_ne (w : World) (p : Addr) (v : Value) {b : Nat} (h : b ≠ p.block) : (w.setCell p v).heap[b]? = w.heap[b]? := by
  exact Below.heap_setCell _ _ _ b h
set_option maxRecDepth 100000 in
set_option maxHeartbeats 2000000 in
theorem sums_in (F : Fence) (d : Nat) (h3 : F.fn 60) (h4 : F.fn 96) (h5 : F.fn 116) (hro : F.round = none) (hd : 3 ≤ d) (hx c m n : Nat) (L : List Int) (n1 : 1 ≤ n) (n8 : n ≤ 8) (m32 : m ≤ 32) (mc : m ≤ c) (nm : n ≤ m) (hL : ∀ x ∈ L, -64000 ≤ x ∧ x ≤ 64000) (w : World) (hz : Zi w (some ⟨hx, 0, none⟩) m L) (hxl : hx < w.heap.size) :
    CallsIn F d Try.prog 60 #[.slice (some ⟨hx, 0, none⟩) m c, .int .i64 (n : Int)] w fun e W' => ∃ v, e = .returned v ∧ W'.ownsRow w.heap.size 3 1 v n (zs (pls L m n)) ∧ Below w.heap.size w W' := by
  have h1 : 1 ≤ d := by omega
  obtain ⟨i0, hi, hz0, hz1, hz2⟩ := info_parts info_i
  refine callsIn_of_wp_marks Try.func60 rfl h3 ?_ hro
  simp only [Try.ntmps60, List.size_toArray, List.length_cons, List.length_nil, Nat.reduceAdd, Nat.reduceSub, Array.replicate_succ, Array.replicate_zero, List.push_toArray, List.append_toArray, List.nil_append, List.cons_append]
  gi_wp2_with (gi_at_call 96; refine (div_in F (d - 1) h4 hro _ _ _).mono ?_; rintro e w' ⟨rfl, rfl⟩)
  have bX := Boxed.new w 22 (.slice (some ⟨hx, 0, none⟩) m c)
  have bO := Boxed.new (w.alloc (.cells #[.slice (some ⟨hx, 0, none⟩) m c] 22)) 22 (.slice none 0 0)
  have bM := Boxed.new ((w.alloc (.cells #[.slice (some ⟨hx, 0, none⟩) m c] 22)).alloc (.cells #[.slice none 0 0] 22)) 3 (.int .i64 (m : Int))
  have bN := Boxed.new (((w.alloc (.cells #[.slice (some ⟨hx, 0, none⟩) m c] 22)).alloc (.cells #[.slice none 0 0] 22)).alloc (.cells #[.int .i64 (m : Int)] 3)) 3 (.int .i64 (n : Int))
  simp only [World.size_alloc] at bM bN bO
  have hB0 : Below w.heap.size w ((((w.alloc (.cells #[.slice (some ⟨hx, 0, none⟩) m c] 22)).alloc (.cells #[.slice none 0 0] 22)).alloc (.cells #[.int .i64 (m : Int)] 3)).alloc (.cells #[.int .i64 (n : Int)] 3)) := ((((Below.refl _ w).alloc (Nat.le_refl _) _).alloc (by simp) _).alloc (by simp; omega) _).alloc (by simp; omega) _
  refine wpIn_rangeFunc_ownH hro h1 (gf := 116) (lb := #[.pointer (some ⟨w.heap.size + 1 + 1 + 1, 0, none⟩), .pointer (some ⟨w.heap.size + 1 + 1, 0, none⟩)]) rfl h5 (enters_of Try.func116 (by kernel_rfl) rfl)
    (div_stops F (d - 1) h5 hro (by omega) (w.heap.size + 1 + 1) (w.heap.size + 1 + 1 + 1) m n n1 n8 m32 _ (by simp) (by simp) (bM.alloc _).cell bN.cell) kpc_t (fun W l o o' hl h2 h3 h4 => kpc_b (n₀ := w.heap.size + 1 + 1 + 1 + 1) (by omega) (by omega) W l o o' (by simp at hl; omega) h2 h3 h4) (Below.refl _ _) (fun _ => rfl)
    (fun pre W => (((∃ v, Boxed W (w.heap.size + 1) 22 v ∧ W.ownsRow (w.heap.size + 1 + 1 + 1 + 1) 3 1 v pre.length (zs (sgl L m n pre)) ∧ True) ∧ Boxed W w.heap.size 22 (.slice (some ⟨hx, 0, none⟩) m c)) ∧ W.cell? ⟨w.heap.size + 1 + 1 + 1, 0, none⟩ = some (.int .i64 (n : Int))) ∧ Below w.heap.size w W)
    (fun _ _ _ => False)
    (OwnFrom.and (OwnFrom.and (OwnFrom.and (Own.from (holdsRow_own (w.heap.size + 1 + 1 + 1 + 1) (w.heap.size + 1) 22 3 1 (fun pre => pre.length) (fun pre => zs (sgl L m n pre)) (fun _ _ => True)) _) (Own.from (boxed_own w.heap.size 22 (fun _ => .slice (some ⟨hx, 0, none⟩) m c)) _)) (fun s A B row h hg hr => cell_kept h hg (fun r e => (hr r e).2))) (ownFrom_below (Nat.le_refl _) (by simp; omega)))
    (fun _ _ _ _ _ hs _ _ => hs)
    ⟨⟨⟨⟨_, (bO.alloc _).alloc _, World.ownsRow_nil _ _ _ _, trivial⟩, ((bX.alloc _).alloc _).alloc _⟩, bN.cell⟩, hB0⟩
    (fun x a' W => ∃ Bx, w.heap.size + 1 + 1 + 1 + 1 ≤ Bx ∧ W.cell? ⟨Bx, 0, none⟩ = some (.int .i64 (st m n x.val : Int)) ∧ W.cell? ⟨Bx, 1, none⟩ = some (.int .i64 (st m n (x.val + 1) : Int)) ∧ a' = { tmps := #[.slice (some ⟨hx, 0, none⟩) m c, .int .i64 (n : Int), .pointer (some ⟨w.heap.size, 0, none⟩), undef, .slice none 0 0, .pointer (some ⟨w.heap.size + 1, 0, none⟩), .pointer (some ⟨Bx, 0, none⟩), undef, undef, undef, .slice (some ⟨hx, 0, none⟩) m c, .int .i64 (m : Int), .int .i64 (n : Int), .func (.func 116) #[] #[.pointer (some ⟨w.heap.size + 1 + 1 + 1, 0, none⟩), .pointer (some ⟨w.heap.size + 1 + 1, 0, none⟩)], .agg #[.int .i64 (st m n x.val : Int), .int .i64 (st m n (x.val + 1) : Int)], undef, undef, undef, undef, undef, undef, undef, undef, undef, undef, undef, undef, undef, undef, undef, undef, undef, undef, undef, undef], defers := [] })
    (fun x a' _ A B row hs hg hr => by obtain ⟨Bx, q1, q2, q2', q3⟩ := hs; exact ⟨Bx, q1, cell_kept q2 hg (fun r e => (hr r e).2), cell_kept q2' hg (fun r e => (hr r e).2), q3⟩)
    ?assign ?body ?done ?stop
  case assign =>
    rintro l pre x W K ⟨⟨⟨⟨v, hv, hrow, _⟩, hX⟩, hcn⟩, hB⟩ hK
    have hlt := cell_lt hcn
    unfold enp
    gi_wp2
    have hbw : Below (w.heap.size + 1 + 1 + 1 + 1) W (W.alloc (.cells #[.int .i64 (st m n x.val : Int), .int .i64 (st m n (x.val + 1) : Int)] 120)) := (Below.refl _ W).alloc (by omega) _
    exact hK _ _ ((KeepsOthers.alloc _ _).from _) (kpc_bl (n₀ := w.heap.size + 1 + 1 + 1 + 1) (by omega) (by omega) hbw) ⟨⟨⟨⟨v, hv.alloc _, hrow.alloc _, trivial⟩, hX.alloc _⟩, (hbw.cell (p := ⟨w.heap.size + 1 + 1 + 1, 0, none⟩) (by show w.heap.size + 1 + 1 + 1 < _; omega)).trans hcn⟩, hB.alloc hB.size _⟩ ⟨W.heap.size, by omega, by unfold World.cell?; rw [World.alloc_heap_new]; rfl, by unfold World.cell?; rw [World.alloc_heap_new]; rfl, rfl⟩
  case body =>
    rintro l pre x a' W hl ⟨r, hr⟩ ⟨⟨⟨⟨v, hv, hrow, _⟩, hX⟩, hcn⟩, hB⟩ ⟨Bx, hBx, hcx, hcy, rfl⟩ hlt
    have hc := hv.cell
    have hcX := hX.cell
    have hszx := cell_lt hcx
    have hszn := cell_lt hcn
    have l0 : st m n x.val ≤ st m n (x.val + 1) := st_mono m n _ _ (by omega)
    have l2 := (st_step m n x.val (by omega)).1
    have l3 : 1 ≤ m / n := (Nat.le_div_iff_mul_le (by omega)).2 (by omega)
    have l1 : st m n (x.val + 1) ≤ m := st_le m n _ (by omega) (by have := x.2; omega)
    obtain ⟨s0, hs0⟩ : ∃ s, st m n x.val = s := ⟨_, rfl⟩
    obtain ⟨s1, hs1⟩ : ∃ s, st m n (x.val + 1) = s := ⟨_, rfl⟩
    rw [hs0] at l0 l2 hcx ⊢
    rw [hs1] at l0 l1 l2 hcy ⊢
    obtain ⟨ln, hln⟩ : ∃ k, s1 - s0 = k := ⟨_, rfl⟩
    have s0c : (s0 : Int) ≤ (s1 : Int) := by omega
    have hcs : ¬ c = s0 := by omega
    have s1c : (s1 : Int) ≤ (c : Int) := by omega
    have HX := Lib.hid (And.intro hz (And.intro hL (And.intro hv (And.intro hrow (And.intro hX (And.intro hcn (And.intro hB (And.intro hr (And.intro hs0 hs1)))))))))
    clear hz hL hv hrow hX hcn hB hr hs0 hs1
    clear l2 l3
    gi_wp2
    gi_loopw [7, 22] (fun s7 s22 wr => ∃ t : Nat, W = wr ∧ t ≤ ln ∧ s22 = .int .i64 (t : Int) ∧ s7 = .int .i64 (su id ((L.drop s0).take t))) (fun s7 s22 _ => ln - (intOf s22).toNat)
    case atStart => exact ⟨0, by trivial, Nat.zero_le _, rfl, rfl⟩
    case round =>
      obtain ⟨t, hwr, ht, rfl, rfl⟩ := hrel
      subst hwr
      rcases Nat.lt_or_ge t ln with htl | htl
      · have hbz : Bel w W := HX.out.2.2.2.2.2.2.1
        have cx : W.cell? ⟨hx, s0 + t, none⟩ = some (.int .i64 (L.getD (s0 + t) 0)) := by have := (HX.out.1.bel hbz).at (s0 + t) (by omega); simpa using this
        have hbd := pg_bd (B := 64000) HX.out.2.1 (by omega) s0 (s0 + (t + 1))
        unfold pg at hbd
        rw [Nat.add_sub_cancel_left] at hbd
        have hnx := su_next id (L.drop s0) t (by rw [List.length_drop, HX.out.1.1]; omega)
        have hge : (L.drop s0).getD t 0 = L.getD (s0 + t) 0 := by simp [List.getD_eq_getElem?_getD, List.getElem?_drop]
        rw [hge] at hnx
        obtain ⟨y, hy⟩ : ∃ y, L.getD (s0 + t) 0 = y := ⟨_, rfl⟩
        obtain ⟨p, hp⟩ : ∃ p, su id ((L.drop s0).take t) = p := ⟨_, rfl⟩
        obtain ⟨q, hq⟩ : ∃ q, su id ((L.drop s0).take (t + 1)) = q := ⟨_, rfl⟩
        rw [hy, hp, hq] at hnx
        rw [hy] at cx
        rw [hq] at hbd
        rw [hp]
        have hpq : p + y = q := hnx.symm
        have wq : IntKind.i64.wrap q = q := IntWalk.i64_in _ (by omega)
        have ti : (t : Int) < (ln : Int) := by omega
        have HQ := Lib.hid (And.intro hq (And.intro hp hy))
        clear hnx hbd hge hq hp hy hbz
        gi_wp2
        go_roundw
        case rel => exact ⟨t + 1, by trivial, by omega, by go_num, by rw [HQ.out.1]⟩
        case measure => simp [intOf]; omega
      · obtain rfl : t = ln := by omega
        obtain ⟨hz, hL, hv, hrow, hX, hcn, hB, hr, hs0, hs1⟩ := HX.out
        obtain ⟨S, hS⟩ : ∃ S, su id ((L.drop s0).take t) = S := ⟨_, rfl⟩
        rw [hS]
        gi_wp2_with (gi_at_builtin; refine wpListIn_append_own _ rfl _ _ 22 rfl (w.heap.size + 1 + 1 + 1 + 1) 3 i0 (.int .i64 0) 1 8 Try.underlying22 hi hz0 hz1 hz2 rfl (by decide) _ _ _ rfl (hrow.alloc _) ⟨W.heap.size, 0, none⟩ 1 1 [.int .i64 S] rfl rfl (cell_one_new _ _ _) (by simp [Value.oneCell']) (by unfold maxLen; omega) (by omega) (by simp; omega) ?_; intro v' w1 hown' hgrow _; obtain ⟨g', cap', rfl⟩ := ownsRow_succ hown'; obtain ⟨hv1, hv2, hr2, hk2, hb2⟩ := hv.appended (n₀ := w.heap.size + 1) (by decide) (own_lo hrow (by omega)) (by omega) (Nat.le_refl _) (own_lo hown' (by omega)) hgrow; have hc1 := hv1.cell; have hf1 := hv1.frozen)
        have hne := hgrow.block
        have kc : ∀ b, b ≠ w.heap.size + 1 → b < w.heap.size + 1 + 1 + 1 + 1 → (w1.setCell ⟨w.heap.size + 1, 0, none⟩ (.slice (some ⟨g', 0, none⟩) (pre.length + 1) cap')).heap[b]? = W.heap[b]? := fun b hb1 hb2 => by
          refine Eq.trans (heap_set_ne _ _ _ hb1) ?_
          refine (hne b (by rw [World.size_alloc]; omega) (own_ne hrow hb2)).trans ?_
          exact Below.heap_alloc _ _ _ (by omega)
        exact ⟨hk2.from _, fun b hb => World.cell?_of_block (kc b (by rcases hb with rfl | rfl <;> omega) (by rcases hb with rfl | rfl <;> omega)), ⟨⟨⟨_, hv2, by
          have e1 : (pre ++ [x]).length = pre.length + 1 := by simp
          have e2 : zs (sgl L m n (pre ++ [x])) = zs (sgl L m n pre) ++ [.int .i64 S] := by
            have : pg L (st m n x.val) (st m n (x.val + 1)) = S := by rw [hs0, hs1]; unfold pg; rw [hln]; exact hS
            simp [zs, sgl, this]
          rw [e1, e2]
          exact hown'.kept (grownBy_setCell' w1 _ _) (.inr (hv1.not_row (by decide) hown').symm), trivial⟩, (kc w.heap.size (by omega) (by omega)).trans hX⟩, (World.cell?_of_block (kc (w.heap.size + 1 + 1 + 1) (by omega) (by omega))).trans hcn⟩, hB.trans (hb2.mono (by omega))⟩
  case done =>
    rintro D ys W hD hys ⟨⟨⟨⟨v, hv, hrow, _⟩, hX⟩, hcn⟩, hB⟩ hK
    have hc := hv.cell
    have hszn := cell_lt hcn
    have hly : ys.length = n := by have := congrArg List.length hys; simpa using this
    gi_wp2
    refine ⟨by simp, .inl ⟨_, _, rfl, run_takeDeferred hK, ?_⟩⟩
    have e2 : zs (sgl L m n ys) = zs (pls L m n) := by
      unfold pls
      rw [← hys]; simp [zs, sgl]
    rw [hly, e2] at hrow
    exact ⟨_, results_tmp rfl _ _ _, v, rfl, own_lo (ownsRow_putObj hrow _ hK rfl) (by omega), hB.trans (belowK_b (w := w) (Nat.le_refl _) W D _ _ (by simp at hD; omega) hK rfl rfl)⟩
  case stop =>
    rintro D c pre W _ _ h _
    exact h.elim
end Go.Proofs.Ytmgdoglnckkobaa.Pc
namespace Go.Proofs.Ytmgdoglnckkobaa.Eu
open Go.ChangeShapes Go.WideShapes Go.RowKit Wo Sr Wi
set_option linter.unusedVariables false
theorem sam_l {L : List Int} (h : (L.all fun x => decide (-1000 ≤ x) && decide (x ≤ 1000)) = true) : Sam L := fun x hx => by
  have := List.all_eq_true.1 h x hx
  simpa using this
set_option maxHeartbeats 4000000 in
theorem windows_ok (A A' : Option Addr) (c c' n : Nat) (L M : List Int) (n1 : 2 ≤ n) (n2 : n ≤ 32) (hs : Sam L) (ht : Sam M) (w : World) (h1 : Zi w A n L) (h2 : Zi w A' n M) :
    Calls Try.prog 50 #[.slice A n c, .slice A' n c', .int .i64 0] w fun e w' => e = .returned (.int .i64 0) ∧ Bel w w' := by
  have H1 := Lib.hid h1
  have H2 := Lib.hid h2
  have HS := Lib.hid hs
  have HT := Lib.hid ht
  have i1 : 2 ≤ (n : Int) := by omega
  have i2 : (n : Int) ≤ 32 := by omega
  clear h1 h2 hs ht
  go_enter Try.func50, Try.ntmps50
  go_wp2_with fail
  go_at_call 68
  refine (length_ok (n : Int) i1 i2 _).mono ?_
  rintro e v ⟨rfl, rfl⟩
  go_wp2_with fail
  go_at_call 68
  refine (length_ok (n : Int) i1 i2 _).mono ?_
  rintro e v ⟨rfl, rfl⟩
  go_wp2_with fail
  go_at_call 57
  refine (samples_ok A c n L (by omega) HS.out _ H1.out).mono ?_
  rintro e w1 ⟨rfl, hb1⟩
  have HB1 := Lib.hid hb1
  clear hb1
  go_wp2_with (go_at_call 57; refine (samples_ok A' c' n M (by omega) HT.out _ (H2.out.bel HB1.out)).mono ?_; rintro e w2 ⟨rfl, hb2⟩)
  go_ret
  exact ⟨rfl, HB1.out.tr hb2⟩
theorem window_ok (A : Option Addr) (c n : Nat) (L : List Int) (n1 : 2 ≤ n) (n2 : n ≤ 32) (hs : Sam L) (w : World) (h1 : Zi w A n L) :
    Calls Try.prog 56 #[.slice A n c] w fun e w' => e = .returned (.int .i64 0) ∧ Bel w w' := by
  have H1 := Lib.hid h1
  have HS := Lib.hid hs
  have i1 : 2 ≤ (n : Int) := by omega
  have i2 : (n : Int) ≤ 32 := by omega
  clear h1 hs
  go_enter Try.func56, Try.ntmps56
  go_wp2_with fail
  go_at_call 68
  refine (length_ok (n : Int) i1 i2 _).mono ?_
  rintro e v ⟨rfl, rfl⟩
  go_wp2_with (go_at_call 57; refine (samples_ok A c n L (by omega) HS.out _ H1.out).mono ?_; rintro e w2 ⟨rfl, hb2⟩)
  go_ret
  exact ⟨rfl, hb2⟩
/-- a part of a slice -/
theorem zi_sub {w : World} {h N : Nat} {Z : List Int} (hz : Zi w (some ⟨h, 0, none⟩) N Z) (i n : Nat) (hi : i + n ≤ N) : Zi w (some ⟨h, i, none⟩) n ((Z.drop i).take n) := by
  have hl := hz.1
  refine ⟨by simp; omega, fun hn => ?_⟩
  obtain ⟨ad, e, hx, _⟩ := hz.2 (by omega)
  cases e
  refine ⟨_, rfl, hx, fun j hj => ?_⟩
  have := hz.at (i + j) (by omega)
  rw [show (⟨h, i, none⟩ : Addr).add j = ⟨h, i + j, none⟩ by unfold Addr.add; split <;> simp_all, this]
  simp [List.getD_eq_getElem?_getD, hj]
set_option maxHeartbeats 4000000 in
theorem ints_diff (A A' : Option Addr) (c c' n : Nat) (L M : List Int) (hn : n ≤ 1000000) (hd : L ≠ M) (w : World) (h1 : Zi w A n L) (h2 : Zi w A' n M) :
    Calls Try.prog 20 #[.slice A n c, .slice A' n c'] w fun e w' => e = .returned (.bool false) ∧ Bel w w' := by
  have H1 := Lib.hid h1
  have H2 := Lib.hid h2
  have ni : (n : Int) ≤ 1000000 := by omega
  have HDF : Hid (¬ ∀ j, j < n → L.getD j 0 = M.getD j 0) := by
    show ¬ _
    intro hall
    apply hd
    apply List.ext_getElem?
    intro i
    rcases Nat.lt_or_ge i n with hi | hi
    · have := hall i hi
      rw [List.getD_eq_getElem?_getD, List.getD_eq_getElem?_getD, List.getElem?_eq_getElem (by rw [h1.1]; exact hi), List.getElem?_eq_getElem (by rw [h2.1]; exact hi)] at this
      rw [List.getElem?_eq_getElem (by rw [h1.1]; exact hi), List.getElem?_eq_getElem (by rw [h2.1]; exact hi)]
      exact congrArg some this
    · rw [List.getElem?_eq_none (by rw [h1.1]; exact hi), List.getElem?_eq_none (by rw [h2.1]; exact hi)]
  clear h1 h2 hd
  go_enter Try.func20, Try.ntmps20
  go_wp2
  go_loopw [13] (fun s13 wr => ∃ (k : Nat) (V : World), V = wr ∧ k ≤ n ∧ s13 = .int .i64 (k : Int) ∧ (∀ j, j < k → L.getD j 0 = M.getD j 0) ∧ Bel w wr) (fun s13 _ => n - (intOf s13).toNat)
  case atStart => exact ⟨0, _, rfl, by omega, rfl, fun j hj => by omega, Bel.rf⟩
  case round =>
    obtain ⟨k, wr, hwr, hk, rfl, hall, hb⟩ := hrel
    subst hwr
    have HB := Lib.hid hb
    have HAL := Lib.hid hall
    rcases Nat.lt_or_ge k n with hlt | hge
    · obtain ⟨ad, rfl, hab, hac⟩ := (H1.out.bel hb).2 (by omega)
      obtain ⟨ad', rfl, hab', hac'⟩ := (H2.out.bel hb).2 (by omega)
      have c1 := hac k hlt
      have c2 := hac' k hlt
      obtain ⟨x, hx⟩ : ∃ x, L.getD k 0 = x := ⟨_, rfl⟩
      obtain ⟨y, hy⟩ : ∃ x, M.getD k 0 = x := ⟨_, rfl⟩
      rw [hx] at c1
      rw [hy] at c2
      have ki : (k : Int) < (n : Int) := by omega
      have HXY := Lib.hid (And.intro hx hy)
      clear hb hac hac' hab hab' hx hy hall
      rcases Classical.em (x = y) with rfl | hxy
      · have kn := ne_self x
        go_wp2
        go_quiet (fail)
        go_wp2
        go_roundw
        case rel => exact ⟨k + 1, _, rfl, by omega, by go_num, fun j hj => by
          rcases Nat.lt_or_ge j k with h | h
          · exact HAL.out j h
          · obtain rfl : j = k := by omega
            rw [HXY.out.1, HXY.out.2], HB.out.drwN _⟩
        case measure => simp [intOf]; omega
      · have kn : (x != y) = true := by simpa using hxy
        go_wp2
        go_quiet (fail)
        go_wp2
        go_ret
        exact ⟨rfl, HB.out.drwN _⟩
    · obtain rfl : k = n := by omega
      exact absurd hall HDF.out
end Go.Proofs.Ytmgdoglnckkobaa.Eu
namespace Go.Proofs.Ytmgdoglnckkobaa.Ra
open Go.ChangeShapes Go.WideShapes Go.RowKit Wo
set_option linter.unusedVariables false
theorem divisor_any (a b : Int) (ha : 0 ≤ a) (hb : 0 ≤ b) (w : World) :
    Calls Try.prog 93 #[.int .i64 a, .int .i64 b] w fun e w' => e = .returned (.int .i64 (gd a b)) ∧ ∃ n, w' = w.drewN n := by
  go_enter Try.func93, Try.ntmps93
  go_wp2
  go_loopw [0, 1] (fun x y wr => ∃ p q : Int, x = .int .i64 p ∧ y = .int .i64 q ∧ 0 ≤ p ∧ 0 ≤ q ∧ gd p q = gd a b ∧ ∃ n, wr = w.drewN n) (fun _ y _ => (intOf y).toNat)
  case atStart => exact ⟨a, b, rfl, rfl, ha, hb, rfl, 0, rfl⟩
  case round =>
    obtain ⟨p, q, rfl, rfl, hp, hq, hg, n, rfl⟩ := hrel
    rcases Classical.em (q = 0) with hz | hz
    · subst hz
      have HG := Lib.hid hg
      clear hg
      go_wp2
      go_ret
      exact ⟨ret_int (by rw [← HG.out, gd_zero hp]), n, rfl⟩
    · have hq1 : 0 < q := by omega
      have hne : (q != 0) = true := by simpa using hz
      have HG : Hid (gd q (p % q) = gd a b) := (gd_step hp hq1).trans hg
      have hm0 : 0 ≤ p % q := Int.emod_nonneg _ (by omega)
      have hm1 : p % q < q := Int.emod_lt_of_pos _ hq1
      clear hg
      go_wp2
      go_quiet (fail)
      go_wp2
      go_roundw
      case rel => exact ⟨q, p % q, rfl, rfl, by omega, hm0, HG.out, _, World.drewN_drewN _ _ _⟩
      case measure => simp [intOf]; omega
theorem inRange_any (n d : Int) (w : World) :
    Calls Try.prog 94 #[.agg #[.int .i64 n, .int .i64 d]] w fun e w' => e = .returned (.bool (rin n d)) ∧ Bel w w' := by
  rcases Classical.em (RIn n d) with h | h
  · rw [rin_yes h]
    obtain ⟨h1, h2, h3, h4⟩ := h
    have b1 : decide (0 ≤ n) = true := by simpa using h1
    have b2 : decide (n ≤ 2305843009213693952) = true := by simpa using h2
    have b3 : decide (1 ≤ d) = true := by simpa using h3
    have b4 : decide (d ≤ 1152921504606846976) = true := by simpa using h4
    go_enter Try.func94, Try.ntmps94
    go_wp2
    go_ret
    exact ⟨rfl, Bel.rf.al _⟩
  · rw [rin_no h]
    have h' : ¬ (0 ≤ n ∧ n ≤ 2305843009213693952 ∧ 1 ≤ d ∧ d ≤ 1152921504606846976) := h
    rcases Classical.em (0 ≤ n) with h1 | h1
    · have b1 : decide (0 ≤ n) = true := by simpa using h1
      rcases Classical.em (n ≤ 2305843009213693952) with h2 | h2
      · have b2 : decide (n ≤ 2305843009213693952) = true := by simpa using h2
        rcases Classical.em (1 ≤ d) with h3 | h3
        · have b3 : decide (1 ≤ d) = true := by simpa using h3
          have b4 : decide (d ≤ 1152921504606846976) = false := by simp; omega
          clear h h'
          go_enter Try.func94, Try.ntmps94
          go_wp2
          go_ret
          exact ⟨rfl, Bel.rf.al _⟩
        · have b3 : decide (1 ≤ d) = false := by simpa using h3
          clear h h'
          go_enter Try.func94, Try.ntmps94
          go_wp2
          go_ret
          exact ⟨rfl, Bel.rf.al _⟩
      · have b2 : decide (n ≤ 2305843009213693952) = false := by simpa using h2
        clear h h'
        go_enter Try.func94, Try.ntmps94
        go_wp2
        go_ret
        exact ⟨rfl, Bel.rf.al _⟩
    · have b1 : decide (0 ≤ n) = false := by simpa using h1
      clear h h'
      go_enter Try.func94, Try.ntmps94
      go_wp2
      go_ret
      exact ⟨rfl, Bel.rf.al _⟩
theorem make_bad (n d : Int) (w : World) (h : n < 0 ∨ d < 1) :
    Calls Try.prog 54 #[.int .i64 n, .int .i64 d] w fun e w' => e = .returned (.tuple #[.agg #[.int .i64 0, .int .i64 0], .int .i64 1]) ∧ Bel w w' := by
  rcases Classical.em (n < 0) with h1 | h1
  · have b1 : decide (n < 0) = true := by simpa using h1
    clear h
    go_enter Try.func54, Try.ntmps54
    go_wp2
    exact bodyPost_ret (v := .tuple #[.agg #[.int .i64 0, .int .i64 0], .int .i64 1]) (by simp [results, Try.results54, go_sem]) rfl ⟨rfl, Bel.rf.al _⟩
  · have b1 : decide (n < 0) = false := by simpa using h1
    have b2 : decide (d < 1) = true := by simp; omega
    clear h
    go_enter Try.func54, Try.ntmps54
    go_wp2
    exact bodyPost_ret (v := .tuple #[.agg #[.int .i64 0, .int .i64 0], .int .i64 1]) (by simp [results, Try.results54, go_sem]) rfl ⟨rfl, Bel.rf.al _⟩
set_option maxHeartbeats 400000 in
theorem make_in (n d : Int) (w : World) (h1 : 0 ≤ n) (h2 : 1 ≤ d) (h3 : rin (n / gd n d) (d / gd n d) = true) (q1 : n ≤ 9223372036854775807) (q2 : d ≤ 9223372036854775807) :
    Calls Try.prog 54 #[.int .i64 n, .int .i64 d] w fun e w' => e = .returned (.tuple #[.agg #[.int .i64 (n / gd n d), .int .i64 (d / gd n d)], .int .i64 0]) ∧ Bel w w' := by
  have b1 : decide (n < 0) = false := by simpa using h1
  have b2 : decide (d < 1) = false := by simpa using h2
  have g1 := gd_pos (a := n) (b := d) (by omega)
  have g2 := gd_le_right (a := n) (b := d) (by omega)
  have g3 : gd n d ≠ 0 := by omega
  have e1 : 0 ≤ n / gd n d := Int.ediv_nonneg h1 (by omega)
  have e2 : 0 ≤ d / gd n d := Int.ediv_nonneg (by omega) (by omega)
  have e3 : n / gd n d ≤ n := Int.ediv_le_self _ h1
  have e4 : d / gd n d ≤ d := Int.ediv_le_self _ (by omega)
  go_enter Try.func54, Try.ntmps54
  go_wp2_with (first | (go_at_call 93; refine (divisor_any _ _ h1 (by omega) _).mono ?_; rintro e w2 ⟨rfl, m, rfl⟩))
  go_region
  go_wp2_with (first | (go_at_call 94; refine (inRange_any _ _ _).mono ?_; rintro e w3 ⟨rfl, hb⟩; obtain ⟨hc, hf⟩ := hb.cells; have hsz := hb.size; have B0 : Bk w3 w.heap.size 37 #[.int .i64 0, .int .i64 0] := (((Bk.nw _ _ _).drwN _).al _).bel hb; have hz0 := B0.lt; have k0 : w3.cell? ⟨w.heap.size, 0, none⟩ = some (.int .i64 0) := B0.cell 0; have k1 : w3.cell? ⟨w.heap.size, 1, none⟩ = some (.int .i64 0) := B0.cell 1))
  exact bodyPost_ret (v := .tuple #[.agg #[.int .i64 (n / gd n d), .int .i64 (d / gd n d)], .int .i64 0]) (by simp [results, Try.results54, go_sem, k0, k1]) rfl ⟨rfl, (by repeat (first | exact Bel.rf | (with_reducible refine Bel.st ?_ (by simp) _) | (with_reducible refine Bel.drwN ?_ _) | (with_reducible refine Bel.drw ?_) | (with_reducible refine Bel.al ?_ _) | refine Bel.tr ?_ (by assumption)))⟩
end Go.Proofs.Ytmgdoglnckkobaa.Ra
namespace Go.Proofs.Ytmgdoglnckkobaa.Nr
open Go.ChangeShapes Go.WideShapes Go.RowKit Wo Sr Wi Ra Eu
set_option linter.unusedVariables false
theorem abs_ok (n : Int) (h0 : -4611686018427387904 ≤ n) (h1 : n ≤ 4611686018427387904) (w : World) : Calls Try.prog 111 #[.int .i64 n] w fun e w' => e = .returned (.int .i64 (if n < 0 then -n else n)) ∧ w = w' := by
  rcases Int.lt_trichotomy n 0 with h | rfl | h
  · rw [if_pos h]
    go_enter Try.func111, Try.ntmps111
    go_wp2
    go_ret
    first | exact ⟨rfl, rfl⟩ | exact ⟨ret_int (by omega), rfl⟩
  · go_enter Try.func111, Try.ntmps111
    go_wp2
    go_ret
    first | exact ⟨rfl, rfl⟩ | exact ⟨ret_int (by omega), rfl⟩
  · rw [if_neg (by omega)]
    go_enter Try.func111, Try.ntmps111
    go_wp2
    go_ret
    first | exact ⟨rfl, rfl⟩ | exact ⟨ret_int (by omega), rfl⟩
theorem bd_in {A : Int} {L : List Int} (h : Bd A L) (hA : 0 ≤ A) (k : Nat) (h32 : L.length ≤ k) : -(A * (k : Int)) ≤ su ix L ∧ su ix L ≤ A * (k : Int) := by
  have b := su_bd h
  have e : A * (L.length : Int) ≤ A * (k : Int) := Int.mul_le_mul_of_nonneg_left (by omega) hA
  omega
set_option maxHeartbeats 8000000 in
set_option maxRecDepth 100000 in
theorem product_ok (A A' : Option Addr) (c c' n : Nat) (L M : List Int) (n2 : n ≤ 32) (hs : Sam L) (ht : Sam M) (w : World) (h1 : Zi w A n L) (h2 : Zi w A' n M) :
    Calls Try.prog 104 #[.slice A n c, .slice A' n c'] w fun e w' => e = .returned (.int .i64 (pr L M)) ∧ Bel w w' := by
  have H1 := Lib.hid h1
  have H2 := Lib.hid h2
  have HS := Lib.hid hs
  have HT := Lib.hid ht
  have hlen : L.length = M.length := by rw [h1.1, h2.1]
  have hl := h1.1
  have HP : Hid (Bd 1000000 (pw L M)) := pw_bd (A := 1000) (B := 1000) (by decide) (by decide) hs ht
  have i2 : (n : Int) ≤ 32 := by omega
  have HE : Hid (pr L M = (n : Int) * su ix (pw L M) - su ix L * su ix M) := by show _ = _; unfold pr; rw [dot_pw, hl]
  have HPL : Hid ((pw L M).length = n) := by show _ = _; rw [pw_len hlen, hl]
  clear h1 h2 hs ht
  go_enter Try.func104, Try.ntmps104
  go_wp2
  go_loopw [5, 6, 7, 11] (fun s5 s6 s7 s11 wr => ∃ (t : Nat) (V : World) (p s q : Int), V = wr ∧ t ≤ n ∧ s11 = .int .i64 (t : Int) ∧ s5 = .int .i64 p ∧ s6 = .int .i64 s ∧ s7 = .int .i64 q ∧ p = su ix ((pw L M).take t) ∧ s = su ix (L.take t) ∧ q = su ix (M.take t) ∧ Bel w wr) (fun _ _ _ s11 _ => n - (intOf s11).toNat)
  case atStart => exact ⟨0, _, 0, 0, 0, rfl, by omega, rfl, rfl, rfl, rfl, by simp [su], by simp [su], by simp [su], Bel.rf⟩
  case round =>
    obtain ⟨t, wr, p, s, q, hwr, ht, rfl, rfl, rfl, rfl, hp, hsx, hq, hb⟩ := hrel
    subst hwr
    have HB := Lib.hid hb
    have HPV := Lib.hid hp
    have HSV := Lib.hid hsx
    have HQV := Lib.hid hq
    have b1 := bd_in (k := 32) (HP.out.take t) (by decide) (by have := List.length_take_le t (pw L M); have := HPL.out; omega)
    have b2 := bd_in (k := 32) (Bd.take (B := 1000) HS.out t) (by decide) (by have := List.length_take_le t L; omega)
    have b3 := bd_in (k := 32) (Bd.take (B := 1000) HT.out t) (by decide) (by have := List.length_take_le t M; omega)
    rw [← hp] at b1
    rw [← hsx] at b2
    rw [← hq] at b3
    obtain ⟨b10, b11⟩ : -32000000 ≤ p ∧ p ≤ 32000000 := by omega
    obtain ⟨b20, b21⟩ : -32000 ≤ s ∧ s ≤ 32000 := by omega
    obtain ⟨b30, b31⟩ : -32000 ≤ q ∧ q ≤ 32000 := by omega
    clear b1 b2 b3
    rcases Nat.lt_or_ge t n with hlt | hge
    · obtain ⟨ad, rfl, _, hac⟩ := (H1.out.bel hb).2 (by omega)
      obtain ⟨ad', rfl, _, hac'⟩ := (H2.out.bel hb).2 (by omega)
      have c1 := hac t hlt
      have c2 := hac' t hlt
      have hn1 := su_next ix (pw L M) t (by have := HPL.out; omega)
      have hn2 := su_next ix L t (by omega)
      have hn3 := su_next ix M t (by omega)
      rw [pw_at hlen t (by omega)] at hn1
      have px := HS.out.at t
      have py := HT.out.at t
      obtain ⟨x, hx⟩ : ∃ x, L.getD t 0 = x := ⟨_, rfl⟩
      obtain ⟨y, hy⟩ : ∃ y, M.getD t 0 = y := ⟨_, rfl⟩
      rw [hx] at c1 px hn1 hn2
      rw [hy] at c2 py hn1 hn3
      rw [← hp] at hn1
      rw [← hsx] at hn2
      rw [← hq] at hn3
      obtain ⟨x0, x1⟩ := px
      obtain ⟨y0, y1⟩ := py
      have mb := mul_bd (A := 1000) (B := 1000) (by decide) (by decide) x0 x1 y0 y1
      obtain ⟨xy, hxy⟩ : ∃ z, x * y = z := ⟨_, rfl⟩
      have HN : Hid (p + x * y = su ix ((pw L M).take (t + 1)) ∧ s + x = su ix (L.take (t + 1)) ∧ q + y = su ix (M.take (t + 1))) := ⟨hn1.symm, hn2.symm, hn3.symm⟩
      rw [hxy] at mb
      obtain ⟨mb0, mb1⟩ : -1000000 ≤ xy ∧ xy ≤ 1000000 := by omega
      have m1 : wrap64 (x * y) = xy := by rw [hxy]; exact IntWalk.wrap64_in _ (by omega)
      have m2 : IntKind.i64.wrap (x * y) = xy := by rw [hxy]; exact IntWalk.i64_in _ (by omega)
      have m3 : IntKind.i64.wrap (p + xy) = p + xy := IntWalk.i64_in _ (by omega)
      have ti : (t : Int) < (n : Int) := by omega
      have HXY := Lib.hid (And.intro hx (And.intro hy hxy))
      clear hb hp hsx hq hac hac' hx hy hn1 hn2 hn3 mb hxy
      go_wp2
      go_quiet (fail)
      go_wp2
      go_roundw
      case rel => exact ⟨t + 1, _, _, _, _, rfl, by omega, by go_num, rfl, rfl, rfl, by rw [← HN.out.1, HXY.out.2.2], HN.out.2.1, HN.out.2.2, by first | exact HB.out.drwN _ | exact HB.out.drw | exact HB.out⟩
      case measure => simp [intOf]; omega
    · obtain rfl : t = n := by omega
      rw [List.take_of_length_le (by have := HPL.out; omega)] at hp
      rw [List.take_of_length_le (by omega)] at hsx
      rw [List.take_of_length_le (by omega)] at hq
      have HN := Lib.hid (And.intro hp (And.intro hsx hq))
      have e1 := mul_bd (A := 32) (B := 32000000) (x := (t : Int)) (y := p) (by decide) (by decide) (by omega) (by omega) (by omega) (by omega)
      have e2 := mul_bd (A := 32000) (B := 32000) (by decide) (by decide) b20 b21 b30 b31
      have m1 : wrap64 ((t : Int) * p) = (t : Int) * p := IntWalk.wrap64_in _ (by omega)
      have m2 : wrap64 (s * q) = s * q := IntWalk.wrap64_in _ (by omega)
      have m3 : wrap64 ((t : Int) * p - s * q) = (t : Int) * p - s * q := IntWalk.wrap64_in _ (by omega)
      clear hb hp hsx hq e1 e2
      go_wp2
      go_ret
      exact ⟨ret_int (m3.trans (by rw [HE.out, ← HN.out.1, ← HN.out.2.1, ← HN.out.2.2])), HB.out⟩
/-- the gap of two windows, as a value -/
def gv (L M : List Int) : Value := .agg #[.int .i64 (rN (vr L) (vr M) (pr L M)), .int .i64 (rD (vr L) (vr M) (pr L M))]
set_option maxHeartbeats 4000000 in
theorem Product_ok (A A' : Option Addr) (c c' n : Nat) (L M : List Int) (n1 : 2 ≤ n) (n2 : n ≤ 32) (hs : Sam L) (ht : Sam M) (w : World) (h1 : Zi w A n L) (h2 : Zi w A' n M) :
    Calls Try.prog 74 #[.slice A n c, .slice A' n c'] w fun e w' => e = .returned (.tuple #[.int .i64 (pr L M), .int .i64 0]) ∧ Bel w w' := by
  have HW : Hid (∀ W, Bel w W → _) := fun W hW => windows_ok A A' c c' n L M n1 n2 hs ht W (h1.bel hW) (h2.bel hW)
  have HQ : Hid (∀ W, Bel w W → _) := fun W hW => product_ok A A' c c' n L M n2 hs ht W (h1.bel hW) (h2.bel hW)
  clear h1 h2 hs ht
  go_enter Try.func74, Try.ntmps74
  go_wp2_with fail
  go_at_call 50
  refine (HW.out _ Bel.rf).mono ?_
  rintro e w1 ⟨rfl, hb1⟩
  have HB1 := Lib.hid hb1
  clear hb1
  go_wp2_with (go_at_call 104; refine (HQ.out _ HB1.out).mono ?_; rintro e w2 ⟨rfl, hb2⟩)
  go_ret2
  exact ⟨rfl, HB1.out.tr hb2⟩
/-- the first k are filled in, the others are 0 -/
def fil (C : List Int) (k : Nat) : List Int := C.take k ++ List.replicate (C.length - k) 0
theorem fil_len (C : List Int) (k : Nat) (h : k ≤ C.length) : (fil C k).length = C.length := by simp [fil]; omega
theorem fil_zero (C : List Int) : fil C 0 = List.replicate C.length 0 := by simp [fil]
theorem fil_all (C : List Int) : fil C C.length = C := by simp [fil]
theorem fil_set (C : List Int) (k : Nat) (h : k < C.length) : (fil C k).set k (C.getD k 0) = fil C (k + 1) := by
  apply List.ext_getElem?
  intro i
  have e1 : C.getD k 0 = C[k] := by rw [List.getD_eq_getElem?_getD, List.getElem?_eq_getElem h]; rfl
  rw [e1]
  unfold fil
  rcases Nat.lt_trichotomy i k with g | g | g
  · rw [List.getElem?_set_ne (by omega), List.getElem?_append_left (by simp; omega), List.getElem?_append_left (by simp; omega), List.getElem?_take_of_lt g, List.getElem?_take_of_lt (by omega)]
  · subst g
    rw [List.getElem?_set_self (by simp; omega), List.getElem?_append_left (by simp; omega), List.getElem?_take_of_lt (by omega), List.getElem?_eq_getElem h]
  · rw [List.getElem?_set_ne (by omega), List.getElem?_append_right (by simp; omega), List.getElem?_append_right (by simp; omega), List.getElem?_replicate, List.getElem?_replicate]
    simp only [List.length_take]
    have : (i - min k C.length < C.length - k) = (i - min (k + 1) C.length < C.length - (k + 1)) := by apply propext; omega
    simp only [this]
theorem zs_set (L : List Int) (k : Nat) (y : Int) : (zs L).toArray.setIfInBounds k (.int .i64 y) = (zs (L.set k y)).toArray := by
  apply Array.toList_inj.1
  rw [Array.toList_setIfInBounds]
  simp [zs, List.map_set]
set_option maxHeartbeats 8000000 in
set_option maxRecDepth 100000 in
theorem Centred_ok (A : Option Addr) (c n : Nat) (L : List Int) (n1 : 2 ≤ n) (n2 : n ≤ 32) (hs : Sam L) (w : World) (h1 : Zi w A n L) :
    Calls Try.prog 63 #[.slice A n c] w fun e w' => ∃ g, e = .returned (.tuple #[.slice (some ⟨g, 0, none⟩) n n, .int .i64 0]) ∧ w.heap.size ≤ g ∧ Bk w' g 3 (zs (cen L)).toArray ∧ Bel w w' := by
  obtain ⟨i0, hi0, hz0, hz1, hz2⟩ := info_parts info_int
  have HI := Lib.hid (And.intro hi0 (And.intro hz0 (And.intro hz1 hz2)))
  clear hi0 hz0 hz1 hz2
  have H1 := Lib.hid h1
  have HS := Lib.hid hs
  have hl := h1.1
  have HC : Hid ((cen L).length = n) := by show _ = _; unfold cen; rw [af_len, hl]
  have i2 : (n : Int) ≤ 32 := by omega
  have i1 : 2 ≤ (n : Int) := by omega
  have i3 : 2 ≤ n := n1
  have HW := Lib.hid (window_ok A c n L n1 n2 hs w h1)
  clear h1 hs
  go_enter Try.func63, Try.ntmps63
  go_wp2_with fail
  go_at_call 56
  refine HW.out.mono ?_
  rintro e w1 ⟨rfl, hb1⟩
  have HB1 := Lib.hid hb1
  clear hb1
  go_wp2
  go_loopw [5, 18] (fun s5 s18 wr => ∃ (t : Nat) (V : World) (s : Int), V = wr ∧ t ≤ n ∧ s18 = .int .i64 (t : Int) ∧ s5 = .int .i64 s ∧ s = su ix (L.take t) ∧ Bel w wr) (fun _ s18 _ => n - (intOf s18).toNat)
  case atStart => exact ⟨0, _, 0, rfl, by omega, rfl, rfl, by simp [su], HB1.out⟩
  case round =>
    obtain ⟨t, wr, s, hwr, ht, rfl, rfl, hsx, hb⟩ := hrel
    subst hwr
    have HB := Lib.hid hb
    have b2 := bd_in (k := 32) (Bd.take (B := 1000) HS.out t) (by decide) (by have := List.length_take_le t L; omega)
    rw [← hsx] at b2
    obtain ⟨b20, b21⟩ : -32000 ≤ s ∧ s ≤ 32000 := by omega
    clear b2
    rcases Nat.lt_or_ge t n with hlt | hge
    · obtain ⟨ad, rfl, _, hac⟩ := (H1.out.bel hb).2 (by omega)
      have c1 := hac t hlt
      have hn2 := su_next ix L t (by omega)
      have px := HS.out.at t
      obtain ⟨x, hx⟩ : ∃ x, L.getD t 0 = x := ⟨_, rfl⟩
      rw [hx] at c1 px hn2
      rw [← hsx] at hn2
      obtain ⟨x0, x1⟩ := px
      have HN : Hid (s + x = su ix (L.take (t + 1))) := hn2.symm
      have ti : (t : Int) < (n : Int) := by omega
      clear hb hsx hac hx hn2
      go_wp2
      go_roundw
      case rel => exact ⟨t + 1, _, _, rfl, by omega, by go_num, rfl, HN.out, by first | exact HB.out.drwN _ | exact HB.out.drw | exact HB.out⟩
      case measure => simp [intOf]; omega
    · obtain rfl : t = n := by omega
      rw [List.take_of_length_le (by omega)] at hsx
      have HSU := Lib.hid hsx
      have cel : cen L = af (t : Int) (-s) L := by unfold cen; rw [hl, hsx]
      have HCE := Lib.hid cel
      have HR0 : Hid (∃ (k : Nat) (V : World), V = wr.alloc (.cells (zs (List.replicate t 0)).toArray 3) ∧ k ≤ t ∧ (Value.int .i64 0) = .int .i64 (k : Int) ∧ Bk (wr.alloc (.cells (zs (List.replicate t 0)).toArray 3)) wr.heap.size 3 (zs (fil (cen L) k)).toArray ∧ Bel w (wr.alloc (.cells (zs (List.replicate t 0)).toArray 3))) :=
        ⟨0, _, rfl, by omega, rfl, by rw [fil_zero, HC.out]; exact Bk.nw _ _ _, hb.al _⟩
      clear hb hsx cel
      go_wp2_with (refine wpList_make_any _ rfl (.tmp 27) (.tmp 27) 22 rfl 3 i0 (.int .i64 0) 1 Try.underlying22 HI.out.1 HI.out.2.1 HI.out.2.2.1 .i64 .i64 _ _ t t rfl rfl rfl rfl (by omega) (by rw [HI.out.2.2.2]; omega) (by omega) ?_; rw [made_i64])
      go_loopw [31] (fun s31 w2 => ∃ (k : Nat) (V : World), V = w2 ∧ k ≤ t ∧ s31 = .int .i64 (k : Int) ∧ Bk w2 wr.heap.size 3 (zs (fil (cen L) k)).toArray ∧ Bel w w2) (fun s31 _ => t - (intOf s31).toNat)
      case atStart => exact HR0.out
      case round =>
        clear HR0
        obtain ⟨k, w2, hwr, hk, rfl, hbk, hb⟩ := hrel
        subst hwr
        have HB2 := Lib.hid hb
        have HK := Lib.hid hbk
        rcases Nat.lt_or_ge k t with hlt | hge
        · obtain ⟨ad, rfl, _, hac⟩ := (H1.out.bel hb).2 (by omega)
          have c1 := hac k hlt
          have px := HS.out.at k
          have hat := af_at (t : Int) (-s) L k (by omega)
          rw [← HCE.out] at hat
          obtain ⟨x, hx⟩ : ∃ x, L.getD k 0 = x := ⟨_, rfl⟩
          rw [hx] at c1 px hat
          obtain ⟨x0, x1⟩ := px
          have mb := mul_bd (A := 32) (B := 1000) (x := (t : Int)) (y := x) (by decide) (by decide) (by omega) (by omega) x0 x1
          obtain ⟨z, hz⟩ : ∃ z, (t : Int) * x = z := ⟨_, rfl⟩
          rw [hz] at mb
          rw [Int.mul_comm x, hz] at hat
          obtain ⟨mb0, mb1⟩ : -32000 ≤ z ∧ z ≤ 32000 := by omega
          have m1 : wrap64 ((t : Int) * x) = z := by rw [hz]; exact IntWalk.wrap64_in _ (by omega)
          have m2 : wrap64 (z - s) = z - s := IntWalk.wrap64_in _ (by omega)
          have m3 : (t : Int) * x = z := hz
          have e1 : w2.cell? ⟨wr.heap.size, k, none⟩ = some (.int .i64 ((fil (cen L) k).getD k 0)) := by
            rw [hbk.cell k]
            have : (zs (fil (cen L) k))[k]? = some (.int .i64 ((fil (cen L) k).getD k 0)) := zs_at (by rw [fil_len _ _ (by rw [HC.out]; omega), HC.out]; omega)
            simpa using this
          have f1 : w2.frozen? ⟨wr.heap.size, k, none⟩ = false := hbk.fr k
          generalize (fil (cen L) k).getD k 0 = q0 at e1
          have HAT := Lib.hid hat
          have ti : (k : Int) < (t : Int) := by omega
          have hsz := HB.out.size
          clear hb hbk hac hx hat mb hz
          go_wp2
          go_roundw
          case rel =>
            refine ⟨k + 1, _, rfl, by omega, by go_num, ?_, HB2.out.st (p := ⟨wr.heap.size, k, none⟩) (by show _ ≤ _; simp only []; omega) _⟩
            have h4 := HK.out.st k (.int .i64 (z - s))
            rw [zs_set, show z - s = (cen L).getD k 0 by rw [HAT.out]; omega, fil_set _ _ (by rw [HC.out]; omega)] at h4
            rw [show z - s = (cen L).getD k 0 by rw [HAT.out]; omega]
            exact h4
          case measure => simp [intOf]; omega
        · obtain rfl : k = t := by omega
          have hbk2 := hbk
          rw [show fil (cen L) k = cen L by have := fil_all (cen L); rwa [HC.out] at this] at hbk2
          have HKK := Lib.hid hbk2
          clear hb hbk hbk2
          go_wp2
          go_ret2
          exact ⟨_, rfl, HB.out.size, HKK.out, HB2.out⟩
end Go.Proofs.Ytmgdoglnckkobaa.Nr
namespace Go.Proofs.Ytmgdoglnckkobaa.Pc
open Go.ChangeShapes Go.WideShapes Go.RowKit Wo Sr Wi Eu
set_option linter.unusedVariables false
def sts (m n : Nat) : List Int := (List.range n).map (fun k => (st m n k : Int)) ++ [(m : Int)]
theorem sts_len (m n : Nat) : (sts m n).length = n + 1 := by simp [sts]
theorem starts_c (m n : Nat) (n1 : 1 ≤ n) (n8 : n ≤ 8) (m32 : m ≤ 32) (w : World) :
    Calls Try.prog 70 #[.int .i64 (m : Int), .int .i64 (n : Int)] w fun e w' => ∃ h c, e = .returned (.slice (some ⟨h, 0, none⟩) (n + 1) c) ∧ n + 1 ≤ c ∧ w.heap.size ≤ h ∧ w'.ownsRow w.heap.size 3 1 (.slice (some ⟨h, 0, none⟩) (n + 1) c) (n + 1) (zs (sts m n)) ∧ Bel w w' := by
  refine (callsIn_wide.1 (starts_in Fence.wide 3 trivial trivial trivial rfl (by omega) m n n1 n8 m32 w)).mono ?_
  rintro e w' ⟨v, rfl, hr, hb⟩
  obtain ⟨g, c, rfl, hc, hg⟩ := row_form (L := sts m n) hr (by omega)
  exact ⟨g, c, rfl, hc, hg, hr, hb⟩
theorem sums_c (hx c m n : Nat) (L : List Int) (n1 : 1 ≤ n) (n8 : n ≤ 8) (m32 : m ≤ 32) (mc : m ≤ c) (nm : n ≤ m) (hL : ∀ x ∈ L, -64000 ≤ x ∧ x ≤ 64000) (w : World) (hz : Zi w (some ⟨hx, 0, none⟩) m L) :
    Calls Try.prog 60 #[.slice (some ⟨hx, 0, none⟩) m c, .int .i64 (n : Int)] w fun e w' => ∃ h c, e = .returned (.slice (some ⟨h, 0, none⟩) n c) ∧ n ≤ c ∧ w.heap.size ≤ h ∧ w'.ownsRow w.heap.size 3 1 (.slice (some ⟨h, 0, none⟩) n c) n (zs (pls L m n)) ∧ Bel w w' := by
  have hxl : hx < w.heap.size := by
    obtain ⟨ad, h1, h2, _⟩ := hz.2 (by omega)
    cases h1
    exact h2
  refine (callsIn_wide.1 (sums_in Fence.wide 3 trivial trivial trivial rfl (by omega) hx c m n L n1 n8 m32 mc nm hL w hz hxl)).mono ?_
  rintro e w' ⟨v, rfl, hr, hb⟩
  obtain ⟨g, c, rfl, hc, hg⟩ := row_form (L := pls L m n) hr (by omega)
  exact ⟨g, c, rfl, hc, hg, hr, hb⟩
theorem pieces_ok (m n : Nat) (n1 : 1 ≤ n) (n8 : n ≤ 8) (nm : n ≤ m) (w : World) :
    Calls Try.prog 69 #[.int .i64 (m : Int), .int .i64 (n : Int)] w fun e w' => e = .returned (.int .i64 0) ∧ Bel w w' := by
  have h1 : ¬ (n : Int) < 1 := by omega
  have h2 : ¬ (8 : Int) < (n : Int) := by omega
  have h3 : ¬ (m : Int) < (n : Int) := by omega
  have d1 : decide ((n : Int) < 1) = false := decide_eq_false h1
  have d2 : decide ((8 : Int) < (n : Int)) = false := decide_eq_false h2
  have d3 : decide ((m : Int) < (n : Int)) = false := decide_eq_false h3
  go_enter Try.func69, Try.ntmps69
  go_wp2
  go_ret
  exact ⟨rfl, by first | exact Bel.rf | exact Bel.rf.drw⟩
theorem check_ok (A : Option Addr) (c m n : Nat) (L : List Int) (m2 : 2 ≤ m) (m32 : m ≤ 32) (n1 : 1 ≤ n) (n8 : n ≤ 8) (nm : n ≤ m) (hs : Sam L) (w : World) (h1 : Zi w A m L) :
    Calls Try.prog 59 #[.slice A m c, .int .i64 (n : Int)] w fun e w' => e = .returned (.int .i64 0) ∧ Bel w w' := by
  have WK : Hid (∀ W, _) := fun W => window_ok A c m L m2 m32 hs W
  have PK : Hid (∀ W, _) := fun W => pieces_ok m n n1 n8 nm W
  have H1 := Lib.hid h1
  clear h1 hs
  go_enter Try.func59, Try.ntmps59
  go_wp2_with (go_at_call 56; refine (WK.out _ (by first | exact H1.out | exact H1.out.bel Bel.rf.drw)).mono ?_; rintro e w8 ⟨rfl, hb8⟩)
  go_wp2_with (go_at_call 69; refine (PK.out _).mono ?_; rintro e w9 ⟨rfl, hb9⟩)
  go_ret
  exact ⟨rfl, hb8.tr hb9⟩
theorem Starts_ok (m n : Nat) (m2 : 2 ≤ m) (m32 : m ≤ 32) (n1 : 1 ≤ n) (n8 : n ≤ 8) (nm : n ≤ m) (w : World) :
    Calls Try.prog 32 #[.int .i64 (m : Int), .int .i64 (n : Int)] w fun e w' => ∃ h c, e = .returned (.tuple #[.slice (some ⟨h, 0, none⟩) (n + 1) c, .int .i64 0]) ∧ n + 1 ≤ c ∧ w.heap.size ≤ h ∧ w'.ownsRow w.heap.size 3 1 (.slice (some ⟨h, 0, none⟩) (n + 1) c) (n + 1) (zs (sts m n)) ∧ Bel w w' := by
  have LK : Hid (∀ W, _) := fun W => length_ok (m : Int) (by omega) (by omega) W
  have PK : Hid (∀ W, _) := fun W => pieces_ok m n n1 n8 nm W
  have SK : Hid (∀ W, _) := fun W => starts_c m n n1 n8 m32 W
  go_enter Try.func32, Try.ntmps32
  go_wp2_with (go_at_call 68; refine (LK.out _).mono ?_; rintro e w7 ⟨rfl, rfl⟩)
  go_wp2_with (go_at_call 69; refine (PK.out _).mono ?_; rintro e w8 ⟨rfl, hb8⟩)
  go_wp2_with (go_at_call 70; refine (SK.out _).mono ?_; rintro e w9 ⟨h9, c9, rfl, q1, q2, q3, hb9⟩)
  go_ret2
  have z := hb8.size
  exact ⟨h9, c9, rfl, q1, by omega, own_lo q3 (by omega), hb8.tr hb9⟩
theorem Sums_ok (hx c m n : Nat) (L : List Int) (m2 : 2 ≤ m) (m32 : m ≤ 32) (n1 : 1 ≤ n) (n8 : n ≤ 8) (nm : n ≤ m) (mc : m ≤ c) (hs : Sam L) (w : World) (h1 : Zi w (some ⟨hx, 0, none⟩) m L) :
    Calls Try.prog 24 #[.slice (some ⟨hx, 0, none⟩) m c, .int .i64 (n : Int)] w fun e w' => ∃ h c, e = .returned (.tuple #[.slice (some ⟨h, 0, none⟩) n c, .int .i64 0]) ∧ n ≤ c ∧ w.heap.size ≤ h ∧ w'.ownsRow w.heap.size 3 1 (.slice (some ⟨h, 0, none⟩) n c) n (zs (pls L m n)) ∧ Bel w w' := by
  have CK : Hid (∀ W, _) := fun W => check_ok (some ⟨hx, 0, none⟩) c m n L m2 m32 n1 n8 nm hs W
  have SK : Hid (∀ W, _) := fun W => sums_c hx c m n L n1 n8 m32 mc nm (fun x h => by have := hs x h; omega) W
  have H1 := Lib.hid h1
  clear h1 hs
  go_enter Try.func24, Try.ntmps24
  go_wp2_with (go_at_call 59; refine (CK.out _ H1.out).mono ?_; rintro e w8 ⟨rfl, hb8⟩)
  go_wp2_with (go_at_call 60; refine (SK.out _ (H1.out.bel hb8)).mono ?_; rintro e w9 ⟨h9, c9, rfl, q1, q2, q3, hb9⟩)
  go_ret2
  have z := hb8.size
  exact ⟨h9, c9, rfl, q1, by omega, own_lo q3 (by omega), hb8.tr hb9⟩
end Go.Proofs.Ytmgdoglnckkobaa.Pc
namespace Go.Proofs.Ytmgdoglnckkobaa.Pc
open Go.ChangeShapes Go.WideShapes Go.RowKit Wo Sr Wi Ra Nr Eu
set_option linter.unusedVariables false
theorem cen_bd {L : List Int} (hs : Sam L) (h32 : L.length ≤ 32) : ∀ x ∈ cen L, -64000 ≤ x ∧ x ≤ 64000 := by
  intro x hx
  unfold cen af at hx
  obtain ⟨y, hy, rfl⟩ := List.mem_map.1 hx
  have h1 := hs y hy
  have h2 := su_in hs
  have mb := mul_bd (A := 32) (B := 1000) (x := (L.length : Int)) (y := y) (by decide) (by decide) (by omega) (by omega) h1.1 h1.2
  rw [Int.mul_comm y]
  omega
theorem cen_len (L : List Int) : (cen L).length = L.length := by unfold cen; rw [af_len]
theorem Cen_ok (hx c m n : Nat) (L : List Int) (m2 : 2 ≤ m) (m32 : m ≤ 32) (n1 : 1 ≤ n) (n8 : n ≤ 8) (nm : n ≤ m) (mc : m ≤ c) (hs : Sam L) (w : World) (h1 : Zi w (some ⟨hx, 0, none⟩) m L) :
    Calls Try.prog 26 #[.slice (some ⟨hx, 0, none⟩) m c, .int .i64 (n : Int)] w fun e w' => ∃ h c, e = .returned (.tuple #[.slice (some ⟨h, 0, none⟩) n c, .int .i64 0]) ∧ n ≤ c ∧ w.heap.size ≤ h ∧ w'.ownsRow w.heap.size 3 1 (.slice (some ⟨h, 0, none⟩) n c) n (zs (pls (cen L) m n)) ∧ Bel w w' := by
  have CK : Hid (∀ W, _) := fun W => check_ok (some ⟨hx, 0, none⟩) c m n L m2 m32 n1 n8 nm hs W
  have NK : Hid (∀ W, _) := fun W => Centred_ok (some ⟨hx, 0, none⟩) c m L m2 m32 hs W
  have SK : Hid (∀ hg W, _) := fun hg W => sums_c hg m m n (cen L) n1 n8 m32 (Nat.le_refl m) nm (cen_bd hs (by rw [h1.1]; exact m32)) W
  have HLC : Hid ((cen L).length = m) := by show _ = _; rw [cen_len, h1.1]
  have H1 := Lib.hid h1
  clear h1 hs
  go_enter Try.func26, Try.ntmps26
  go_wp2_with (go_at_call 59; refine (CK.out _ H1.out).mono ?_; rintro e w7 ⟨rfl, hb7⟩)
  have H7 := Lib.hid (H1.out.bel hb7)
  go_wp2_with (go_at_call 63; refine (NK.out _ H7.out).mono ?_; rintro e w8 ⟨g8, rfl, hg8, hk8, hb8⟩)
  have HZ8 := Lib.hid (zi_bk hk8 m HLC.out)
  go_wp2_with (go_at_call 60; refine (SK.out _ _ HZ8.out).mono ?_; rintro e w9 ⟨h9, c9, rfl, q1, q2, q3, hb9⟩)
  go_ret2
  have hbb := hb7.tr hb8
  have z := hbb.size
  exact ⟨h9, c9, rfl, q1, by omega, own_lo q3 (by omega), hbb.tr hb9⟩
theorem pls_bd {L : List Int} {m n : Nat} (hL : ∀ x ∈ L, -64000 ≤ x ∧ x ≤ 64000) (m32 : m ≤ 32) (n1 : 1 ≤ n) : ∀ k, k < n → -2048000 ≤ (pls L m n).getD k 0 ∧ (pls L m n).getD k 0 ≤ 2048000 := fun k hk => by
  rw [pls_at _ _ _ _ hk]
  have h := pg_bd (B := 64000) hL (by omega) (st m n k) (st m n (k + 1))
  have h2 := st_le m n (k + 1) (by omega) (by omega)
  omega
end Go.Proofs.Ytmgdoglnckkobaa.Pc
namespace Go.Proofs.Ytmgdoglnckkobaa.Un
set_option linter.unusedVariables false
/-- Go's quotient and rest against the rounded-down ones -/
theorem fl_parts (a b : Int) (hb : 1 ≤ b) : (a.tmod b < 0 → a.tdiv b - 1 = a / b) ∧ (0 ≤ a.tmod b → a.tdiv b = a / b) ∧ -b < a.tmod b ∧ a.tmod b < b := by
  have e := Int.mul_tdiv_add_tmod a b
  have h1 : a.tmod b < b := Int.tmod_lt_of_pos a (by omega)
  have h2 : -b < a.tmod b := by
    rcases Int.lt_or_le a 0 with h | h
    · have := Int.neg_tmod (a := -a) (b := b)
      rw [Int.neg_neg] at this
      have k := Int.tmod_lt_of_pos (-a) (b := b) (by omega)
      omega
    · have := Int.tmod_nonneg b h
      omega
  generalize a.tdiv b = t at *
  generalize a.tmod b = m at *
  subst e
  refine ⟨fun h => ?_, fun h => ?_, h2, h1⟩
  · have : b * t + m = (b + m) + b * (t - 1) := by grind
    rw [this, Int.add_mul_ediv_left _ _ (by omega), Int.ediv_eq_zero_of_lt (by omega) (by omega)]
    omega
  · rw [Int.add_comm, Int.add_mul_ediv_left _ _ (by omega), Int.ediv_eq_zero_of_lt h h1]
    omega
theorem td_bound (a b M : Int) (hb : 1 ≤ b) (h0 : -M ≤ a) (h1 : a ≤ M) : -M ≤ a.tdiv b ∧ a.tdiv b ≤ M := by
  have e := Int.mul_tdiv_add_tmod a b
  have hs := fl_parts a b hb
  have hm : (0 ≤ a → 0 ≤ a.tmod b) ∧ (a < 0 → a.tmod b ≤ 0) := by
    constructor
    · intro h; exact Int.tmod_nonneg b h
    · intro h
      have := Int.neg_tmod (a := -a) (b := b)
      rw [Int.neg_neg] at this
      have k := Int.tmod_nonneg b (show 0 ≤ -a by omega)
      omega
  generalize a.tdiv b = t at *
  generalize a.tmod b = m at *
  have hbt : (0 ≤ t → t ≤ b * t) ∧ (t ≤ 0 → b * t ≤ t) := by
    constructor
    · intro h; have := Int.mul_le_mul_of_nonneg_right hb h; omega
    · intro h; have := Int.mul_le_mul_of_nonneg_right hb (show 0 ≤ -t by omega); have e2 : b * -t = -(b * t) := by grind
      omega
  rcases Int.lt_or_le t 0 with ht | ht
  · have := hbt.2 (by omega)
    rcases Int.lt_or_le a 0 with ha | ha
    · have := hm.2 ha
      have := hs.2.2
      constructor
      · rcases Int.lt_or_le t (-M) with hx | hx
        · have hq : b * t ≤ b * (-M - 1) := Int.mul_le_mul_of_nonneg_left (by omega) (by omega)
          have hq2 : b * (-M - 1) = -(b * M) - b := by grind
          have hq3 : M ≤ b * M := by have := Int.mul_le_mul_of_nonneg_right hb (show 0 ≤ M by omega); omega
          omega
        · exact hx
      · omega
    · have := hm.1 ha
      have := hs.2.2
      have hq : b * t ≤ b * (-1) := Int.mul_le_mul_of_nonneg_left (by omega) (by omega)
      omega
  · have := hbt.1 ht
    rcases Int.lt_or_le a 0 with ha | ha
    · have := hm.2 ha
      have := hs.2.2
      rcases Int.lt_or_le 0 t with hx | hx
      · have hq : b * 1 ≤ b * t := Int.mul_le_mul_of_nonneg_left (by omega) (by omega)
        omega
      · omega
    · have := hm.1 ha
      omega
/-- a quotient rounded to the nearest integer, halves up -/
def hup (a b : Int) : Int := (2 * a + b) / (2 * b)
theorem hup_in (a b : Int) (hb : 1 ≤ b) : -b ≤ 2 * (a - hup a b * b) ∧ 2 * (a - hup a b * b) < b := by
  unfold hup
  have e := Int.emod_add_mul_ediv (2 * a + b) (2 * b)
  have h0 := Int.emod_nonneg (2 * a + b) (b := 2 * b) (by omega)
  have h1 := Int.emod_lt_of_pos (2 * a + b) (b := 2 * b) (by omega)
  generalize (2 * a + b) / (2 * b) = q at *
  have e2 : 2 * b * q = 2 * (q * b) := by grind
  omega
theorem hup_of (a b q : Int) (hb : 1 ≤ b) (h0 : -b ≤ 2 * (a - q * b)) (h1 : 2 * (a - q * b) < b) : hup a b = q := by
  unfold hup
  have e : 2 * a + b = (2 * (a - q * b) + b) + 2 * b * q := by grind
  rw [e, Int.add_mul_ediv_left _ _ (by omega), Int.ediv_eq_zero_of_lt (by omega) (by omega)]
  omega
theorem hup_scale (a b k : Int) (hb : 1 ≤ b) (hk : 1 ≤ k) : hup (a * k) (b * k) = hup a b := by
  unfold hup
  have e1 : 2 * (a * k) + b * k = (2 * a + b) * k := by grind
  have e2 : 2 * (b * k) = 2 * b * k := by grind
  rw [e1, e2, Int.mul_ediv_mul_of_pos_left _ _ (by omega)]
theorem hup_mono (a c b : Int) (hb : 1 ≤ b) (h : a ≤ c) : hup a b ≤ hup c b := by
  unfold hup
  exact Int.ediv_le_ediv (by omega) (by omega)
theorem hup_ge (a b s : Int) (hb : 1 ≤ b) : (s ≤ hup a b) ↔ (2 * s - 1) * b ≤ 2 * a := by
  unfold hup
  rw [Int.le_ediv_iff_mul_le (by omega)]
  have : s * (2 * b) = (2 * s - 1) * b + b := by grind
  omega
end Go.Proofs.Ytmgdoglnckkobaa.Un
namespace Go.Proofs.Ytmgdoglnckkobaa.Un
open Go.ChangeShapes Go.WideShapes Go.RowKit Wo
set_option linter.unusedVariables false
theorem floor_any (a b : Int) (h1 : 1 ≤ b) (h2 : b ≤ 4611686018427387904) (h3 : -4611686018427387904 ≤ a) (h4 : a ≤ 4611686018427387904) (w : World) :
    Calls Try.prog 114 #[.int .i64 a, .int .i64 b] w fun e w' => e = .returned (.int .i64 (a / b)) ∧ w = w' := by
  have m := fl_parts a b h1
  have t := td_bound a b 4611686018427387904 h1 h3 h4
  have t0 := t.1
  have t1 := t.2
  have hne : b ≠ 0 := by omega
  have e1 := m.2.2.1
  have e2 := m.2.2.2
  have tw : IntKind.i64.wrap (a.tdiv b) = a.tdiv b := IntWalk.i64_in _ (by omega)
  have tw2 : IntKind.i64.wrap (a.tdiv b - 1) = a.tdiv b - 1 := IntWalk.i64_in _ (by omega)
  rcases Int.lt_or_le (a.tmod b) 0 with h | h
  · have HE := Lib.hid (m.1 h)
    clear m t
    go_enter Try.func114, Try.ntmps114
    go_wp2
    go_ret
    exact ⟨ret_int HE.out, rfl⟩
  · have HE := Lib.hid (m.2.1 h)
    clear m t
    go_enter Try.func114, Try.ntmps114
    go_wp2
    go_ret
    exact ⟨ret_int HE.out, rfl⟩
end Go.Proofs.Ytmgdoglnckkobaa.Un
namespace Go.Proofs.Ytmgdoglnckkobaa.Rt
open Go.ChangeShapes Go.WideShapes Go.RowKit
set_option linter.unusedVariables false
theorem ret_int {k : IntKind} {a b : Int} (h : a = b) : Ending.returned (.int k a) = .returned (.int k b) := by rw [h]
theorem ret_int2 {k : IntKind} {a b c : Int} (h : a = b) : Ending.returned (.tuple #[.int k a, .int k c]) = .returned (.tuple #[.int k b, .int k c]) := by rw [h]
set_option maxHeartbeats 400000 in
theorem floor_any (n : Int) (w : World) :
    Calls Try.prog 110 #[.int .i64 n] w fun e w' => e = .returned (.int .i64 (flo n)) ∧ w = w' := by
  rcases Classical.em (n < 0) with h0 | h0
  · have b0 : decide (n < 0) = true := by simpa using h0
    go_enter Try.func110, Try.ntmps110
    go_wp2
    go_step3
    go_wp2
    rw [Exit.noGoto_ret]
    go_ret
    exact ⟨ret_int (flo_out (.inl h0)).symm, rfl⟩
  · rcases Classical.em (4611686018427387904 < n) with h1 | h1
    · have b0 : decide (n < 0) = false := by simpa using h0
      have b1 : decide (4611686018427387904 < n) = true := by simpa using h1
      go_enter Try.func110, Try.ntmps110
      go_wp2
      go_step3
      go_wp2
      rw [Exit.noGoto_ret]
      go_ret
      exact ⟨ret_int (flo_out (.inr h1)).symm, rfl⟩
    · have b0 : decide (n < 0) = false := by simpa using h0
      have b1 : decide (4611686018427387904 < n) = false := by simpa using h1
      go_enter Try.func110, Try.ntmps110
      go_wp2
      go_step3
      go_wp2
      go_step3
      go_wp2
      go_loop [3, 4, 5] (fun r s b => ∃ (k : Nat) (x : Int), Rel n x k ∧ r = .int .i64 x ∧ s = .int .i64 (n - x * x) ∧ b = .int .i64 (bitv k)) (fun _ _ b => (intOf b).toNat)
      case atStart => exact ⟨32, 0, rel_start (by omega) (by omega), rfl, by simp, rfl⟩
      case round =>
        obtain ⟨k, x, hr, rfl, rfl, rfl⟩ := hrel
        have hx0 := hr.1
        have hx1 := hr.2.1
        have hx2 := hr.2.2.1
        have hx3 : 0 ≤ x * x := Int.mul_nonneg hx0 hx0
        cases k with
        | zero =>
          have hfin := rel_end hr
          have HF := Lib.hid hfin
          clear hfin hr
          have hb0 : decide (0 < bitv 0) = false := by decide
          go_wp2
          go_ret
          exact ⟨ret_int (by rw [flo_in (by omega) (by omega), HF.out]), rfl⟩
        | succ k =>
          have hb1 := bitv_pos k
          have hb2 := (bitv_le (k := k + 1) hr.2.2.2.2.2).2
          have hm1 := (rel_bd hr).1
          have hm2 := (rel_bd hr).2
          have hh := bitv_half k
          have hyes := fun h => rel_yes (n := n) (r := x) (k := k) hr (by omega) h
          have hno := fun h => rel_no (n := n) (r := x) (k := k) hr h
          have hiff := rel_more (n := n) (r := x) (b := bitv (k + 1))
          have hend : n - x * x = 0 → isq n = x := fun h => isq_uniq hx0 (by omega) (by have e : (x + 1) * (x + 1) = x * x + 2 * x + 1 := by grind
                                                                                        omega)
          generalize hbb : bitv (k + 1) = b at *
          have HB := Lib.hid hbb
          have HH := Lib.hid hh
          have HY := Lib.hid hyes
          have HN := Lib.hid hno
          have HI := Lib.hid hiff
          have HE := Lib.hid hend
          clear hbb hh hyes hno hiff hend hr
          rcases Classical.em (n - x * x = 0) with hz | hz
          · have hz' : (n - x * x == 0) = true := by simpa using hz
            have hz2 := HE.out hz
            have HE2 := Lib.hid hz2
            clear hz2
            have HZ := Lib.hid hz
            clear hz
            go_wp2
            first | rw [Exit.noGoto_ret] | skip
            go_ret
            exact ⟨ret_int (by rw [flo_in (by omega) (by omega), HE2.out]), rfl⟩
          · have hz' : (n - x * x == 0) = false := by simpa using hz
            have HZ := Lib.hid hz
            clear hz
            rcases Classical.em ((2 * x + b) * b ≤ n - x * x) with hm | hm
            · go_wp2
              go_round
              case rel => exact ⟨k, x + b, HY.out (HI.out.1 hm), rfl, congrArg (Value.int .i64) rel_next, by rw [HH.out]⟩
              case measure => simp [intOf]; omega
            · go_wp2
              go_round
              case rel => exact ⟨k, x, HN.out (fun h => hm (HI.out.2 h)), rfl, rfl, by rw [HH.out]⟩
              case measure => simp [intOf]; omega

set_option maxHeartbeats 400000 in
theorem rfloor_any (n : Int) (w : World) :
    Calls Try.prog 118 #[.int .i64 n] w fun e w' => e = .returned (.int .i64 (flo n)) ∧ w = w' := by
  rcases Classical.em (n < 0) with h0 | h0
  · have b0 : decide (n < 0) = true := by simpa using h0
    go_enter Try.func118, Try.ntmps118
    go_wp2
    go_ret
    exact ⟨ret_int (flo_out (.inl h0)).symm, rfl⟩
  · rcases Classical.em (4611686018427387904 < n) with h1 | h1
    · have b0 : decide (n < 0) = false := by simpa using h0
      have b1 : decide (4611686018427387904 < n) = true := by simpa using h1
      go_enter Try.func118, Try.ntmps118
      go_wp2
      go_ret
      exact ⟨ret_int (flo_out (.inr h1)).symm, rfl⟩
    · have b0 : decide (n < 0) = false := by simpa using h0
      have b1 : decide (4611686018427387904 < n) = false := by simpa using h1
      go_enter Try.func118, Try.ntmps118
      go_wp2
      go_loop [3, 4] (fun r b => ∃ (k : Nat) (x : Int), Rel n x k ∧ r = .int .i64 x ∧ b = .int .i64 (bitv k)) (fun _ b => (intOf b).toNat)
      case atStart => exact ⟨32, 0, rel_start (by omega) (by omega), rfl, rfl⟩
      case round =>
        obtain ⟨k, x, hr, rfl, rfl⟩ := hrel
        have hx0 := hr.1
        have hx1 := hr.2.1
        cases k with
        | zero =>
          have hfin := rel_end hr
          have HF := Lib.hid hfin
          clear hfin hr
          have hb0 : decide (0 < bitv 0) = false := by decide
          go_wp2
          go_ret
          exact ⟨ret_int (by rw [flo_in (by omega) (by omega), HF.out]), rfl⟩
        | succ k =>
          have hb1 := bitv_pos k
          have hb2 := (bitv_le (k := k + 1) hr.2.2.2.2.2).2
          have hh := bitv_half k
          have hyes := fun h => rel_yes (n := n) (r := x) (k := k) hr (by omega) h
          have hno := fun h => rel_no (n := n) (r := x) (k := k) hr h
          generalize hbb : bitv (k + 1) = b at *
          have HB := Lib.hid hbb
          have HH := Lib.hid hh
          have HY := Lib.hid hyes
          have HN := Lib.hid hno
          clear hbb hh hyes hno hr
          have hp0 : 0 ≤ (x + b) * (x + b) := Int.mul_nonneg (by omega) (by omega)
          rcases Classical.em ((x + b) * (x + b) ≤ n) with hm | hm
          · have hl : x + b ≤ 2147483648 := of_sq_le (by omega) (by decide)
            go_wp2
            go_round
            case rel => exact ⟨k, x + b, HY.out hm, rfl, by rw [HH.out]⟩
            case measure => simp [intOf]; omega
          · rcases Classical.em (x + b ≤ 2147483648) with hl | hl
            · have hp1 : (x + b) * (x + b) ≤ 4611686018427387904 := sq_mono hl (by omega)
              go_wp2
              go_round
              case rel => exact ⟨k, x, HN.out hm, rfl, by rw [HH.out]⟩
              case measure => simp [intOf]; omega
            · go_wp2
              go_round
              case rel => exact ⟨k, x, HN.out hm, rfl, by rw [HH.out]⟩
              case measure => simp [intOf]; omega

set_option maxHeartbeats 400000 in
theorem ceil_any (n : Int) (w : World) :
    Calls Try.prog 112 #[.int .i64 n] w fun e w' => e = .returned (.int .i64 (cei n)) ∧ w = w' := by
  have hfb := flo_bd n
  have hf0 := hfb.1
  have hf1 := hfb.2
  have hsq0 : 0 ≤ flo n * flo n := Int.mul_nonneg hf0 hf0
  have hsq1 : flo n * flo n ≤ 4611686018427387904 := sq_mono hf1 hf0
  clear hfb
  rcases Classical.em (n < 0) with h0 | h0
  · have HC := Lib.hid ((cei_out (n := n) (.inl h0)).trans (flo_out (n := n) (.inl h0)).symm)
    go_enter Try.func112, Try.ntmps112
    go_wp2_with (go_at_call 110; refine (floor_any _ _).mono ?_; rintro e w' ⟨rfl, rfl⟩)
    go_ret
    exact ⟨ret_int HC.out.symm, rfl⟩
  · rcases Classical.em (4611686018427387904 < n) with h1 | h1
    · have HC := Lib.hid ((cei_out (n := n) (.inr h1)).trans (flo_out (n := n) (.inr h1)).symm)
      go_enter Try.func112, Try.ntmps112
      go_wp2_with (go_at_call 110; refine (floor_any _ _).mono ?_; rintro e w' ⟨rfl, rfl⟩)
      go_ret
      exact ⟨ret_int HC.out.symm, rfl⟩
    · have HF := Lib.hid (flo_in (n := n) (by omega) (by omega))
      rcases Classical.em (n = 0) with hz | hz
      · have HC : Hid (flo n = cei n) := by
          have hz' : isq n * isq n = n := by rw [hz, isq_zero]; rfl
          exact HF.out.trans (cei_eq (by omega) (by omega) (by omega)).symm
        have hn0 : ¬ 0 < n := by omega
        have hn1 : n ≤ 0 := by omega
        clear hz
        have hsq2 : ¬ flo n * flo n < n := by omega
        go_enter Try.func112, Try.ntmps112
        go_wp2_with (go_at_call 110; refine (floor_any _ _).mono ?_; rintro e w' ⟨rfl, rfl⟩)
        go_ret
        exact ⟨ret_int HC.out, rfl⟩
      · have hn0 : 0 < n := by omega
        rcases Classical.em (flo n * flo n < n) with hm | hm
        · have HC : Hid (flo n + 1 = cei n) := by
            have := cei_up (n := n) (by omega) (by omega) (by rw [← HF.out]; exact hm)
            rw [this, HF.out]; exact rfl
          go_enter Try.func112, Try.ntmps112
          go_wp2_with (go_at_call 110; refine (floor_any _ _).mono ?_; rintro e w' ⟨rfl, rfl⟩)
          go_ret
          exact ⟨ret_int HC.out, rfl⟩
        · have HC : Hid (flo n = cei n) := by
            have := cei_eq (n := n) (by omega) (by omega) (by rw [← HF.out]; exact hm)
            rw [this, HF.out]; exact rfl
          go_enter Try.func112, Try.ntmps112
          go_wp2_with (go_at_call 110; refine (floor_any _ _).mono ?_; rintro e w' ⟨rfl, rfl⟩)
          go_ret
          exact ⟨ret_int HC.out, rfl⟩

set_option maxHeartbeats 400000 in
theorem rceil_any (n : Int) (w : World) :
    Calls Try.prog 119 #[.int .i64 n] w fun e w' => e = .returned (.int .i64 (cei n)) ∧ w = w' := by
  have hfb := flo_bd n
  have hf0 := hfb.1
  have hf1 := hfb.2
  have hsq0 : 0 ≤ flo n * flo n := Int.mul_nonneg hf0 hf0
  have hsq1 : flo n * flo n ≤ 4611686018427387904 := sq_mono hf1 hf0
  clear hfb
  rcases Classical.em (n < 0) with h0 | h0
  · have HC := Lib.hid ((cei_out (n := n) (.inl h0)).trans (flo_out (n := n) (.inl h0)).symm)
    go_enter Try.func119, Try.ntmps119
    go_wp2_with (go_at_call 118; refine (rfloor_any _ _).mono ?_; rintro e w' ⟨rfl, rfl⟩)
    go_ret
    exact ⟨ret_int HC.out.symm, rfl⟩
  · rcases Classical.em (4611686018427387904 < n) with h1 | h1
    · have HC := Lib.hid ((cei_out (n := n) (.inr h1)).trans (flo_out (n := n) (.inr h1)).symm)
      go_enter Try.func119, Try.ntmps119
      go_wp2_with (go_at_call 118; refine (rfloor_any _ _).mono ?_; rintro e w' ⟨rfl, rfl⟩)
      go_ret
      exact ⟨ret_int HC.out.symm, rfl⟩
    · have HF := Lib.hid (flo_in (n := n) (by omega) (by omega))
      rcases Classical.em (n = 0) with hz | hz
      · have HC : Hid (flo n = cei n) := by
          have hz' : isq n * isq n = n := by rw [hz, isq_zero]; rfl
          exact HF.out.trans (cei_eq (by omega) (by omega) (by omega)).symm
        have hn0 : ¬ 0 < n := by omega
        have hn1 : n ≤ 0 := by omega
        clear hz
        have hsq2 : ¬ flo n * flo n < n := by omega
        go_enter Try.func119, Try.ntmps119
        go_wp2_with (go_at_call 118; refine (rfloor_any _ _).mono ?_; rintro e w' ⟨rfl, rfl⟩)
        go_ret
        exact ⟨ret_int HC.out, rfl⟩
      · have hn0 : 0 < n := by omega
        rcases Classical.em (flo n * flo n < n) with hm | hm
        · have HC : Hid (flo n + 1 = cei n) := by
            have := cei_up (n := n) (by omega) (by omega) (by rw [← HF.out]; exact hm)
            rw [this, HF.out]; exact rfl
          go_enter Try.func119, Try.ntmps119
          go_wp2_with (go_at_call 118; refine (rfloor_any _ _).mono ?_; rintro e w' ⟨rfl, rfl⟩)
          go_ret
          exact ⟨ret_int HC.out, rfl⟩
        · have HC : Hid (flo n = cei n) := by
            have := cei_eq (n := n) (by omega) (by omega) (by rw [← HF.out]; exact hm)
            rw [this, HF.out]; exact rfl
          go_enter Try.func119, Try.ntmps119
          go_wp2_with (go_at_call 118; refine (rfloor_any _ _).mono ?_; rintro e w' ⟨rfl, rfl⟩)
          go_ret
          exact ⟨ret_int HC.out, rfl⟩

theorem quo_out (t e : Int) (w : World) (h : ¬ QIn t e) :
    Calls Try.prog 81 #[.int .i64 t, .int .i64 e] w fun r w' => r = .returned (.tuple #[.int .i64 0, .int .i64 1]) ∧ w = w' := by
  unfold QIn at h
  rcases Classical.em (t < -2147483648) with h1 | h1
  · have b1 : decide (t < -2147483648) = true := by simpa using h1
    go_enter Try.func81, Try.ntmps81
    go_wp2
    go_ret2
    exact ⟨rfl, rfl⟩
  · have b1 : decide (t < -2147483648) = false := by simpa using h1
    rcases Classical.em (2147483648 < t) with h2 | h2
    · have b2 : decide (2147483648 < t) = true := by simpa using h2
      go_enter Try.func81, Try.ntmps81
      go_wp2
      go_ret2
      exact ⟨rfl, rfl⟩
    · have b2 : decide (2147483648 < t) = false := by simpa using h2
      rcases Classical.em (e < 1) with h3 | h3
      · have b3 : decide (e < 1) = true := by simpa using h3
        go_enter Try.func81, Try.ntmps81
        go_wp2
        go_ret2
        exact ⟨rfl, rfl⟩
      · have b3 : decide (e < 1) = false := by simpa using h3
        have b4 : decide (4611686018427387904 < e) = true := by simp; omega
        go_enter Try.func81, Try.ntmps81
        go_wp2
        go_ret2
        exact ⟨rfl, rfl⟩

set_option maxHeartbeats 400000 in
theorem quo_in (t e : Int) (w : World) (h : QIn t e) :
    Calls Try.prog 81 #[.int .i64 t, .int .i64 e] w fun r w' => r = .returned (.tuple #[.int .i64 (quo t e), .int .i64 0]) ∧ w = w' := by
  have HQ := Lib.hid h
  obtain ⟨h1, h2, h3, h4⟩ := h
  have a := sq_bd h1 h2
  have a0 := a.1
  have a1 := a.2
  have d := div_bd a0 a1 h3
  have d0 := d.1
  have d1 := d.2
  have b1 : decide (t < -2147483648) = false := by simpa using h1
  have b2 : decide (2147483648 < t) = false := by simpa using h2
  have b3 : decide (e < 1) = false := by simpa using h3
  have b4 : decide (4611686018427387904 < e) = false := by simpa using h4
  clear a d
  have HF := Lib.hid (flo_in (n := t * t / e) d0 d1)
  have hfb := flo_bd (t * t / e)
  have f0 := hfb.1
  have f1 := hfb.2
  have hq := qq_le HQ.out
  rw [← HF.out] at hq
  have q0 := hq.1
  have q1 := hq.2
  have q2 : 0 ≤ flo (t * t / e) * flo (t * t / e) := Int.mul_nonneg f0 f0
  have q3 : flo (t * t / e) * flo (t * t / e) ≤ 4611686018427387904 := sq_mono f1 f0
  clear hfb hq
  rcases Classical.em (0 ≤ t) with ht | ht
  · have HC : Hid (flo (t * t / e) = quo t e) := HF.out.trans (quo_pos ht).symm
    go_enter Try.func81, Try.ntmps81
    go_wp2_with (go_at_call 110; refine (floor_any _ _).mono ?_; rintro r w' ⟨rfl, rfl⟩)
    go_ret2
    exact ⟨ret_int2 HC.out, rfl⟩
  · rcases Classical.em (flo (t * t / e) * flo (t * t / e) * e < t * t) with hm | hm
    · have HC : Hid (-(flo (t * t / e) + 1) = quo t e) := by
        have := quo_up (t := t) (e := e) (by omega) (by rw [← HF.out]; exact hm)
        rw [this, HF.out]; exact rfl
      go_enter Try.func81, Try.ntmps81
      go_wp2_with (go_at_call 110; refine (floor_any _ _).mono ?_; rintro r w' ⟨rfl, rfl⟩)
      go_ret2
      exact ⟨ret_int2 HC.out, rfl⟩
    · have HC : Hid (-flo (t * t / e) = quo t e) := by
        have := quo_eq (t := t) (e := e) (by omega) (by rw [← HF.out]; exact hm)
        rw [this, HF.out]; exact rfl
      go_enter Try.func81, Try.ntmps81
      go_wp2_with (go_at_call 110; refine (floor_any _ _).mono ?_; rintro r w' ⟨rfl, rfl⟩)
      go_ret2
      exact ⟨ret_int2 HC.out, rfl⟩

theorem rquo_out (t e : Int) (w : World) (h : ¬ QIn t e) :
    Calls Try.prog 102 #[.int .i64 t, .int .i64 e] w fun r w' => r = .returned (.tuple #[.int .i64 0, .int .i64 1]) ∧ w = w' := by
  unfold QIn at h
  rcases Classical.em (t < -2147483648) with h1 | h1
  · have b1 : decide (t < -2147483648) = true := by simpa using h1
    go_enter Try.func102, Try.ntmps102
    go_wp2
    go_ret2
    exact ⟨rfl, rfl⟩
  · have b1 : decide (t < -2147483648) = false := by simpa using h1
    rcases Classical.em (2147483648 < t) with h2 | h2
    · have b2 : decide (2147483648 < t) = true := by simpa using h2
      go_enter Try.func102, Try.ntmps102
      go_wp2
      go_ret2
      exact ⟨rfl, rfl⟩
    · have b2 : decide (2147483648 < t) = false := by simpa using h2
      rcases Classical.em (e < 1) with h3 | h3
      · have b3 : decide (e < 1) = true := by simpa using h3
        go_enter Try.func102, Try.ntmps102
        go_wp2
        go_ret2
        exact ⟨rfl, rfl⟩
      · have b3 : decide (e < 1) = false := by simpa using h3
        have b4 : decide (4611686018427387904 < e) = true := by simp; omega
        go_enter Try.func102, Try.ntmps102
        go_wp2
        go_ret2
        exact ⟨rfl, rfl⟩

set_option maxHeartbeats 400000 in
theorem rquo_in (t e : Int) (w : World) (h : QIn t e) :
    Calls Try.prog 102 #[.int .i64 t, .int .i64 e] w fun r w' => r = .returned (.tuple #[.int .i64 (quo t e), .int .i64 0]) ∧ w = w' := by
  have HQ := Lib.hid h
  obtain ⟨h1, h2, h3, h4⟩ := h
  have a := sq_bd h1 h2
  have a0 := a.1
  have a1 := a.2
  have d := div_bd a0 a1 h3
  have d0 := d.1
  have d1 := d.2
  have b1 : decide (t < -2147483648) = false := by simpa using h1
  have b2 : decide (2147483648 < t) = false := by simpa using h2
  have b3 : decide (e < 1) = false := by simpa using h3
  have b4 : decide (4611686018427387904 < e) = false := by simpa using h4
  clear a d
  rcases Classical.em (0 ≤ t) with ht | ht
  · have HC : Hid (flo (t * t / e) = quo t e) := (flo_in d0 d1).trans (quo_pos ht).symm
    go_enter Try.func102, Try.ntmps102
    go_wp2_with (go_at_call 118; refine (rfloor_any _ _).mono ?_; rintro r w' ⟨rfl, rfl⟩)
    go_ret2
    exact ⟨ret_int2 HC.out, rfl⟩
  · rcases Classical.em (t * t % e = 0) with hm | hm
    · have HC := Lib.hid (quo_cei0 HQ.out (by omega) hm)
      have hcb := cei_bd (t * t / e)
      have c0 := hcb.1
      have c1 := hcb.2
      clear hcb
      have hb : (t * t % e == 0) = true := by simpa using hm
      have hb2 : (t * t % e != 0) = false := by simpa using hm
      clear hm
      go_enter Try.func102, Try.ntmps102
      go_wp2_with (go_at_call 119; refine (rceil_any _ _).mono ?_; rintro r w' ⟨rfl, rfl⟩)
      go_ret2
      exact ⟨ret_int2 HC.out, rfl⟩
    · have hc := quo_cei1 HQ.out (by omega) hm
      have HC := Lib.hid hc.1
      have c2 := hc.2
      have hcb := cei_bd (t * t / e + 1)
      have c0 := hcb.1
      have c1 := hcb.2
      clear hcb hc
      have hb : (t * t % e == 0) = false := by simpa using hm
      have hb2 : (t * t % e != 0) = true := by simpa using hm
      go_enter Try.func102, Try.ntmps102
      go_wp2_with (go_at_call 119; refine (rceil_any _ _).mono ?_; rintro r w' ⟨rfl, rfl⟩)
      go_ret2
      exact ⟨ret_int2 HC.out, rfl⟩

theorem quiet_left {P : Program} {f : FuncId} {args : Array Value} {w : World} {n : Nat} {v : Value}
    (h : Calls P f args (w.drewN n) fun e w' => e = .returned v ∧ w.drewN n = w') : Calls P f args (w.drewN n) fun e w'' => e = .returned v ∧ ∃ m, w'' = w.drewN m :=
  h.mono fun _ _ ⟨he, hm⟩ => ⟨he, n, hm.symm⟩
theorem flo8 : flo 8 = 2 := (flo_in (by decide) (by decide)).trans (isq_uniq (by decide) (by decide) (by decide))
theorem cei8 : cei 8 = 3 := by
  have h : isq 8 = 2 := isq_uniq (by decide) (by decide) (by decide)
  rw [cei_up (by decide) (by decide) (by rw [h]; decide), h]; rfl
theorem cei9 : cei 9 = 3 := by
  have h : isq 9 = 3 := isq_uniq (by decide) (by decide) (by decide)
  rw [cei_eq (by decide) (by decide) (by rw [h]; decide), h]
theorem quo10 : quo (-10) 2 = -8 := by
  have h : isq (-10 * -10 / 2) = 7 := isq_uniq (by decide) (by decide) (by decide)
  rw [quo_up (by decide) (by rw [h]; decide), h]; rfl
end Go.Proofs.Ytmgdoglnckkobaa.Rt
namespace Go.Proofs.Ytmgdoglnckkobaa.Sr
open Go.ChangeShapes Go.WideShapes Go.RowKit Wo Wi
set_option linter.unusedVariables false
/-- the first k numbers have been turned to others -/
def NI (n g h c : Nat) (w : World) (s21 : Value) (wr : World) : Prop := ∃ (k : Nat) (M : List Int) (V : World), V = wr ∧ k ≤ n ∧ s21 = .int .i64 (k : Int) ∧
  wr.ownsRow w.heap.size 3 1 (.slice (some ⟨h, 0, none⟩) n c) n (zs M) ∧ M.length = n ∧ Sam M ∧ Ok wr g ∧ Ch g w wr
theorem NI.drwN {n g h c : Nat} {w wr : World} {s : Value} (hh : NI n g h c w s wr) (q : Nat) : NI n g h c w s (wr.drewN q) := by
  obtain ⟨k, M, V, rfl, h1, h2, h3, h4, h5, h6, h7⟩ := hh
  exact ⟨k, M, _, rfl, h1, h2, own_bel h3 (Bel.rf.drwN q), h4, h5, h6.drwN q, h7.drwN q⟩
theorem sam_set {M : List Int} (h : Sam M) {y : Int} (h0 : -1000 ≤ y) (h1 : y ≤ 1000) (k : Nat) : Sam (M.set k y) := by
  intro x hx
  rcases List.mem_or_eq_of_mem_set hx with h' | rfl
  · exact h x h'
  · exact ⟨h0, h1⟩
theorem ni_step {n g h c k : Nat} {w wr w1 : World} {M : List Int} {y : Int} (hgB : g < w.heap.size) (hk : k < n) (hM : M.length = n) (hs : Sam M) (y0 : -1000 ≤ y) (y1 : y ≤ 1000)
    (hown : wr.ownsRow w.heap.size 3 1 (.slice (some ⟨h, 0, none⟩) n c) n (zs M)) (hB : w.heap.size ≤ h) (hcw : Ch g w wr) (ho1 : Ok w1 g) (hc1 : Ch g wr w1) :
    NI n g h c w (.int .i64 ((k : Int) + 1)) (w1.setCell ⟨h, k, none⟩ (.int .i64 y)) :=
  ⟨k + 1, M.set k y, _, rfl, by omega, by congr 1, own_set (own_ch hown hc1 hgB) y, by rw [List.length_set]; exact hM, sam_set hs y0 y1 k, ho1.st (by show g < h; omega) _, (hcw.tr hc1).st2 (by show _ ≤ h; exact hB) _⟩
set_option maxHeartbeats 16000000 in
set_option maxRecDepth 100000 in
theorem near_any (g : Nat) (A : Option Addr) (cx n : Nat) (L : List Int) (n1 : 1 ≤ n) (n2 : n ≤ 1000) (hs : Sam L) (w : World) (h : Ok w g) (hx : Zi w A n L) (hne : ∀ ad, A = some ad → ad.block ≠ g) :
    Calls Try.prog 35 #[.pointer (some ⟨g, 0, none⟩), .slice A n cx] w (SomeList g n w) := by
  obtain ⟨i0, hi0, hz0, hz1, hz2⟩ := info_parts info_int
  have HI := Lib.hid (And.intro hi0 (And.intro hz0 (And.intro hz1 hz2)))
  clear hi0 hz0 hz1 hz2
  obtain ⟨ad, rfl, hab, hac⟩ := id (hx.2 (by omega))
  have HX := Lib.hid hx
  have HNE := Lib.hid hne
  have HSL := Lib.hid hs
  have HGB := Lib.hid h.lt
  have HO0 := Lib.hid h
  have hl := hx.1
  have ni1 : 1 ≤ (n : Int) := by omega
  have ni2 : (n : Int) ≤ 1000 := by omega
  clear h hx hne hs hab hac
  go_enter Try.func35, Try.ntmps35
  go_wp2_with fail
  go_at_call 10
  refine (n_any g 7 (by decide) (by decide) _ HO0.out).mono ?_
  rintro e w1 ⟨kd, rfl, kd0, kd1, ho, hc⟩
  have HO1 := Lib.hid ho
  have HC1 := Lib.hid hc
  clear ho hc
  go_wp2_with fail
  go_at_call 47
  refine (range_any g (-20) 20 (by decide) (by decide) (by decide) _ HO1.out).mono ?_
  rintro e w2 ⟨b, rfl, b0, b1, ho, hc⟩
  have HO2 := Lib.hid ho
  have HC2 : Hid (Ch g w w2) := HC1.out.tr hc
  clear ho hc
  go_wp2_with fail
  go_at_call 47
  refine (range_any g 1 3 (by decide) (by decide) (by decide) _ HO2.out).mono ?_
  rintro e w3 ⟨kk, rfl, kk0, kk1, ho, hc⟩
  have HO3 := Lib.hid ho
  have HC3 : Hid (Ch g w w3) := HC2.out.tr hc
  have hgB := HGB.out
  have hsz := HC3.out.sz
  have HOW := Lib.hid (World.ownsRow_made (base := w.heap.size) (e := 3) (size := 1) w3 #[] 0 (by omega) (by unfold maxLen; omega) rfl)
  have HX3 := Lib.hid ((HX.out.ch HC3.out HNE.out).bel (Bel.rf.al (.cells #[] 3)))
  have HXC : Hid (∀ j u, (zs L)[j]? = some u → (w3.alloc (.cells #[] 3)).cell? (ad.add j) = some u) := by
    show ∀ j u, _
    intro j u hu
    have hj : j < L.length := by
      rcases Nat.lt_or_ge j L.length with h | h
      · exact h
      · rw [List.getElem?_eq_none (by rw [zs_len]; exact h)] at hu; cases hu
    obtain ⟨ad', e, _, hcc⟩ := HX3.out.2 (by omega)
    cases e
    rw [zs_at hj] at hu
    cases hu
    exact hcc j (by omega)
  have HZL : Hid ((zs L).length = n * 1) := by show _ = _; rw [zs_len]; omega
  have HZO : Hid (∀ u ∈ zs L, u.oneCell' = true) := by
    show ∀ u ∈ zs L, _
    intro u hu
    obtain ⟨x, _, rfl⟩ := List.mem_map.1 hu
    rfl
  clear ho hc
  go_wp2_with (at_builtin; refine wpList_append_lies _ (by rfl) _ _ 22 (by rfl) w.heap.size 3 i0 _ 1 8 Try.underlying22 HI.out.1 HI.out.2.1 HI.out.2.2.1 HI.out.2.2.2 (by rfl) (by omega) (.slice (some ⟨w3.heap.size, 0, none⟩) 0 0) 0 [] (by rfl) HOW.out ad n cx (zs L) (by rfl) HZL.out HXC.out HZO.out (by omega) (by unfold maxLen; omega) (by omega) (by simp; omega) (w3.heap.size + 1) (by simp) ?_; intro h c w5 hown4 hgrow hat hlt4; rw [Nat.zero_add] at hown4; rw [List.nil_append] at hown4)
  obtain ⟨hB, -⟩ := hown4.lt h rfl
  have HC5 : Hid (Ch g w w5) := ch_grown (HC3.out.al _) hgrow (fun q e => by have e2 : w3.heap.size = q := Option.some.inj e; omega)
  have HR0 : Hid (NI n g h c w (.int .i64 0) w5) := ⟨0, L, _, rfl, by omega, rfl, hown4, hl, HSL.out, ok_grown (HO3.out.bel (Bel.rf.al _)) hgrow (fun q e => by have e2 : w3.heap.size = q := Option.some.inj e; omega), HC5.out⟩
  have HZ5 : Hid (Zi w (some ad) n L) := HX.out
  clear hown4 hgrow hat hlt4 HOW HX3 HXC HZL HZO
  try simp only [Nat.zero_add]
  go_wp2
  go_loopw [21] (fun s21 wr => NI n g h c w s21 wr) (fun s21 _ => n - (intOf s21).toNat)
  case atStart => exact HR0.out
  case round =>
    clear HR0
    obtain ⟨k, M, wr, hwr, hk, rfl, hown, hM, hS, hog, hcw⟩ := hrel
    subst hwr
    have HO := Lib.hid hown
    have HM := Lib.hid hM
    have HS := Lib.hid hS
    have HG := Lib.hid hog
    have HCW := Lib.hid hcw
    rcases Nat.lt_or_ge k n with hlt | hge
    · have c1 := (own_zi hown hM).at k hlt
      have f1 := own_fr hown k
      have pu := HS.out.at k
      obtain ⟨u, hu⟩ : ∃ u, M.getD k 0 = u := ⟨_, rfl⟩
      rw [hu] at c1 pu
      obtain ⟨u0, u1⟩ := pu
      obtain ⟨ad', e', _, hac⟩ := (HX.out.ch hcw HNE.out).2 (by omega)
      cases e'
      have px := fun j => HSL.out.at j
      have PX := Lib.hid px
      have HAC := Lib.hid hac
      have ki : (k : Int) < (n : Int) := by omega
      clear hown hM hS hog hcw hu px hac
      rcases (show kd = 0 ∨ kd = 1 ∨ kd = 2 ∨ kd = 3 ∨ kd = 4 ∨ kd = 5 ∨ kd = 6 by omega) with rfl | rfl | rfl | rfl | rfl | rfl | rfl
      · go_wp2
        go_roundw
        case rel => exact ⟨k + 1, M, _, rfl, by omega, by go_num, HO.out, HM.out, HS.out, HG.out, HCW.out⟩
        case measure => simp [intOf]; omega
      · go_wp2
        go_region_with (first
          | (go_at_call 47; refine (range_any g (-2) 2 (by decide) (by decide) (by decide) _ (by repeat (first | exact HG.out | refine Ok.drwN ?_ _))).mono ?_; rintro e w6 ⟨y, rfl, y0, y1, ho, hc⟩; have hc6 : Ch g wr w6 := (by repeat (first | exact hc | refine Ch.tr ?_ hc | exact Ch.rf.drwN _ | exact Ch.rf.drw)); have c2 : w6.cell? ⟨h, k, none⟩ = some (.int .i64 u) := hc6.kp c1 (by show h ≠ g; omega); have f2 : w6.frozen? ⟨h, k, none⟩ = false := own_fr (own_ch HO.out hc6 hgB) k; have wq : IntKind.i64.wrap (u + y) = u + y := IntWalk.i64_in _ (by omega); have HO6 := Lib.hid ho; have HC6 := Lib.hid hc6; clear ho hc hc6)
          | (go_at_call 48; refine (clip_any (u + y) (by omega) (by omega) _).mono ?_; rintro e w7 ⟨⟨z, rfl, z0, z1⟩, rfl⟩))
        all_goals
          go_wp2
          go_roundw
          case rel =>
            have hst := ni_step hgB hlt HM.out HS.out z0 z1 HO.out hB HCW.out HO6.out HC6.out
            first | exact hst | exact hst.drwN _ | exact hst.drwN 1
          case measure => simp [intOf]; omega
      · go_wp2_with (go_at_call 48; refine (clip_any (u + b) (by omega) (by omega) _).mono ?_; rintro e w7 ⟨⟨z, rfl, z0, z1⟩, rfl⟩)
        go_roundw
        case rel => exact ni_step hgB hlt HM.out HS.out z0 z1 HO.out hB HCW.out HG.out Ch.rf
        case measure => simp [intOf]; omega
      · rcases (show kk = 1 ∨ kk = 2 ∨ kk = 3 by omega) with rfl | rfl | rfl
        · go_wp2_with (go_at_call 48; refine (clip_any (u + b) (by omega) (by omega) _).mono ?_; rintro e w7 ⟨⟨z, rfl, z0, z1⟩, rfl⟩)
          go_roundw
          case rel => exact ni_step hgB hlt HM.out HS.out z0 z1 HO.out hB HCW.out HG.out Ch.rf
          case measure => simp [intOf]; omega
        · go_wp2_with (go_at_call 48; refine (clip_any (u * 2 + b) (by omega) (by omega) _).mono ?_; rintro e w7 ⟨⟨z, rfl, z0, z1⟩, rfl⟩)
          go_roundw
          case rel => exact ni_step hgB hlt HM.out HS.out z0 z1 HO.out hB HCW.out HG.out Ch.rf
          case measure => simp [intOf]; omega
        · go_wp2_with (go_at_call 48; refine (clip_any (u * 3 + b) (by omega) (by omega) _).mono ?_; rintro e w7 ⟨⟨z, rfl, z0, z1⟩, rfl⟩)
          go_roundw
          case rel => exact ni_step hgB hlt HM.out HS.out z0 z1 HO.out hB HCW.out HG.out Ch.rf
          case measure => simp [intOf]; omega
      · obtain ⟨j, hj⟩ : ∃ j, n - 1 - k = j := ⟨_, rfl⟩
        have hji : (n : Int) - 1 - (k : Int) = (j : Int) := by omega
        have hjn : (j : Int) < (n : Int) := by omega
        have c3 := HAC.out j (by omega)
        obtain ⟨v, hv⟩ : ∃ v, L.getD j 0 = v := ⟨_, rfl⟩
        have pv := PX.out j
        rw [hv] at c3 pv
        obtain ⟨v0, v1⟩ := pv
        clear hv hj
        go_wp2
        go_roundw
        case rel => exact ni_step hgB hlt HM.out HS.out v0 v1 HO.out hB HCW.out HG.out Ch.rf
        case measure => simp [intOf]; omega
      · go_wp2_with fail
        go_at_call 47
        refine (range_any g (-1) 1 (by decide) (by decide) (by decide) _ HG.out).mono ?_
        rintro e w6 ⟨y, rfl, y0, y1, ho, hc⟩
        have HO6 := Lib.hid ho
        have HC6 := Lib.hid hc
        have m0 := Int.emod_nonneg ((k : Int) + y) (b := (n : Int)) (by omega)
        have m1 := Int.emod_lt_of_pos ((k : Int) + y) (b := (n : Int)) (by omega)
        have HMD : Hid (∀ W, Calls Try.prog 23 #[.int .i64 ((k : Int) + y), .int .i64 (n : Int)] W fun e w' => e = .returned (.int .i64 (((k : Int) + y) % (n : Int))) ∧ W = w') := fun W => mod_any _ _ (by omega) (by omega) (by omega) (by omega) W
        obtain ⟨j, hj⟩ := Int.eq_ofNat_of_zero_le m0
        rw [hj] at m1 HMD
        have c3 := hc.kp (HAC.out j (by omega)) (by rw [add_block]; exact HNE.out ad rfl)
        obtain ⟨v, hv⟩ : ∃ v, L.getD j 0 = v := ⟨_, rfl⟩
        have pv := PX.out j
        rw [hv] at c3 pv
        obtain ⟨v0, v1⟩ := pv
        have c2 : w6.cell? ⟨h, k, none⟩ = some (.int .i64 u) := hc.kp c1 (by show h ≠ g; omega)
        have f2 : w6.frozen? ⟨h, k, none⟩ = false := own_fr (own_ch HO.out hc hgB) k
        clear ho hc hj hv m0
        go_wp2_with (go_at_call 23; refine (HMD.out _).mono ?_; rintro e w7 ⟨rfl, rfl⟩)
        go_roundw
        case rel => exact ni_step hgB hlt HM.out HS.out v0 v1 HO.out hB HCW.out HO6.out HC6.out
        case measure => simp [intOf]; omega
      · rcases (show kk = 1 ∨ kk = 2 ∨ kk = 3 by omega) with rfl | rfl | rfl
        · go_wp2_with (go_at_call 48; refine (clip_any (b - u) (by omega) (by omega) _).mono ?_; rintro e w7 ⟨⟨z, rfl, z0, z1⟩, rfl⟩)
          go_roundw
          case rel => exact ni_step hgB hlt HM.out HS.out z0 z1 HO.out hB HCW.out HG.out Ch.rf
          case measure => simp [intOf]; omega
        · go_wp2_with (go_at_call 48; refine (clip_any (b - u * 2) (by omega) (by omega) _).mono ?_; rintro e w7 ⟨⟨z, rfl, z0, z1⟩, rfl⟩)
          go_roundw
          case rel => exact ni_step hgB hlt HM.out HS.out z0 z1 HO.out hB HCW.out HG.out Ch.rf
          case measure => simp [intOf]; omega
        · go_wp2_with (go_at_call 48; refine (clip_any (b - u * 3) (by omega) (by omega) _).mono ?_; rintro e w7 ⟨⟨z, rfl, z0, z1⟩, rfl⟩)
          go_roundw
          case rel => exact ni_step hgB hlt HM.out HS.out z0 z1 HO.out hB HCW.out HG.out Ch.rf
          case measure => simp [intOf]; omega
    · obtain rfl : k = n := by omega
      clear hown hM hS hog hcw
      go_wp2
      go_ret
      exact ⟨_, M, rfl, HO.out, HM.out, HS.out, HG.out, HCW.out⟩
def SomePair (g : Nat) (w : World) (e : Ending) (w' : World) : Prop := ∃ (a b c d n : Nat) (L M : List Int), e = .returned (.tuple #[.slice (some ⟨a, 0, none⟩) n b, .slice (some ⟨c, 0, none⟩) n d]) ∧ 2 ≤ n ∧ n ≤ 32 ∧ a < c ∧
  w'.ownsRow w.heap.size 3 1 (.slice (some ⟨a, 0, none⟩) n b) n (zs L) ∧ w'.ownsRow w.heap.size 3 1 (.slice (some ⟨c, 0, none⟩) n d) n (zs M) ∧ L.length = n ∧ M.length = n ∧ Sam L ∧ Sam M ∧ Ok w' g ∧ Ch g w w'
set_option maxHeartbeats 4000000 in
theorem pair_any (g : Nat) (w : World) (h : Ok w g) : Calls Try.prog 8 #[.pointer (some ⟨g, 0, none⟩)] w (SomePair g w) := by
  have HGB := Lib.hid h.lt
  have HO0 := Lib.hid h
  clear h
  go_enter Try.func8, Try.ntmps8
  go_wp2_with fail
  go_at_call 45
  refine (length_any g _ HO0.out).mono ?_
  rintro e w1 ⟨n0, rfl, n1, n2, ho, hc⟩
  obtain ⟨n, rfl⟩ := Int.eq_ofNat_of_zero_le (show 0 ≤ n0 by omega)
  have HO1 := Lib.hid ho
  have HC1 := Lib.hid hc
  clear ho hc
  go_wp2_with fail
  go_at_call 9
  refine (list_any g n (by omega) _ HO1.out).mono ?_
  rintro e w2 ⟨v, L, rfl, hown, hL, hS, ho, hc⟩
  obtain ⟨a, b, rfl, hcap, ha⟩ := row_form hown (by omega)
  have HO2 := Lib.hid ho
  have HC2 := Lib.hid (HC1.out.tr hc)
  have HOA := Lib.hid hown
  have HL := Lib.hid hL
  have HS := Lib.hid hS
  have hga : g < a := by have := HGB.out; have := HC1.out.sz; omega
  have ha2 := (hown.lt a rfl).2
  clear ho hc hown hL hS
  go_wp2_with fail
  go_at_call 10
  refine (n_any g 3 (by decide) (by decide) _ HO2.out).mono ?_
  rintro e w3 ⟨x, rfl, x0, x1, ho, hc⟩
  have HO3 := Lib.hid ho
  have HC3 := Lib.hid (HC2.out.tr hc)
  have hz3 := hc.sz
  have HOA3 := Lib.hid (own_ch HOA.out hc (by have := HGB.out; have := HC1.out.sz; omega))
  clear ho hc
  rcases (show x = 0 ∨ x ≠ 0 by omega) with rfl | hx
  · go_wp2_with (go_at_call 9; refine (list_any g n (by omega) _ HO3.out).mono ?_; rintro e w4 ⟨v, M, rfl, hown, hM, hS, ho, hc⟩; obtain ⟨a', b', rfl, hcap', ha'⟩ := row_form hown (by omega))
    go_ret2
    exact ⟨a, b, a', b', n, L, M, rfl, by omega, by omega, by omega, (own_ch HOA3.out hc (by have := HGB.out; have := HC1.out.sz; omega)).mono HC1.out.sz, hown.mono HC3.out.sz, HL.out, hM, HS.out, hS, ho, HC3.out.tr hc⟩
  · go_wp2_with (go_at_call 35; refine (near_any g (some ⟨a, 0, none⟩) b n L (by omega) (by omega) HS.out _ HO3.out (own_zi HOA3.out HL.out) (fun ad e => by cases e; show a ≠ g; omega)).mono ?_; rintro e w4 ⟨v, M, rfl, hown, hM, hS, ho, hc⟩; obtain ⟨a', b', rfl, hcap', ha'⟩ := row_form hown (by omega))
    go_ret2
    exact ⟨a, b, a', b', n, L, M, rfl, by omega, by omega, by omega, (own_ch HOA3.out hc (by have := HGB.out; have := HC1.out.sz; omega)).mono HC1.out.sz, hown.mono HC3.out.sz, HL.out, hM, HS.out, hS, ho, HC3.out.tr hc⟩
end Go.Proofs.Ytmgdoglnckkobaa.Sr
namespace Go.Proofs.Ytmgdoglnckkobaa.Ra
open Go.ChangeShapes Go.WideShapes Go.RowKit Wo
set_option linter.unusedVariables false
theorem common_any (a b : Int) (ha : 0 ≤ a) (hb : 0 ≤ b) (w : World) :
    Calls Try.prog 87 #[.int .i64 a, .int .i64 b] w fun e w' => e = .returned (.int .i64 (gd a b)) ∧ ∃ n, w' = w.drewN n := by
  go_enter Try.func87, Try.ntmps87
  go_wp2
  go_loopw [0, 1] (fun x y wr => ∃ p q : Int, x = .int .i64 p ∧ y = .int .i64 q ∧ 0 ≤ p ∧ 0 ≤ q ∧ gd p q = gd a b ∧ ∃ n, wr = w.drewN n) (fun _ y _ => (intOf y).toNat)
  case atStart => exact ⟨a, b, rfl, rfl, ha, hb, rfl, 0, rfl⟩
  case round =>
    obtain ⟨p, q, rfl, rfl, hp, hq, hg, n, rfl⟩ := hrel
    rcases Classical.em (q = 0) with hz | hz
    · subst hz
      have HG := Lib.hid hg
      clear hg
      go_wp2
      go_ret
      exact ⟨ret_int (by rw [← HG.out, gd_zero hp]), n, rfl⟩
    · have hq1 : 0 < q := by omega
      have hne : (q != 0) = true := by simpa using hz
      have HG : Hid (gd q (p % q) = gd a b) := (gd_step hp hq1).trans hg
      have hm0 : 0 ≤ p % q := Int.emod_nonneg _ (by omega)
      have hm1 : p % q < q := Int.emod_lt_of_pos _ hq1
      clear hg
      go_wp2
      go_quiet (fail)
      go_wp2
      go_roundw
      case rel => exact ⟨q, p % q, rfl, rfl, by omega, hm0, HG.out, _, World.drewN_drewN _ _ _⟩
      case measure => simp [intOf]; omega
theorem rvalid_ok (n d : Int) (h : RV n d) (w : World) :
    Calls Try.prog 42 #[.agg #[.int .i64 n, .int .i64 d]] w fun e w' => e = .returned (.bool true) ∧ Bel w w' := by
  have hg := h.2
  obtain ⟨⟨h0, h1, h2, h3⟩, -⟩ := h
  have HC : Hid (∀ W, Calls Try.prog 87 #[.int .i64 n, .int .i64 d] W fun e w' => e = .returned (.int .i64 1) ∧ Bel W w') := fun W =>
    (common_any n d (by omega) (by omega) W).mono fun e w' ⟨he, q, hq⟩ => ⟨by rw [he, hg], by rw [hq]; exact Bel.rf.drwN _⟩
  clear hg
  go_enter Try.func42, Try.ntmps42
  go_wp2_with (go_at_call 87; refine (HC.out _).mono ?_; rintro e w1 ⟨rfl, hb1⟩)
  go_ret
  exact ⟨rfl, (Bel.rf.al _).tr hb1⟩
theorem cmpI_sub {x y u v : Int} (h : x - y = u - v) : cmpI x y = cmpI u v := by
  rcases Int.lt_trichotomy x y with g | g | g
  · rw [cmpI_lt g, cmpI_lt (by omega)]
  · rw [cmpI_eq g, cmpI_eq (by omega)]
  · rw [cmpI_gt g, cmpI_gt (by omega)]
theorem quot_lt {a b c d p q r s : Int} (hb : 1 ≤ b) (hd : 1 ≤ d) (ea : a = p * b + r) (ec : c = q * d + s) (r1 : r < b) (s0 : 0 ≤ s) (h : p < q) : a * d < c * b := by
  have h1 : (p + 1) * b ≤ q * b := Int.mul_le_mul_of_nonneg_right (by omega) (by omega)
  have h2 : (p + 1) * b = p * b + b := by grind
  have h3 : a < q * b := by omega
  have h4 : a * d < q * b * d := Int.mul_lt_mul_of_pos_right h3 (by omega)
  have h5 : c * b = q * b * d + s * b := by rw [ec]; grind
  have h6 : 0 ≤ s * b := Int.mul_nonneg s0 (by omega)
  omega
set_option maxHeartbeats 2000000 in
theorem order_any (k : Nat) : ∀ (a b c d : Int), 0 ≤ a → 1 ≤ b → 0 ≤ c → 1 ≤ d → a ≤ 4611686018427387904 → b ≤ 4611686018427387904 → c ≤ 4611686018427387904 → d ≤ 4611686018427387904 → (b + d).toNat = k → ∀ w : World,
    Calls Try.prog 88 #[.int .i64 a, .int .i64 b, .int .i64 c, .int .i64 d] w fun e w' => e = .returned (.int .i64 (cmpI (a * d) (c * b))) ∧ Bel w w' := by
  induction k using Nat.strongRecOn with
  | _ k ih =>
    intro a b c d ha hb hc hd a2 b2 c2 d2 hk w
    have ea := Int.ediv_mul_add_emod a b
    have ec := Int.ediv_mul_add_emod c d
    have r0 := Int.emod_nonneg a (b := b) (by omega)
    have r1 := Int.emod_lt_of_pos a (b := b) (by omega)
    have s0 := Int.emod_nonneg c (b := d) (by omega)
    have s1 := Int.emod_lt_of_pos c (b := d) (by omega)
    have p0 : 0 ≤ a / b := Int.ediv_nonneg ha (by omega)
    have q0 : 0 ≤ c / d := Int.ediv_nonneg hc (by omega)
    have p1 : a / b ≤ a := Int.ediv_le_self _ ha
    have q1 : c / d ≤ c := Int.ediv_le_self _ hc
    have tp : a.tdiv b = a / b := Int.tdiv_eq_ediv_of_nonneg ha
    have tq : c.tdiv d = c / d := Int.tdiv_eq_ediv_of_nonneg hc
    have tr : a.tmod b = a % b := Int.tmod_eq_emod_of_nonneg ha
    have ts : c.tmod d = c % d := Int.tmod_eq_emod_of_nonneg hc
    have nb : b ≠ 0 := by omega
    have nd : d ≠ 0 := by omega
    have HEA := Lib.hid ea
    have HEC := Lib.hid ec
    have wp : IntKind.i64.wrap (a / b) = a / b := IntWalk.i64_in _ (by omega)
    have wq : IntKind.i64.wrap (c / d) = c / d := IntWalk.i64_in _ (by omega)
    have wr : IntKind.i64.wrap (a % b) = a % b := IntWalk.i64_in _ (by omega)
    have ws : IntKind.i64.wrap (c % d) = c % d := IntWalk.i64_in _ (by omega)
    rcases Int.lt_trichotomy (a / b) (c / d) with h | h | h
    · have HC : Hid (cmpI (a * d) (c * b) = -1) := cmpI_lt (quot_lt hb hd ea.symm ec.symm r1 s0 h)
      have hne : (a / b != c / d) = true := by simp; omega
      clear ea ec ih
      go_enter Try.func88, Try.ntmps88
      go_wp2
      go_quiet (fail)
      go_wp2
      go_ret
      exact ⟨ret_int HC.out.symm, by first | exact Bel.rf.drwN _ | exact Bel.rf.drw | exact Bel.rf⟩
    · have hne : (a / b != c / d) = false := by rw [h]; simp
      have hdf : a * d - c * b = a % b * d - c % d * b := by
        have e1 : a * d = a / b * b * d + a % b * d := by conv => lhs; rw [← ea]
                                                          grind
        have e2 : c * b = c / d * d * b + c % d * b := by conv => lhs; rw [← ec]
                                                          grind
        have e3 : c / d * d * b = a / b * b * d := by rw [h]; grind
        omega
      have HCM : Hid (cmpI (a * d) (c * b) = cmpI (a % b * d) (c % d * b)) := cmpI_sub hdf
      rcases Classical.em (a % b = 0) with hr | hr
      · rcases Classical.em (c % d = 0) with hs | hs
        · have HC : Hid (cmpI (a * d) (c * b) = 0) := by show _ = _; rw [HCM.out, hr, hs]; exact cmpI_eq (by omega)
          clear ea ec ih hdf
          go_enter Try.func88, Try.ntmps88
          go_wp2
          go_quiet (fail)
          go_wp2
          go_quiet (fail)
          go_wp2
          go_ret
          exact ⟨ret_int HC.out.symm, by first | exact (Bel.rf.drwN _).drwN _ | exact Bel.rf.drwN _⟩
        · have HC : Hid (cmpI (a * d) (c * b) = -1) := by
            show _ = _
            rw [HCM.out, hr]
            exact cmpI_lt (by have := Int.mul_pos (show 0 < c % d by omega) (show 0 < b by omega); omega)
          have hs2 : (c % d == 0) = false := by simpa using hs
          clear ea ec ih hdf
          go_enter Try.func88, Try.ntmps88
          go_wp2
          go_quiet (fail)
          go_wp2
          go_quiet (fail)
          go_wp2
          go_ret
          exact ⟨ret_int HC.out.symm, by first | exact (Bel.rf.drwN _).drwN _ | exact Bel.rf.drwN _⟩
      · have hr2 : (a % b == 0) = false := by simpa using hr
        rcases Classical.em (c % d = 0) with hs | hs
        · have HC : Hid (cmpI (a * d) (c * b) = 1) := by
            show _ = _
            rw [HCM.out, hs]
            exact cmpI_gt (by have := Int.mul_pos (show 0 < a % b by omega) (show 0 < d by omega); omega)
          clear ea ec ih hdf
          go_enter Try.func88, Try.ntmps88
          go_wp2
          go_quiet (fail)
          go_wp2
          go_quiet (fail)
          go_wp2
          go_ret
          exact ⟨ret_int HC.out.symm, by first | exact (Bel.rf.drwN _).drwN _ | exact Bel.rf.drwN _⟩
        · have hs2 : (c % d == 0) = false := by simpa using hs
          have HR : Hid (∀ W, Calls Try.prog 88 #[.int .i64 d, .int .i64 (c % d), .int .i64 b, .int .i64 (a % b)] W fun e w' => e = .returned (.int .i64 (cmpI (d * (a % b)) (b * (c % d)))) ∧ Bel W w') := fun W =>
            ih ((c % d + a % b).toNat) (by omega) d (c % d) b (a % b) (by omega) (by omega) (by omega) (by omega) (by omega) (by omega) (by omega) (by omega) rfl W
          have HE : Hid (cmpI (d * (a % b)) (b * (c % d)) = cmpI (a * d) (c * b)) := by
            show _ = _
            rw [HCM.out, Int.mul_comm d, Int.mul_comm b]
          clear ea ec ih hdf
          go_enter Try.func88, Try.ntmps88
          go_wp2
          go_quiet (fail)
          go_wp2
          go_quiet (fail)
          go_wp2_with (go_at_call 88; refine (HR.out _).mono ?_; rintro e w5 ⟨rfl, hb5⟩)
          go_ret
          exact ⟨ret_int HE.out, by first | exact ((Bel.rf.drwN _).drwN _).tr hb5 | exact (Bel.rf.drwN _).tr hb5⟩
    · have HC : Hid (cmpI (a * d) (c * b) = 1) := cmpI_gt (quot_lt hd hb ec.symm ea.symm s1 r0 h)
      have hne : (a / b != c / d) = true := by simp; omega
      have hlt : decide (a / b < c / d) = false := decide_eq_false (by omega)
      clear ea ec ih
      go_enter Try.func88, Try.ntmps88
      go_wp2
      go_quiet (fail)
      go_wp2
      go_ret
      exact ⟨ret_int HC.out.symm, by first | exact Bel.rf.drwN _ | exact Bel.rf.drw | exact Bel.rf⟩
theorem rcmp_ok (a b c d : Int) (h : RV a b) (k : RV c d) (w : World) :
    Calls Try.prog 43 #[.agg #[.int .i64 a, .int .i64 b], .agg #[.int .i64 c, .int .i64 d]] w fun e w' => e = .returned (.int .i64 (cmpI (a * d) (c * b))) ∧ Bel w w' := by
  have HV1 : Hid (∀ W, Calls Try.prog 42 #[.agg #[.int .i64 a, .int .i64 b]] W fun e w' => e = .returned (.bool true) ∧ Bel W w') := rvalid_ok a b h
  have HV2 : Hid (∀ W, Calls Try.prog 42 #[.agg #[.int .i64 c, .int .i64 d]] W fun e w' => e = .returned (.bool true) ∧ Bel W w') := rvalid_ok c d k
  obtain ⟨⟨h0, h1, h2, h3⟩, -⟩ := h
  obtain ⟨⟨k0, k1, k2, k3⟩, -⟩ := k
  have HO : Hid (∀ W, Calls Try.prog 88 #[.int .i64 a, .int .i64 b, .int .i64 c, .int .i64 d] W fun e w' => e = .returned (.int .i64 (cmpI (a * d) (c * b))) ∧ Bel W w') := order_any _ a b c d (by omega) (by omega) (by omega) (by omega) (by omega) (by omega) (by omega) (by omega) rfl
  clear h0 h1 h2 h3 k0 k1 k2 k3
  generalize cmpI (a * d) (c * b) = R at *
  go_enter Try.func43, Try.ntmps43
  go_wp2_with fail
  go_at_call 42
  refine (HV1.out _).mono ?_
  rintro e w1 ⟨rfl, hb1⟩
  have A1 : Bk w1 w.heap.size 37 #[.int .i64 a, .int .i64 b] := ((Bk.nw _ _ _).al _).bel hb1
  have C1 : Bk w1 (w.heap.size + 1) 37 #[.int .i64 c, .int .i64 d] := (Bk.nq _ _ _ (by simp)).bel hb1
  have HB1 : Hid (Bel w w1) := ((Bel.rf.al _).al _).tr hb1
  have HA1 := Lib.hid A1
  have HC1 := Lib.hid C1
  have l2 : w1.cell? ⟨w.heap.size + 1, 0, none⟩ = some (.int .i64 c) := C1.cell 0
  have l3 : w1.cell? ⟨w.heap.size + 1, 1, none⟩ = some (.int .i64 d) := C1.cell 1
  clear hb1 A1 C1
  go_wp2_with fail
  go_at_call 42
  refine (HV2.out _).mono ?_
  rintro e w2 ⟨rfl, hb2⟩
  have A2 := HA1.out.bel hb2
  have C2 := HC1.out.bel hb2
  have m0 : w2.cell? ⟨w.heap.size, 0, none⟩ = some (.int .i64 a) := A2.cell 0
  have m1 : w2.cell? ⟨w.heap.size, 1, none⟩ = some (.int .i64 b) := A2.cell 1
  have m2 : w2.cell? ⟨w.heap.size + 1, 0, none⟩ = some (.int .i64 c) := C2.cell 0
  have m3 : w2.cell? ⟨w.heap.size + 1, 1, none⟩ = some (.int .i64 d) := C2.cell 1
  have HB2 := Lib.hid (HB1.out.tr hb2)
  clear hb2 A2 C2 l2 l3
  go_wp2_with (go_at_call 88; refine (HO.out _).mono ?_; rintro e w3 ⟨rfl, hb3⟩)
  go_ret
  exact ⟨rfl, HB2.out.tr hb3⟩
end Go.Proofs.Ytmgdoglnckkobaa.Ra
namespace Go.Proofs.Ytmgdoglnckkobaa.Nr
open Go.ChangeShapes Go.WideShapes Go.RowKit Wo Sr Wi Ra
set_option linter.unusedVariables false
theorem bel_grown {w a b : World} {row : Option Nat} (h : Bel w a) (hg : a.grownBy b row) (hr : ∀ q, row = some q → w.heap.size ≤ q) : Bel w b := Below.grown h hg h.size hr
theorem own_base {w : World} {base size n : Nat} {e : TypeId} {v : Value} {xs : List Value} (h : w.ownsRow base e size v n xs) : ∀ q, v.ownBlock = some q → base ≤ q := fun q e => (h.lt q e).1
theorem zs_one (M : List Int) : ∀ u ∈ zs M, u.oneCell' = true := by
  intro u hu
  obtain ⟨x, _, rfl⟩ := List.mem_map.1 hu
  rfl
theorem zi_news {w : World} {ad : Addr} {m : Nat} {M : List Int} (hz : Zi w (some ad) m M) : ∀ j u, (zs M)[j]? = some u → w.cell? (ad.add j) = some u := by
  intro j u hu
  have hj : j < M.length := by
    rcases Nat.lt_or_ge j M.length with h | h
    · exact h
    · rw [List.getElem?_eq_none (by rw [zs_len]; exact h)] at hu; cases hu
  obtain ⟨ad', e, _, hcc⟩ := hz.2 (by have := hz.1; omega)
  cases e
  rw [zs_at hj] at hu
  cases hu
  exact hcc j (by have := hz.1; omega)
theorem run_app (w : World) (ty : TypeId) (base : Nat) (v : Value) (n : Nat) (L : List Int) (hown : w.ownsRow base 3 1 v n (zs L)) (ad : Addr) (m c : Nat) (M : List Int) (hz : Zi w (some ad) m M) (hn : n + m ≤ 1000000) (hbase : base ≤ w.heap.size) :
    ∃ v' w', (Builtin.append_ #[22, 22] ty #[v, .slice (some ad) m c]).run Try.prog w = .ok v' w' ∧ w'.ownsRow base 3 1 v' (n + m) (zs (L ++ M)) ∧ w.grownBy w' v.ownBlock ∧ (v'.ownBlock = v.ownBlock ∨ v'.ownBlock = some w.heap.size) := by
  obtain ⟨i0, hi0, hz0, hz1, hz2⟩ := info_parts info_int
  obtain ⟨v', w', hr, h2, h3, _, h5⟩ := run_append_own_at (P := Try.prog) w base 22 ty 3 i0 (.int .i64 0) 1 8 Try.underlying22 hi0 hz0 hz1 hz2 (by rfl) (by omega) v n (zs L) hown ad m c (zs M) (by rw [zs_len, hz.1]; omega) (zi_news hz) (zs_one M) (by unfold maxLen; omega) (by omega) hbase
  exact ⟨v', w', hr, by rw [zs_app]; exact h2, h3, h5⟩
theorem wp_app (w : World) {o : Oper} {a : Act} {K : Act → World → Prop} {Q : Exit → Act → World → Prop} (s x : Operand)
    (ho : o.op = .call { callee := .builtin .append, args := #[s, x], argTypes := #[22, 22] })
    (base : Nat) (v : Value) (n : Nat) (L : List Int) (hs : a.eval s = v) (hown : w.ownsRow base 3 1 v n (zs L)) (ad : Addr) (m c : Nat) (M : List Int) (hx : a.eval x = .slice (some ad) m c) (hz : Zi w (some ad) m M) (hn : n + m ≤ 1000000) (hbase : base ≤ w.heap.size)
    (h : ∀ v' w', w'.ownsRow base 3 1 v' (n + m) (zs (L ++ M)) → w.grownBy w' v.ownBlock → (v'.ownBlock = v.ownBlock ∨ v'.ownBlock = some w.heap.size) → K (a.put o.dst v') w') : o.wp Try.prog a w K Q := by
  obtain ⟨v', w', hr, h2, h3, h5⟩ := run_app w o.type base v n L hown ad m c M hz hn hbase
  unfold Oper.wp execOp
  simp only [ho, resolve, invoke, builtin, Sem.run_bind, Sem.run_pure, Result.andThen_ok, List.map_toArray, List.map_cons, List.map_nil, hs, hx, hr]
  exact h v' w' h2 h3 h5
/-- at a step of a region that draws its order -/
theorem step_app (w : World) {ops : Array Oper} {o : Oper} {a : Act} {K : Act → World → Prop} {Q : Exit → Act → World → Prop} {E : Prop} (hgd : o.guard = none) (s x : Operand)
    (ho : o.op = .call { callee := .builtin .append, args := #[s, x], argTypes := #[22, 22] })
    (base : Nat) (v : Value) (n : Nat) (L : List Int) (hs : a.eval s = v) (hown : w.ownsRow base 3 1 v n (zs L)) (ad : Addr) (m c : Nat) (M : List Int) (hx : a.eval x = .slice (some ad) m c) (hz : Zi w (some ad) m M) (hn : n + m ≤ 1000000) (hbase : base ≤ w.heap.size)
    (h : ∀ v' w', w'.ownsRow base 3 1 v' (n + m) (zs (L ++ M)) → w.grownBy w' v.ownBlock → (v'.ownBlock = v.ownBlock ∨ v'.ownBlock = some w.heap.size) → K (a.put o.dst v') w') :
    if Region.wanted o (yielded ops a.tmps) = true then Oper.wp Try.prog o a w K Q else E := by
  have hw : Region.wanted o (yielded ops a.tmps) = true := by simp [Region.wanted, hgd]
  rw [if_pos hw]
  exact wp_app w s x ho base v n L hs hown ad m c M hx hz hn hbase h
/-- at the list of a plain region -/
theorem list_app (w : World) {ops : Array Oper} {rest : List Oper} {o : Oper} {a : Act} {Q : Exit → Act → World → Prop} (hgd : o.guard = none) (s x : Operand)
    (ho : o.op = .call { callee := .builtin .append, args := #[s, x], argTypes := #[22, 22] })
    (base : Nat) (v : Value) (n : Nat) (L : List Int) (hs : a.eval s = v) (hown : w.ownsRow base 3 1 v n (zs L)) (ad : Addr) (m c : Nat) (M : List Int) (hx : a.eval x = .slice (some ad) m c) (hz : Zi w (some ad) m M) (hn : n + m ≤ 1000000) (hbase : base ≤ w.heap.size)
    (h : ∀ v' w', w'.ownsRow base 3 1 v' (n + m) (zs (L ++ M)) → w.grownBy w' v.ownBlock → (v'.ownBlock = v.ownBlock ∨ v'.ownBlock = some w.heap.size) → wpList Try.prog ops Q rest (a.put o.dst v') w') : wpList Try.prog ops Q (o :: rest) a w :=
  wpList_plain hgd fun _ hK => wp_app w s x ho base v n L hs hown ad m c M hx hz hn hbase fun v' w' h2 h3 h5 => hK _ _ (h v' w' h2 h3 h5)
/-- two rows of the call's own, apart from each other; below B nothing has changed -/
def Tw (B : Nat) (w0 W : World) (v : Value) (n : Nat) (L : List Int) (u : Value) (m : Nat) (M : List Int) : Prop :=
  W.ownsRow B 3 1 v n (zs L) ∧ W.ownsRow B 3 1 u m (zs M) ∧ (∀ b, v.ownBlock = some b → u.ownBlock ≠ some b) ∧ Below B w0 W ∧ B ≤ W.heap.size
theorem Tw.bel {B n m : Nat} {w0 W W' : World} {v u : Value} {L M : List Int} (h : Tw B w0 W v n L u m M) (hb : Bel W W') : Tw B w0 W' v n L u m M :=
  ⟨own_bel h.1 hb, own_bel h.2.1 hb, h.2.2.1, Below.trans h.2.2.2.1 (Below.mono hb h.2.2.2.2), by have := hb.size; have := h.2.2.2.2; omega⟩
theorem own_kept {w w' : World} {base n : Nat} {v : Value} {L : List Int} {row : Option Nat} (h : w.ownsRow base 3 1 v n (zs L)) (hg : w.grownBy w' row) (hne : ∀ b, v.ownBlock = some b → row ≠ some b) : w'.ownsRow base 3 1 v n (zs L) :=
  h.kept hg (by
    rcases hob : v.ownBlock with _ | q
    · exact .inl rfl
    · exact .inr (fun e => hne q hob e.symm))
theorem Tw.app1 {B n m n' : Nat} {w0 W W' : World} {v u v' : Value} {L M L' : List Int} (h : Tw B w0 W v n L u m M) (ho : W'.ownsRow B 3 1 v' n' (zs L')) (hg : W.grownBy W' v.ownBlock) (hat : v'.ownBlock = v.ownBlock ∨ v'.ownBlock = some W.heap.size) : Tw B w0 W' v' n' L' u m M := by
  obtain ⟨h1, h2, h3, h4, h5⟩ := h
  refine ⟨ho, own_kept h2 hg (fun b e e2 => h3 b e2 e), fun b e e2 => ?_, Below.grown h4 hg h5 (own_base h1), by have := hg.size; omega⟩
  rcases hat with hat | hat
  · exact h3 b (hat ▸ e) e2
  · rw [hat] at e
    cases e
    have := (h2.lt _ e2).2
    omega
theorem Tw.app2 {B n m m' : Nat} {w0 W W' : World} {v u u' : Value} {L M M' : List Int} (h : Tw B w0 W v n L u m M) (ho : W'.ownsRow B 3 1 u' m' (zs M')) (hg : W.grownBy W' u.ownBlock) (hat : u'.ownBlock = u.ownBlock ∨ u'.ownBlock = some W.heap.size) : Tw B w0 W' v n L u' m' M' := by
  obtain ⟨h1, h2, h3, h4, h5⟩ := h
  refine ⟨own_kept h1 hg (fun b e e2 => h3 b e e2), ho, fun b e e2 => ?_, Below.grown h4 hg h5 (own_base h2), by have := hg.size; omega⟩
  rcases hat with hat | hat
  · exact h3 b e (hat ▸ e2)
  · rw [hat] at e2
    cases e2
    have := (h1.lt _ e).2
    omega
theorem Tw.o1 {B n m : Nat} {w0 W : World} {v u : Value} {L M : List Int} (h : Tw B w0 W v n L u m M) : W.ownsRow B 3 1 v n (zs L) := h.1
theorem Tw.o2 {B n m : Nat} {w0 W : World} {v u : Value} {L M : List Int} (h : Tw B w0 W v n L u m M) : W.ownsRow B 3 1 u m (zs M) := h.2.1
theorem Tw.base {B n m : Nat} {w0 W : World} {v u : Value} {L M : List Int} (h : Tw B w0 W v n L u m M) : B ≤ W.heap.size := h.2.2.2.2
theorem Tw.low {B n m : Nat} {w0 W : World} {v u : Value} {L M : List Int} (h : Tw B w0 W v n L u m M) : Below B w0 W := h.2.2.2.1
theorem Tw.nil {B : Nat} {w0 W : World} (hb : Below B w0 W) (hB : B ≤ W.heap.size) : Tw B w0 W (.slice none 0 0) 0 [] (.slice none 0 0) 0 [] :=
  ⟨World.ownsRow_nil _ _ _ _, World.ownsRow_nil _ _ _ _, fun b (e : none = some b) => (by cases e), hb, hB⟩
/-- a block made in the round stays as it is when a row of before is appended to -/
theorem bk_grown {W W' : World} {g N : Nat} {t : TypeId} {cs : Array Value} {row : Option Nat} (h : Bk W g t cs) (hg : W.grownBy W' row) (hr : ∀ b, row = some b → b < N) (hN : N ≤ g) : Bk W' g t cs :=
  (hg.block g h.lt (fun e => by have := hr g e.symm; omega)).trans h
theorem rev_at (L : List Int) (t : Nat) (h : t < L.length) : L.reverse.getD t 0 = L.getD (L.length - 1 - t) 0 := by
  rw [List.getD_eq_getElem?_getD, List.getD_eq_getElem?_getD, List.getElem?_reverse h]
/-- a gap is 1 only where the product is 0, and less where it is greater -/
theorem gap_one {v w c : Int} (v0 : 0 ≤ v) (w0 : 0 ≤ w) (v1 : v ≤ 1024000000) (w1 : w ≤ 1024000000) (h : c * c ≤ v * w) :
    ((rN v w c = 1 ∧ rD v w c = 1) ↔ (c = 0 ∧ (v ≠ 0 ∨ w ≠ 0))) ∧ (rN v w c < rD v w c ↔ (0 < c ∨ (v = 0 ∧ w = 0))) ∧ rN v w c ≤ 2 * rD v w c := by
  obtain ⟨a1, a2, a3, a4, a5, a6⟩ := red_in v0 w0 v1 w1 h
  have g := gap_in v0 w0 v1 w1 h
  have hD : 0 < gD v w := by omega
  have hzero : v = 0 ∨ w = 0 → c = 0 := fun h0 => by
    have : v * w = 0 := by rcases h0 with rfl | rfl <;> simp
    have h2 := sq_nn c
    have : c * c = 0 := by omega
    rcases Int.mul_eq_zero.1 this with h | h <;> exact h
  have hle : ∀ k : Int, rN v w c < k * rD v w c ↔ gN v w c < k * gD v w := fun k => by
    constructor
    · intro hh
      have h2 := Int.mul_lt_mul_of_pos_right hh hD
      rw [a2, show k * rD v w c * gD v w = k * gD v w * rD v w c by grind] at h2
      exact Int.lt_of_mul_lt_mul_right h2 (by omega)
    · intro hh
      have h2 := Int.mul_lt_mul_of_pos_right hh (show 0 < rD v w c by omega)
      rw [← a2, show k * gD v w * rD v w c = k * rD v w c * gD v w by grind] at h2
      exact Int.lt_of_mul_lt_mul_right h2 (by omega)
  have heq : (rN v w c = 1 ∧ rD v w c = 1) ↔ gN v w c = gD v w := by
    constructor
    · rintro ⟨h1, h2⟩
      rw [h1, h2] at a2
      omega
    · intro he
      exact red_cross v0 w0 v1 w1 h one_rv.2.1 (by omega)
  have key : gN v w c - gD v w = 0 ↔ (c = 0 ∧ (v ≠ 0 ∨ w ≠ 0)) := by
    unfold gN gD
    rcases Classical.em (v = 0) with hv | hv
    · rw [if_pos hv, if_pos hv]
      have := hzero (.inl hv)
      rcases Classical.em (w = 0) with hw | hw
      · rw [if_pos hw]; omega
      · rw [if_neg hw]; omega
    · rw [if_neg hv, if_neg hv]
      rcases Classical.em (w = 0) with hw | hw
      · rw [if_pos hw, if_pos hw]
        have := hzero (.inr hw)
        omega
      · rw [if_neg hw, if_neg hw]
        have := sg_zero c
        omega
  have key2 : gN v w c < gD v w ↔ (0 < c ∨ (v = 0 ∧ w = 0)) := by
    unfold gN gD
    rcases Classical.em (v = 0) with hv | hv
    · rw [if_pos hv, if_pos hv]
      have := hzero (.inl hv)
      rcases Classical.em (w = 0) with hw | hw
      · rw [if_pos hw]; omega
      · rw [if_neg hw]; omega
    · rw [if_neg hv, if_neg hv]
      rcases Classical.em (w = 0) with hw | hw
      · rw [if_pos hw, if_pos hw]
        have := hzero (.inr hw)
        omega
      · rw [if_neg hw, if_neg hw]
        have := sg_pos c
        omega
  refine ⟨heq.trans ⟨fun e => key.1 (by omega), fun e => by have := key.2 e; omega⟩, ?_, ?_⟩
  · have := hle 1
    rw [Int.one_mul, Int.one_mul] at this
    exact this.trans key2
  · rcases Int.lt_or_le (2 * rD v w c) (rN v w c) with hh | hh
    · exfalso
      have h2 := Int.mul_lt_mul_of_pos_right hh hD
      rw [a2, show 2 * rD v w c * gD v w = 2 * gD v w * rD v w c by grind] at h2
      have h3 := Int.lt_of_mul_lt_mul_right h2 (show 0 ≤ rD v w c by omega)
      omega
    · exact hh
/-- the gap to a copy that is scaled -/
theorem gap_self {v f : Int} (v0 : 0 ≤ v) (f0 : 1 ≤ f) (v1 : v ≤ 1024000000) (w1 : f * f * v ≤ 1024000000) :
    (rN v (f * f * v) (f * v) = 0 ∧ rD v (f * f * v) (f * v) = 1) ∧ (rN v (f * f * v) (-f * v) = (if v = 0 then 0 else 2) ∧ rD v (f * f * v) (-f * v) = 1) := by
  have hff : 0 < f * f := Int.mul_pos (by omega) (by omega)
  have w0 : 0 ≤ f * f * v := Int.mul_nonneg (by omega) v0
  have cs : f * v * (f * v) ≤ v * (f * f * v) := by
    have : f * v * (f * v) = v * (f * f * v) := by grind
    omega
  have cs2 : -f * v * (-f * v) ≤ v * (f * f * v) := by
    have : -f * v * (-f * v) = v * (f * f * v) := by grind
    omega
  rcases Classical.em (v = 0) with hv | hv
  · subst hv
    rw [if_pos rfl]
    refine ⟨red_cross (by decide) w0 (by decide) w1 cs one_rv.1 ?_, red_cross (by decide) w0 (by decide) w1 cs2 one_rv.1 ?_⟩
    · unfold gN; simp
    · unfold gN; simp
  · have hw : f * f * v ≠ 0 := by have := Int.mul_pos hff (show 0 < v by omega); omega
    have hpos : 0 < f * v := Int.mul_pos (by omega) (by omega)
    have hneg : -f * v < 0 := by have : -f * v = -(f * v) := by grind
                                 omega
    rw [if_neg hv]
    refine ⟨red_cross v0 w0 v1 w1 cs one_rv.1 ?_, red_cross v0 w0 v1 w1 cs2 one_rv.2.2 ?_⟩
    · unfold gN sg
      rw [if_neg hv, if_neg hw, if_neg (by omega)]
      grind
    · unfold gN gD sg
      rw [if_neg hv, if_neg hv, if_neg hw, if_neg hw, if_pos hneg]
      grind
/-- t samples have been divided by 5 -/
def q5 (a : Int) : Int := a.tdiv 5
theorem q5_in {a : Int} (h0 : -1000 ≤ a) (h1 : a ≤ 1000) : -200 ≤ q5 a ∧ q5 a ≤ 200 := by
  unfold q5
  rcases Int.lt_or_le a 0 with h | h
  · have e : a.tdiv 5 = -((-a).tdiv 5) := by rw [Int.neg_tdiv, Int.neg_neg]
    rw [e, Int.tdiv_eq_ediv_of_nonneg (by omega)]
    omega
  · rw [Int.tdiv_eq_ediv_of_nonneg (by omega)]
    omega
def mix (f : Int → Int) (L : List Int) (t : Nat) : List Int := (L.map f).take t ++ L.drop t
theorem mix_len (f : Int → Int) (L : List Int) (t : Nat) : (mix f L t).length = L.length := by simp [mix]; omega
theorem mix_at (f : Int → Int) (L : List Int) (t : Nat) (h : t < L.length) : (mix f L t).getD t 0 = L.getD t 0 := by
  simp only [mix, List.getD_eq_getElem?_getD]
  rw [List.getElem?_append_right (by simp; omega)]
  simp [List.length_take, Nat.min_eq_left (Nat.le_of_lt h)]
theorem mix_set (f : Int → Int) (L : List Int) (t : Nat) (h : t < L.length) : (mix f L t).set t (f (L.getD t 0)) = mix f L (t + 1) := by
  unfold mix
  have e : L.drop t = L.getD t 0 :: L.drop (t + 1) := by
    rw [List.drop_eq_getElem_cons h, List.getD_eq_getElem?_getD, List.getElem?_eq_getElem h]; rfl
  rw [e, List.set_append_right _ _ (by simp; omega)]
  have e2 : t - ((L.map f).take t).length = 0 := by simp; omega
  rw [e2, List.set_cons_zero, take_snoc (L.map f) t (by simpa using h), List.append_assoc]
  congr 2
  simp [List.getD_eq_getElem?_getD, h]
theorem mix_all (f : Int → Int) (L : List Int) : mix f L L.length = L.map f := by
  unfold mix
  rw [List.drop_length, List.append_nil, List.take_of_length_le (by simp)]
theorem map_at (f : Int → Int) (L : List Int) (t : Nat) (h : t < L.length) : (L.map f).getD t 0 = f (L.getD t 0) := by
  rw [List.getD_eq_getElem?_getD, List.getD_eq_getElem?_getD, List.getElem?_map, List.getElem?_eq_getElem h]; rfl
/-- a row of below B is as it was -/
theorem own_blw {w w' : World} {B base h n c : Nat} {xs : List Value} {e : TypeId} (hown : w.ownsRow base e 1 (.slice (some ⟨h, 0, none⟩) n c) n xs) (hb : Below B w w') (hB : h < B) : w'.ownsRow base e 1 (.slice (some ⟨h, 0, none⟩) n c) n xs := by
  refine ⟨hown.1, ?_⟩
  rcases hown.2 with ⟨h0, _⟩ | ⟨g, cap, cur, e1, hbb, hg, rest⟩
  · cases h0
  · have e2 := e1
    injection e1 with e1 _ _
    injection e1 with e1
    cases e1
    exact .inr ⟨h, cap, cur, e2, hbb, (Below.block hb h hB).trans hg, rest⟩
/-- a block of one number, new -/
theorem zi_one {W : World} {g : Nat} {x : Int} (hb : Bk W g 3 #[.int .i64 x]) : Zi W (some ⟨g, 0, none⟩) 1 [x] := zi_bk (L := [x]) hb 1 rfl
/-- gaps have the order of the products, from the greatest to the least -/
theorem gap_ord {v w m n : Int} (v0 : 0 < v) (w0 : 0 < w) (v1 : v ≤ 1024000000) (w1 : w ≤ 1024000000) (h : m * m ≤ v * w) (k : n * n ≤ v * w) :
    (rN v w m * rD v w n < rN v w n * rD v w m ↔ n < m) ∧ ((rN v w m = rN v w n ∧ rD v w m = rD v w n) ↔ m = n) := by
  obtain ⟨a1, a2, a3, a4, a5, a6⟩ := red_in (v := v) (w := w) (c := m) (by omega) (by omega) v1 w1 h
  obtain ⟨b1, b2, b3, b4, b5, b6⟩ := red_in (v := v) (w := w) (c := n) (by omega) (by omega) v1 w1 k
  have hD : 0 < v * w := Int.mul_pos v0 w0
  have so := sg_ord n m
  have eD : gD v w = v * w := by unfold gD; rw [if_neg (by omega), if_neg (by omega)]
  have eN : ∀ c, gN v w c = v * w - sg c := fun c => by unfold gN; rw [if_neg (by omega), if_neg (by omega)]
  rw [eD, eN] at a2 b2
  generalize rN v w m = x at *
  generalize rD v w m = y at *
  generalize rN v w n = p at *
  generalize rD v w n = q at *
  generalize v * w = D at *
  have hP : 0 < y * q := Int.mul_pos (by omega) (by omega)
  have e1 : x * q * D = (D - sg m) * (y * q) := by
    have : x * q * D = x * D * q := by grind
    rw [this, a2]; grind
  have e2 : p * y * D = (D - sg n) * (y * q) := by
    have : p * y * D = p * D * y := by grind
    rw [this, b2]; grind
  have key : x * q < p * y ↔ n < m := by
    rw [← so.1]
    constructor
    · intro g
      have g2 := Int.mul_lt_mul_of_pos_right g hD
      rw [e1, e2] at g2
      have := Int.lt_of_mul_lt_mul_right g2 (by omega)
      omega
    · intro g
      have g2 : (D - sg m) * (y * q) < (D - sg n) * (y * q) := Int.mul_lt_mul_of_pos_right (by omega) hP
      rw [← e1, ← e2] at g2
      exact Int.lt_of_mul_lt_mul_right g2 (by omega)
  refine ⟨key, ⟨?_, ?_⟩⟩
  · rintro ⟨h1, h2⟩
    have e3 : (D - sg m) * (y * q) = (D - sg n) * (y * q) := by rw [← e1, ← e2, h1, h2]
    have := Int.eq_of_mul_eq_mul_right (by omega) e3
    have := (so.2).1 (by omega)
    omega
  · rintro rfl
    refine rv_eq a1 b1 ?_
    have e3 : x * q * D = p * y * D := by rw [e1, e2]
    exact Int.eq_of_mul_eq_mul_right (by omega) e3
end Go.Proofs.Ytmgdoglnckkobaa.Nr
namespace Go.Proofs.Ytmgdoglnckkobaa.Sk
open Go.ChangeShapes Go.WideShapes Go.RowKit Wo Sr Wi Nr Pc Eu
set_option linter.unusedVariables false
theorem ceil_any (a b : Int) (h1 : 1 ≤ b) (h2 : b ≤ 4611686018427387904) (h3 : -4611686018427387904 ≤ a) (h4 : a ≤ 4611686018427387904) (w : World) :
    Calls Try.prog 113 #[.int .i64 a, .int .i64 b] w fun e w' => e = .returned (.int .i64 (cl a b)) ∧ w = w' := by
  have m := Un.fl_parts (-a) b h1
  rw [Int.neg_tmod, Int.neg_tdiv] at m
  have t := Un.td_bound a b 4611686018427387904 h1 h3 h4
  have t0 := t.1
  have t1 := t.2
  have hne : b ≠ 0 := by omega
  have e1 := m.2.2.1
  have e2 := m.2.2.2
  have tw : IntKind.i64.wrap (a.tdiv b) = a.tdiv b := IntWalk.i64_in _ (by omega)
  have tw2 : IntKind.i64.wrap (a.tdiv b + 1) = a.tdiv b + 1 := IntWalk.i64_in _ (by omega)
  rcases Int.lt_or_le 0 (a.tmod b) with h | h
  · have HE : Hid (a.tdiv b + 1 = cl a b) := by have := m.1 (by omega); show _ = _; unfold cl; omega
    clear m t
    go_enter Try.func113, Try.ntmps113
    go_wp2
    go_ret
    exact ⟨ret_int HE.out, rfl⟩
  · have HE : Hid (a.tdiv b = cl a b) := by have := m.2.1 (by omega); show _ = _; unfold cl; omega
    clear m t
    go_enter Try.func113, Try.ntmps113
    go_wp2
    go_ret
    exact ⟨ret_int HE.out, rfl⟩
/-- the lengths of the pieces -/
def lns (m n : Nat) : List Int := (List.range n).map fun k => (ln m n k : Int)
theorem lns_len (m n : Nat) : (lns m n).length = n := by simp [lns]
theorem lns_at (m n k : Nat) (h : k < n) : (lns m n).getD k 0 = (ln m n k : Int) := by
  rw [List.getD_eq_getElem?_getD, lns, List.getElem?_map, List.getElem?_range h]; rfl
theorem sts_at (m n k : Nat) (n1 : 1 ≤ n) (h : k ≤ n) : (sts m n).getD k 0 = (st m n k : Int) := by
  rw [List.getD_eq_getElem?_getD]
  unfold sts
  rcases Nat.lt_or_ge k n with h1 | h1
  · rw [List.getElem?_append_left (by simpa using h1), List.getElem?_map, List.getElem?_range h1]; rfl
  · obtain rfl : k = n := by omega
    rw [List.getElem?_append_right (by simp)]
    simp [st_all m k n1]
/-- the value of a sketch -/
def skv (a c m n : Nat) (E : Int) : Value := .agg #[.int .i64 (m : Int), .slice (some ⟨a, 0, none⟩) n c, .int .i64 E]
set_option maxHeartbeats 8000000 in
set_option maxRecDepth 100000 in
theorem lengths_ok (a c m n : Nat) (E : Int) (m2 : 2 ≤ m) (m32 : m ≤ 32) (n1 : 1 ≤ n) (n8 : n ≤ 8) (nm : n ≤ m) (w : World) :
    Calls Try.prog 107 #[skv a c m n E] w fun e w' => ∃ g, e = .returned (.slice (some ⟨g, 0, none⟩) n n) ∧ w.heap.size ≤ g ∧ Bk w' g 3 (zs (lns m n)).toArray ∧ Bel w w' := by
  obtain ⟨i0, hi0, hz0, hz1, hz2⟩ := info_parts info_int
  have HI := Lib.hid (And.intro hi0 (And.intro hz0 (And.intro hz1 hz2)))
  clear hi0 hz0 hz1 hz2
  have SK : Hid (∀ W, _) := fun W => Starts_ok m n m2 m32 n1 n8 nm W
  have i1 : (n : Int) ≤ 8 := by omega
  have i2 : 1 ≤ (n : Int) := by omega
  have i3 : (m : Int) ≤ 32 := by omega
  unfold skv
  go_enter Try.func107, Try.ntmps107
  have HB0 : Hid (Bel w (w.alloc (.cells #[.int .i64 (m : Int), .slice (some ⟨a, 0, none⟩) n c, .int .i64 E] 67))) := Bel.rf.al _
  have HK0 : Hid (Bk (w.alloc (.cells #[.int .i64 (m : Int), .slice (some ⟨a, 0, none⟩) n c, .int .i64 E] 67)) w.heap.size 67 #[.int .i64 (m : Int), .slice (some ⟨a, 0, none⟩) n c, .int .i64 E]) := Bk.nw _ _ _
  go_wp2_with fail
  go_at_call 32
  refine (SK.out _).mono ?_
  rintro e w1 ⟨h1, c1, rfl, q1, q2, q3, hb1⟩
  have HZ := Lib.hid (own_zi q3 (sts_len m n))
  have HB1 := Lib.hid (HB0.out.tr hb1)
  have K1 := HK0.out.bel hb1
  have l1 : w1.cell? ⟨w.heap.size, 1, none⟩ = some (.slice (some ⟨a, 0, none⟩) n c) := K1.cell 1
  have q0 : n + 1 ≤ c1 := q1
  have q1i : (n : Int) + 1 ≤ (c1 : Int) := by omega
  have HR0 : Hid (∃ (k : Nat) (V : World), V = w1.alloc (.cells (zs (List.replicate n 0)).toArray 3) ∧ k ≤ n ∧ (Value.int .i64 0) = .int .i64 (k : Int) ∧ Bk (w1.alloc (.cells (zs (List.replicate n 0)).toArray 3)) w1.heap.size 3 (zs (fil (lns m n) k)).toArray ∧ Bel w (w1.alloc (.cells (zs (List.replicate n 0)).toArray 3)) ∧ Bel w1 (w1.alloc (.cells (zs (List.replicate n 0)).toArray 3))) :=
    ⟨0, _, rfl, by omega, rfl, by rw [fil_zero, lns_len]; exact Bk.nw _ _ _, HB1.out.al _, Bel.rf.al _⟩
  clear hb1 q3 q2 q1 K1
  go_wp2_with (refine wpList_make_any _ rfl (.tmp 20) (.tmp 20) 22 rfl 3 i0 (.int .i64 0) 1 Try.underlying22 HI.out.1 HI.out.2.1 HI.out.2.2.1 .i64 .i64 _ _ n n rfl rfl rfl rfl (by omega) (by rw [HI.out.2.2.2]; omega) (by omega) ?_; rw [made_i64])
  go_loopw [24] (fun s24 w2 => ∃ (k : Nat) (V : World), V = w2 ∧ k ≤ n ∧ s24 = .int .i64 (k : Int) ∧ Bk w2 w1.heap.size 3 (zs (fil (lns m n) k)).toArray ∧ Bel w w2 ∧ Bel w1 w2) (fun s24 _ => n - (intOf s24).toNat)
  case atStart => exact HR0.out
  case round =>
    clear HR0 l1
    obtain ⟨k, w2, hwr, hk, rfl, hbk, hb, hb1⟩ := hrel
    subst hwr
    have HB2 := Lib.hid hb
    have HB3 := Lib.hid hb1
    have HK := Lib.hid hbk
    rcases Nat.lt_or_ge k n with hlt | hge
    · have z := HZ.out.bel hb1
      have c2 := z.at (k + 1) (by omega)
      have c3 := z.at k (by omega)
      rw [sts_at m n (k + 1) n1 (by omega)] at c2
      rw [sts_at m n k n1 (by omega)] at c3
      have hs1 := st_le m n (k + 1) n1 (by omega)
      have hs2 := st_mono m n k (k + 1) (by omega)
      have HLN : Hid ((ln m n k : Int) = (st m n (k + 1) : Int) - (st m n k : Int)) := by show _ = _; unfold ln; omega
      obtain ⟨p, hp⟩ : ∃ p, st m n (k + 1) = p := ⟨_, rfl⟩
      obtain ⟨q, hq⟩ : ∃ p, st m n k = p := ⟨_, rfl⟩
      rw [hp] at c2 hs1 hs2 HLN
      rw [hq] at c3 hs2 HLN
      have p1 : (p : Int) ≤ 32 := by omega
      have p2 : (q : Int) ≤ (p : Int) := by omega
      have w1' : IntKind.i64.wrap ((p : Int) - (q : Int)) = (p : Int) - (q : Int) := IntWalk.i64_in _ (by omega)
      have e1 : w2.cell? ⟨w1.heap.size, k, none⟩ = some (.int .i64 ((fil (lns m n) k).getD k 0)) := by
        rw [hbk.cell k]
        have : (zs (fil (lns m n) k))[k]? = some (.int .i64 ((fil (lns m n) k).getD k 0)) := zs_at (by rw [fil_len _ _ (by rw [lns_len]; omega), lns_len]; omega)
        simpa using this
      have f1 : w2.frozen? ⟨w1.heap.size, k, none⟩ = false := hbk.fr k
      generalize (fil (lns m n) k).getD k 0 = q0 at e1
      have ti : (k : Int) < (n : Int) := by omega
      have ti1 : (k : Int) + 1 < (n : Int) + 1 := by omega
      have hsz := HB1.out.size
      clear hb hb1 hbk z hp hq hs1 hs2
      go_wp2
      go_region
      go_wp2
      go_roundw
      case rel =>
        refine ⟨k + 1, _, rfl, by omega, by go_num, ?_, ?_, ?_⟩
        · have h4 := HK.out.st k (.int .i64 ((p : Int) - (q : Int)))
          rw [zs_set, show (p : Int) - (q : Int) = (lns m n).getD k 0 by rw [lns_at m n k hlt]; exact HLN.out.symm, fil_set _ _ (by rw [lns_len]; omega)] at h4
          rw [show (p : Int) - (q : Int) = (lns m n).getD k 0 by rw [lns_at m n k hlt]; exact HLN.out.symm]
          first | exact h4 | exact h4.drwN _ | exact h4.drw
        · first | exact HB2.out.st (p := ⟨w1.heap.size, k, none⟩) hsz _ | exact (HB2.out.drwN _).st (p := ⟨w1.heap.size, k, none⟩) hsz _
        · first | exact HB3.out.st (p := ⟨w1.heap.size, k, none⟩) (Nat.le_refl _) _ | exact (HB3.out.drwN _).st (p := ⟨w1.heap.size, k, none⟩) (Nat.le_refl _) _
      case measure => simp [intOf]; omega
    · obtain rfl : k = n := by omega
      have hbk2 := hbk
      rw [show fil (lns m k) k = lns m k by have := fil_all (lns m k); rwa [lns_len] at this] at hbk2
      have HKK := Lib.hid hbk2
      clear hb hbk hbk2 hb1
      go_wp2
      go_ret
      exact ⟨_, rfl, HB1.out.size, HKK.out, HB2.out⟩
/-- the sums of the pieces are small -/
def Pb (X : List Int) (m n : Nat) : Prop := ∀ k, k < n → -2048000 ≤ pa X m n k ∧ pa X m n k ≤ 2048000
theorem pls_pa (X : List Int) (m n k : Nat) (h : k < n) : (pls X m n).getD k 0 = pa X m n k := pls_at X m n k h
theorem fl_bd {A l : Int} (h1 : -2048000 ≤ A) (h2 : A ≤ 2048000) (hl : 1 ≤ l) : 0 ≤ A * A ∧ A * A ≤ 4194304000000 ∧ 0 ≤ A * A / l ∧ A * A / l ≤ 4194304000000 := by
  have a := sq_bd (B := 2048000) h1 h2
  have b := Int.ediv_nonneg a.1 (show 0 ≤ l by omega)
  have c := Int.ediv_le_self l a.1
  omega
/-- the sum of the first quotients -/
def tf (X : List Int) (m n i : Nat) : Int := tq (fun k => pa X m n k * pa X m n k / (ln m n k : Int)) i
theorem tf_in {X : List Int} {m n : Nat} (h : Pb X m n) (n1 : 1 ≤ n) (nm : n ≤ m) (n8 : n ≤ 8) (i : Nat) (hi : i ≤ n) : 0 ≤ tf X m n i ∧ tf X m n i ≤ 33554432000000 := by
  have h1 := tq_fl_nn X m n i hi
  have h2 := tq_hi (f := fun k => pa X m n k * pa X m n k / (ln m n k : Int)) (n := n) (B := 4194304000000) (fun k hk => by
    have hp := ln_pos m n k n1 nm
    exact (fl_bd (h k hk).1 (h k hk).2 (by omega)).2.2.2) i hi
  unfold tf
  omega
set_option maxHeartbeats 8000000 in
set_option maxRecDepth 100000 in
theorem residual_ok (a c m n : Nat) (E : Int) (X : List Int) (hp : Pb X m n) (e0 : 0 ≤ E) (e1 : E ≤ 32768000000) (m2 : 2 ≤ m) (m32 : m ≤ 32) (n1 : 1 ≤ n) (n8 : n ≤ 8) (nm : n ≤ m) (w : World) (hz : Zi w (some ⟨a, 0, none⟩) n (pls X m n)) :
    Calls Try.prog 105 #[skv a c m n E] w fun e w' => e = .returned (.int .i64 (E - tf X m n n)) ∧ Bel w w' := by
  have LK : Hid (∀ W, Calls Try.prog 107 #[.agg #[.int .i64 (m : Int), .slice (some ⟨a, 0, none⟩) n c, .int .i64 E]] W fun e w' => ∃ g, e = .returned (.slice (some ⟨g, 0, none⟩) n n) ∧ W.heap.size ≤ g ∧ Bk w' g 3 (zs (lns m n)).toArray ∧ Bel W w') := fun W => lengths_ok a c m n E m2 m32 n1 n8 nm W
  have HP := Lib.hid hp
  have HZ := Lib.hid hz
  have i1 : (n : Int) ≤ 8 := by omega
  have i2 : 1 ≤ (n : Int) := by omega
  have i3 : (m : Int) ≤ 32 := by omega
  unfold skv
  clear hp hz
  go_enter Try.func105, Try.ntmps105
  have HB0 : Hid (Bel w (w.alloc (.cells #[.int .i64 (m : Int), .slice (some ⟨a, 0, none⟩) n c, .int .i64 E] 67))) := Bel.rf.al _
  have HK0 : Hid (Bk (w.alloc (.cells #[.int .i64 (m : Int), .slice (some ⟨a, 0, none⟩) n c, .int .i64 E] 67)) w.heap.size 67 #[.int .i64 (m : Int), .slice (some ⟨a, 0, none⟩) n c, .int .i64 E]) := Bk.nw _ _ _
  go_wp2_with fail
  go_at_call 107
  refine (LK.out _).mono ?_
  rintro e w1 ⟨g, rfl, hg, hbk, hb1⟩
  have HG : Hid (Zi w1 (some ⟨g, 0, none⟩) n (lns m n)) := zi_bk hbk n (lns_len m n)
  have HB1 := Lib.hid (HB0.out.tr hb1)
  have HK1 := Lib.hid (HK0.out.bel hb1)
  clear hb1 hg hbk
  go_wp2
  go_loopw [3, 11] (fun s3 s11 wr => ∃ (k : Nat) (V : World) (r : Int), V = wr ∧ k ≤ n ∧ s11 = .int .i64 (k : Int) ∧ s3 = .int .i64 r ∧ r = E - tf X m n k ∧ Bel w1 wr) (fun _ s11 _ => n - (intOf s11).toNat)
  case atStart => exact ⟨0, _, E, rfl, by omega, rfl, rfl, by simp [tf, tq], Bel.rf⟩
  case round =>
    obtain ⟨k, wr, r, hwr, hk, rfl, rfl, hr, hb⟩ := hrel
    subst hwr
    have HB := Lib.hid hb
    have HR := Lib.hid hr
    have tb := tf_in HP.out n1 nm n8 k hk
    rw [show tf X m n k = E - r by omega] at tb
    have r0 : -33554432000000 ≤ r := by omega
    have r1 : r ≤ 32768000000 := by omega
    clear tb
    rcases Nat.lt_or_ge k n with hlt | hge
    · have c1 := (HG.out.bel hb).at k hlt
      have c2 := ((HZ.out.bel HB1.out).bel hb).at k hlt
      rw [lns_at m n k hlt] at c1
      rw [pls_pa X m n k hlt] at c2
      have K := HK1.out.bel hb
      have k1 : wr.cell? ⟨w.heap.size, 1, none⟩ = some (.slice (some ⟨a, 0, none⟩) n c) := K.cell 1
      have kl := K.lt
      have lp := ln_pos m n k n1 nm
      have ll := ln_le m n k n1 hlt
      have px := HP.out k hlt
      have fb := fl_bd (l := (ln m n k : Int)) px.1 px.2 (by omega)
      have HT : Hid (tf X m n (k + 1) = tf X m n k + pa X m n k * pa X m n k / (ln m n k : Int)) := rfl
      obtain ⟨A, hA⟩ : ∃ x, pa X m n k = x := ⟨_, rfl⟩
      obtain ⟨l, hl⟩ : ∃ x, ln m n k = x := ⟨_, rfl⟩
      rw [hA] at c2 px fb HT
      rw [hl] at c1 lp ll fb HT
      obtain ⟨Q, hQ⟩ : ∃ x, A * A = x := ⟨_, rfl⟩
      rw [hQ] at fb HT
      obtain ⟨D, hD⟩ : ∃ x, Q / (l : Int) = x := ⟨_, rfl⟩
      rw [hD] at fb HT
      have htd : Q.tdiv (l : Int) = D := by rw [Int.tdiv_eq_ediv_of_nonneg fb.1]; exact hD
      obtain ⟨px0, px1⟩ := px
      obtain ⟨q0, q1, d0, d1⟩ := fb
      have m1 : IntKind.i64.wrap (A * A) = Q := by rw [hQ]; exact IntWalk.i64_in _ (by omega)
      have m2 : IntKind.i64.wrap D = D := IntWalk.i64_in _ (by omega)
      have m3 : IntKind.i64.wrap (Q.tdiv (l : Int)) = D := by rw [htd]; exact m2
      have m4 : IntKind.i64.wrap (r - D) = r - D := IntWalk.i64_in _ (by omega)
      have hne : l ≠ 0 := by omega
      have ti : (k : Int) < (n : Int) := by omega
      clear hb hr K hA hl hQ hD
      go_wp2
      go_quiet (fail)
      go_wp2
      go_roundw
      case rel => exact ⟨k + 1, _, _, rfl, by omega, by go_num, rfl, by rw [HT.out, HR.out]; omega, by first | exact HB.out.drwN _ | exact HB.out.drw | exact HB.out⟩
      case measure => simp [intOf]; omega
    · obtain rfl : k = n := by omega
      clear hb
      go_wp2
      go_ret
      exact ⟨ret_int HR.out, HB1.out.tr HB.out⟩
set_option maxHeartbeats 8000000 in
set_option maxRecDepth 100000 in
theorem valid_ok (a c m n : Nat) (E V : Int) (X : List Int) (hp : Pb X m n) (hE : E = (m : Int) * V) (e0 : 0 ≤ E) (e1 : E ≤ (m : Int) * (m : Int) * (m : Int) * 1000000) (er : 0 ≤ E - tf X m n n) (m2 : 2 ≤ m) (m32 : m ≤ 32) (n1 : 1 ≤ n) (n8 : n ≤ 8) (nm : n ≤ m) (w : World) (hz : Zi w (some ⟨a, 0, none⟩) n (pls X m n)) :
    Calls Try.prog 75 #[skv a c m n E] w fun e w' => e = .returned (.bool true) ∧ Bel w w' := by
  have a1 : (m : Int) * (m : Int) ≤ 32 * 32 := Int.mul_le_mul (by omega) (by omega) (by omega) (by omega)
  have a2 : (m : Int) * (m : Int) * (m : Int) ≤ 1024 * 32 := Int.mul_le_mul (by omega) (by omega) (by omega) (by omega)
  have a3 : 0 ≤ (m : Int) * (m : Int) := Int.mul_nonneg (by omega) (by omega)
  have a4 : 0 ≤ (m : Int) * (m : Int) * (m : Int) := Int.mul_nonneg a3 (by omega)
  have HM0 : Hid (E.tmod (m : Int) = 0) := by show _ = _; rw [hE]; exact Int.mul_tmod_right _ _
  have LK : Hid (∀ W, _) := fun W => length_ok (m : Int) (by omega) (by omega) W
  have PK : Hid (∀ W, _) := fun W => pieces_ok m n n1 n8 nm W
  have RK : Hid (∀ W, Bel w W → Calls Try.prog 105 #[.agg #[.int .i64 (m : Int), .slice (some ⟨a, 0, none⟩) n c, .int .i64 E]] W fun e w' => e = .returned (.int .i64 (E - tf X m n n)) ∧ Bel W w') := fun W hW => residual_ok a c m n E X hp e0 (by omega) m2 m32 n1 n8 nm W (hz.bel hW)
  have HP := Lib.hid hp
  have HZ := Lib.hid hz
  obtain ⟨R, hR⟩ : ∃ x, E - tf X m n n = x := ⟨_, rfl⟩
  rw [hR] at RK er
  have i1 : (n : Int) ≤ 8 := by omega
  have i2 : 1 ≤ (n : Int) := by omega
  have i3 : (m : Int) ≤ 32 := by omega
  have i4 : 2 ≤ (m : Int) := by omega
  have i5 : m ≠ 0 := by omega
  obtain ⟨M2, hM2⟩ : ∃ x, (m : Int) * (m : Int) = x := ⟨_, rfl⟩
  rw [hM2] at a1 a2 a3 a4 e1
  obtain ⟨M3, hM3⟩ : ∃ x, M2 * (m : Int) = x := ⟨_, rfl⟩
  rw [hM3] at a2 a4 e1
  have u1 : wrap64 ((m : Int) * (m : Int)) = M2 := by rw [hM2]; exact IntWalk.wrap64_in _ (by omega)
  have u2 : wrap64 (M2 * (m : Int)) = M3 := by rw [hM3]; exact IntWalk.wrap64_in _ (by omega)
  have u3 : wrap64 (M3 * 1000) = M3 * 1000 := IntWalk.wrap64_in _ (by omega)
  have u4 : wrap64 (M3 * 1000 * 1000) = M3 * 1000 * 1000 := IntWalk.wrap64_in _ (by omega)
  have HU := Lib.hid (And.intro u1 (And.intro u2 (And.intro u3 u4)))
  have HEE : Hid (0 ≤ E ∧ E ≤ M3 * 1000 * 1000 ∧ 0 ≤ R) := ⟨e0, by omega, er⟩
  have HMM := Lib.hid (And.intro hM2 hM3)
  unfold skv
  clear hp hz hR hE u1 u2 u3 u4 hM2 hM3 a1 a2 a3 a4 e1 er
  go_enter Try.func75, Try.ntmps75
  have HB0 : Hid (Bel w (w.alloc (.cells #[.int .i64 (m : Int), .slice (some ⟨a, 0, none⟩) n c, .int .i64 E] 67))) := Bel.rf.al _
  have HK0 : Hid (Bk (w.alloc (.cells #[.int .i64 (m : Int), .slice (some ⟨a, 0, none⟩) n c, .int .i64 E] 67)) w.heap.size 67 #[.int .i64 (m : Int), .slice (some ⟨a, 0, none⟩) n c, .int .i64 E]) := Bk.nw _ _ _
  go_wp2_with (go_at_call 68; refine (LK.out _).mono ?_; rintro e w1 ⟨rfl, rfl⟩)
  go_at_call 69
  refine (PK.out _).mono ?_
  rintro e w1 ⟨rfl, hb1⟩
  have HB1 := Lib.hid (HB0.out.tr hb1)
  have K1 := HK0.out.bel hb1
  have HK1 := Lib.hid K1
  have l1 : w1.cell? ⟨w.heap.size, 1, none⟩ = some (.slice (some ⟨a, 0, none⟩) n c) := K1.cell 1
  have kl := K1.lt
  clear hb1 K1
  go_wp2
  go_loopw [22] (fun s22 wr => ∃ (k : Nat) (V : World), V = wr ∧ k ≤ n ∧ s22 = .int .i64 (k : Int) ∧ Bel w1 wr) (fun s22 _ => n - (intOf s22).toNat)
  case atStart => exact ⟨0, _, rfl, by omega, rfl, Bel.rf⟩
  case round =>
    clear l1 kl
    obtain ⟨k, wr, hwr, hk, rfl, hb⟩ := hrel
    subst hwr
    have HB := Lib.hid hb
    rcases Nat.lt_or_ge k n with hlt | hge
    · have c2 := ((HZ.out.bel HB1.out).bel hb).at k hlt
      rw [pls_pa X m n k hlt] at c2
      obtain ⟨px0, px1⟩ := HP.out k hlt
      obtain ⟨A, hA⟩ : ∃ x, pa X m n k = x := ⟨_, rfl⟩
      rw [hA] at c2 px0 px1
      have ti : (k : Int) < (n : Int) := by omega
      have b1 : decide (A < -2097152) = false := decide_eq_false (by omega)
      have b2 : decide (2097152 < A) = false := decide_eq_false (by omega)
      clear hb hA
      go_wp2
      go_roundw
      case rel => exact ⟨k + 1, _, rfl, by omega, by go_num, by first | exact HB.out.drwN _ | exact HB.out.drw | exact HB.out⟩
      case measure => simp [intOf]; omega
    · obtain rfl : k = n := by omega
      have K := HK1.out.bel hb
      have k0 : wr.cell? ⟨w.heap.size, 0, none⟩ = some (.int .i64 (m : Int)) := K.cell 0
      have k1 : wr.cell? ⟨w.heap.size, 1, none⟩ = some (.slice (some ⟨a, 0, none⟩) k c) := K.cell 1
      have k2 : wr.cell? ⟨w.heap.size, 2, none⟩ = some (.int .i64 E) := K.cell 2
      have kl := K.lt
      have u1 := HU.out.1
      have u2 := HU.out.2.1
      have u3 := HU.out.2.2.1
      have u4 := HU.out.2.2.2
      have hmod := HM0.out
      have g0 := HEE.out.1
      have g1 := HEE.out.2.1
      have g2 := HEE.out.2.2
      clear hb K
      go_wp2_with fail
      go_at_call 105
      refine (RK.out _ (HB1.out.tr HB.out)).mono ?_
      rintro e w9 ⟨rfl, hb9⟩
      go_wp2
      go_ret
      exact ⟨rfl, (HB1.out.tr HB.out).tr hb9⟩
end Go.Proofs.Ytmgdoglnckkobaa.Sk
namespace Go.Proofs.Ytmgdoglnckkobaa.Sk
open Go.ChangeShapes Go.WideShapes Go.RowKit Wo Sr Wi Nr Pc Eu Ra
set_option linter.unusedVariables false
theorem zi_far {w : World} {h n : Nat} {L : List Int} (hz : Zi w (some ⟨h, 0, none⟩) n L) {p : Addr} (hp : h ≠ p.block) (u : Value) : Zi (w.setCell p u) (some ⟨h, 0, none⟩) n L :=
  ⟨hz.1, fun hn => by
    obtain ⟨ad, e, hx, hcc⟩ := hz.2 hn
    refine ⟨ad, e, by simpa [World.setCell] using hx, fun j hj => ?_⟩
    refine (World.cell?_setCell_other _ _ _ _ (fun e2 => ?_)).trans (hcc j hj)
    cases e
    rw [add_row] at e2
    exact hp (by rw [e2])⟩
theorem cen_pb {X : List Int} {m n : Nat} (hs : Sam X) (hX : X.length = m) (m32 : m ≤ 32) (n1 : 1 ≤ n) : Pb (cen X) m n := fun k hk => by
  have := pls_bd (L := cen X) (m := m) (n := n) (Pc.cen_bd hs (by omega)) m32 n1 k hk
  rwa [pls_pa _ m n k hk] at this
set_option maxHeartbeats 8000000 in
set_option maxRecDepth 100000 in
theorem Of_ok (hx c m n : Nat) (X : List Int) (m2 : 2 ≤ m) (m32 : m ≤ 32) (n1 : 1 ≤ n) (n8 : n ≤ 8) (nm : n ≤ m) (mc : m ≤ c) (hs : Sam X) (w : World) (hz : Zi w (some ⟨hx, 0, none⟩) m X) :
    Calls Try.prog 39 #[.slice (some ⟨hx, 0, none⟩) m c, .int .i64 (n : Int)] w fun e w' => ∃ h c', e = .returned (.tuple #[skv h c' m n ((m : Int) * vr X), .int .i64 0]) ∧ n ≤ c' ∧ w.heap.size ≤ h ∧ Zi w' (some ⟨h, 0, none⟩) n (pls (cen X) m n) ∧ Bel w w' := by
  have CK : Hid (∀ W, Bel w W → _) := fun W hW => Cen_ok hx c m n X m2 m32 n1 n8 nm mc hs W (hz.bel hW)
  have VK : Hid (∀ W, Bel w W → Calls Try.prog 74 #[.slice (some ⟨hx, 0, none⟩) m c, .slice (some ⟨hx, 0, none⟩) m c] W fun e w' => e = .returned (.tuple #[.int .i64 (vr X), .int .i64 0]) ∧ Bel W w') := fun W hW => by
    rw [← pr_self]; exact Product_ok (some ⟨hx, 0, none⟩) (some ⟨hx, 0, none⟩) c c m X X m2 m32 hs hs W (hz.bel hW) (hz.bel hW)
  have v := vr_le hs (by rw [hz.1]; exact m32)
  obtain ⟨V, hV⟩ : ∃ x, vr X = x := ⟨_, rfl⟩
  rw [hV] at VK v
  rw [hV]
  obtain ⟨v0, v1⟩ := v
  have hb1 : (m : Int) * V ≤ 32 * 1024000000 := Int.mul_le_mul (by omega) v1 v0 (by omega)
  have hb0 : 0 ≤ (m : Int) * V := Int.mul_nonneg (by omega) v0
  obtain ⟨E, hE⟩ : ∃ x, (m : Int) * V = x := ⟨_, rfl⟩
  rw [hE] at hb0 hb1
  rw [hE]
  have wE : IntKind.i64.wrap ((m : Int) * V) = E := by rw [hE]; exact IntWalk.i64_in _ (by omega)
  have wE2 : wrap64 ((m : Int) * V) = E := by rw [hE]; exact IntWalk.wrap64_in _ (by omega)
  unfold skv
  have i3 : (m : Int) ≤ 32 := by omega
  clear hz hs hE hV
  go_enter Try.func39, Try.ntmps39
  have HB0 : Hid (Bel w (w.alloc (.cells #[.int .i64 0, .slice none 0 0, .int .i64 0] 67))) := Bel.rf.al _
  have HK0 : Hid (Bk (w.alloc (.cells #[.int .i64 0, .slice none 0 0, .int .i64 0] 67)) w.heap.size 67 #[.int .i64 0, .slice none 0 0, .int .i64 0]) := Bk.nw _ _ _
  go_wp2_with fail
  go_at_call 26
  refine (CK.out _ HB0.out).mono ?_
  rintro e w1 ⟨h1, c1, rfl, q1, q2, q3, hb⟩
  have HZ1 := Lib.hid (own_zi q3 (pls_len _ m n))
  have HB1 := Lib.hid (HB0.out.tr hb)
  have HK1 := Lib.hid (HK0.out.bel hb)
  have HQ : Hid (n ≤ c1 ∧ w.heap.size + 1 ≤ h1) := ⟨q1, by simpa using q2⟩
  clear hb q1 q2 q3
  go_wp2_with fail
  go_at_call 74
  refine (VK.out _ HB1.out).mono ?_
  rintro e w2 ⟨rfl, hb⟩
  have HZ2 := Lib.hid (HZ1.out.bel hb)
  have HB2 := Lib.hid (HB1.out.tr hb)
  have K2 := HK1.out.bel hb
  have l0 : w2.cell? ⟨w.heap.size, 0, none⟩ = some (.int .i64 0) := K2.cell 0
  have l1 : w2.cell? ⟨w.heap.size, 1, none⟩ = some (.slice none 0 0) := K2.cell 1
  have l2 : w2.cell? ⟨w.heap.size, 2, none⟩ = some (.int .i64 0) := K2.cell 2
  have j0 := K2.fr 0
  have j1 := K2.fr 1
  have j2 := K2.fr 2
  clear hb
  go_wp2
  refine bodyPost_ret (v := .tuple #[.agg #[.int .i64 (m : Int), .slice (some ⟨h1, 0, none⟩) n c1, .int .i64 E], .int .i64 0]) (by simp [results, Try.results39, go_sem, l0, l1, l2]) rfl ?_
  have hne : h1 ≠ w.heap.size := by have := HQ.out.2; omega
  exact ⟨h1, c1, rfl, HQ.out.1, by have := HQ.out.2; omega, zi_far (zi_far (zi_far HZ2.out hne _) hne _) hne _, ((HB2.out.st (Nat.le_refl _) _).st (Nat.le_refl _) _).st (Nat.le_refl _) _⟩
end Go.Proofs.Ytmgdoglnckkobaa.Sk
namespace Go.Proofs.Ytmgdoglnckkobaa.Sk
open Go.ChangeShapes Go.WideShapes Go.RowKit Wo Sr Wi Nr Pc Eu Ra
set_option linter.unusedVariables false
theorem tq_bd {f : Nat → Int} {n : Nat} {B : Int} (h : ∀ i, i < n → -B ≤ f i ∧ f i ≤ B) : ∀ i, i ≤ n → -(B * (i : Int)) ≤ tq f i ∧ tq f i ≤ B * (i : Int)
  | 0, _ => by simp [tq]
  | i + 1, hi => by
    have h1 := tq_bd h i (by omega)
    have h2 := h i (by omega)
    have e : B * ((i + 1 : Nat) : Int) = B * (i : Int) + B := by rw [show ((i + 1 : Nat) : Int) = (i : Int) + 1 by omega, Int.mul_add, Int.mul_one]
    show -(B * ((i + 1 : Nat) : Int)) ≤ tq f i + f i ∧ tq f i + f i ≤ _
    rw [e]
    omega
/-- the sum of the first quotients of products, rounded up -/
def tc (X Y : List Int) (m n i : Nat) : Int := tq (fun k => cl (pa X m n k * pa Y m n k) (ln m n k : Int)) i
theorem tc_in {X Y : List Int} {m n : Nat} (h : Pb X m n) (k : Pb Y m n) (n1 : 1 ≤ n) (nm : n ≤ m) (n8 : n ≤ 8) (i : Nat) (hi : i ≤ n) : -33554432000000 ≤ tc X Y m n i ∧ tc X Y m n i ≤ 33554432000000 := by
  have := tq_bd (f := fun k => cl (pa X m n k * pa Y m n k) (ln m n k : Int)) (n := n) (B := 4194304000000) (fun j hj => by
    have hp := ln_pos m n j n1 nm
    have b := mul_bd (A := 2048000) (B := 2048000) (by decide) (by decide) (h j hj).1 (h j hj).2 (k j hj).1 (k j hj).2
    exact cl_bd (by omega) (by decide) (by omega) (by omega)) i hi
  unfold tc
  omega
/-- a sketch that lies as value -/
def Skz (w : World) (a n m : Nat) (X : List Int) : Prop := Zi w (some ⟨a, 0, none⟩) n (pls (cen X) m n)
theorem Skz.bel {w w' : World} {a n m : Nat} {X : List Int} (h : Skz w a n m X) (hb : Bel w w') : Skz w' a n m X := Zi.bel h hb
set_option maxHeartbeats 16000000 in
set_option maxRecDepth 100000 in
theorem Upper_ok (a c b d m n : Nat) (X Y : List Int) (m2 : 2 ≤ m) (m32 : m ≤ 32) (n1 : 1 ≤ n) (n8 : n ≤ 8) (nm : n ≤ m) (hs : Sam X) (ht : Sam Y) (hX : X.length = m) (hY : Y.length = m) (w : World) (hz : Skz w a n m X) (hy : Skz w b n m Y) :
    Calls Try.prog 89 #[skv a c m n ((m : Int) * vr X), skv b d m n ((m : Int) * vr Y)] w fun e w' => e = .returned (.tuple #[.int .i64 (upv X Y m n), .int .i64 0]) ∧ Bel w w' := by
  have ex := cen_en hX hs m32
  have ey := cen_en hY ht m32
  have px := cen_pb (n := n) hs hX m32 n1
  have py := cen_pb (n := n) ht hY m32 n1
  have rx := rsd_in (cen X) m n (by rw [cen_len', hX]) n1 nm
  have ry := rsd_in (cen Y) m n (by rw [cen_len', hY]) n1 nm
  have fx : rsd (cen X) m n = (m : Int) * vr X - tf (cen X) m n n := by unfold rsd tf; rw [ex.2.2.2]
  have fy : rsd (cen Y) m n = (m : Int) * vr Y - tf (cen Y) m n n := by unfold rsd tf; rw [ey.2.2.2]
  have VX : Hid (∀ W, Bel w W → Calls Try.prog 75 #[.agg #[.int .i64 (m : Int), .slice (some ⟨a, 0, none⟩) n c, .int .i64 ((m : Int) * vr X)]] W fun e w' => e = .returned (.bool true) ∧ Bel W w') := fun W hW => valid_ok a c m n _ (vr X) (cen X) px rfl ex.1 ex.2.1 (by omega) m2 m32 n1 n8 nm W (hz.bel hW)
  have VY : Hid (∀ W, Bel w W → Calls Try.prog 75 #[.agg #[.int .i64 (m : Int), .slice (some ⟨b, 0, none⟩) n d, .int .i64 ((m : Int) * vr Y)]] W fun e w' => e = .returned (.bool true) ∧ Bel W w') := fun W hW => valid_ok b d m n _ (vr Y) (cen Y) py rfl ey.1 ey.2.1 (by omega) m2 m32 n1 n8 nm W (hy.bel hW)
  have RX : Hid (∀ W, Bel w W → Calls Try.prog 105 #[.agg #[.int .i64 (m : Int), .slice (some ⟨a, 0, none⟩) n c, .int .i64 ((m : Int) * vr X)]] W fun e w' => e = .returned (.int .i64 (rsd (cen X) m n)) ∧ Bel W w') := fun W hW => by
    rw [fx]; exact residual_ok a c m n _ (cen X) px ex.1 (by omega) m2 m32 n1 n8 nm W (hz.bel hW)
  have RY : Hid (∀ W, Bel w W → Calls Try.prog 105 #[.agg #[.int .i64 (m : Int), .slice (some ⟨b, 0, none⟩) n d, .int .i64 ((m : Int) * vr Y)]] W fun e w' => e = .returned (.int .i64 (rsd (cen Y) m n)) ∧ Bel W w') := fun W hW => by
    rw [fy]; exact residual_ok b d m n _ (cen Y) py ey.1 (by omega) m2 m32 n1 n8 nm W (hy.bel hW)
  have LX : Hid (∀ W, Calls Try.prog 107 #[.agg #[.int .i64 (m : Int), .slice (some ⟨a, 0, none⟩) n c, .int .i64 ((m : Int) * vr X)]] W fun e w' => ∃ g, e = .returned (.slice (some ⟨g, 0, none⟩) n n) ∧ W.heap.size ≤ g ∧ Bk w' g 3 (zs (lns m n)).toArray ∧ Bel W w') := fun W => lengths_ok a c m n _ m2 m32 n1 n8 nm W
  have CX : Hid (∀ W, Calls Try.prog 112 #[.int .i64 (rsd (cen X) m n)] W fun e w' => e = .returned (.int .i64 (Rt.cei (rsd (cen X) m n))) ∧ W = w') := fun W => Rt.ceil_any _ W
  have CY : Hid (∀ W, Calls Try.prog 112 #[.int .i64 (rsd (cen Y) m n)] W fun e w' => e = .returned (.int .i64 (Rt.cei (rsd (cen Y) m n))) ∧ W = w') := fun W => Rt.ceil_any _ W
  have ui := ups_in (cen X) (cen Y) m n (by rw [cen_len', hX]) (by rw [cen_len', hY]) n1 nm n8 32768000000 (by decide) (by omega) (by omega)
  have zX := Rt.cei_bd (rsd (cen X) m n)
  have zY := Rt.cei_bd (rsd (cen Y) m n)
  have lX := cei_le (n := rsd (cen X) m n) (B := 181020) rx.1 (by decide) (by omega) (by omega)
  have lY := cei_le (n := rsd (cen Y) m n) (B := 181020) ry.1 (by decide) (by omega) (by omega)
  have FK : Hid (∀ W, Calls Try.prog 114 #[.int .i64 (ups (cen X) (cen Y) m n), .int .i64 (m : Int)] W fun e w' => e = .returned (.int .i64 (upv X Y m n)) ∧ W = w') := fun W => Un.floor_any _ _ (by omega) (by omega) (by omega) (by omega) W
  have HUP : Hid (ups (cen X) (cen Y) m n = Rt.cei (rsd (cen X) m n) * Rt.cei (rsd (cen Y) m n) + tc (cen X) (cen Y) m n n) := rfl
  have HTC : Hid (∀ i, i ≤ n → -33554432000000 ≤ tc (cen X) (cen Y) m n i ∧ tc (cen X) (cen Y) m n i ≤ 33554432000000) := tc_in px py n1 nm n8
  have HPX := Lib.hid px
  have HPY := Lib.hid py
  have HZ := Lib.hid hz
  have HY := Lib.hid hy
  obtain ⟨RXv, hRX⟩ : ∃ x, rsd (cen X) m n = x := ⟨_, rfl⟩
  obtain ⟨RYv, hRY⟩ : ∃ x, rsd (cen Y) m n = x := ⟨_, rfl⟩
  rw [hRX] at RX CX zX lX HUP
  rw [hRY] at RY CY zY lY HUP
  obtain ⟨P, hP⟩ : ∃ x, Rt.cei RXv = x := ⟨_, rfl⟩
  obtain ⟨Q, hQ⟩ : ∃ x, Rt.cei RYv = x := ⟨_, rfl⟩
  rw [hP] at CX zX lX HUP
  rw [hQ] at CY zY lY HUP
  obtain ⟨U, hU⟩ : ∃ x, ups (cen X) (cen Y) m n = x := ⟨_, rfl⟩
  rw [hU] at FK HUP ui
  obtain ⟨VV, hVV⟩ : ∃ x, upv X Y m n = x := ⟨_, rfl⟩
  rw [hVV] at FK
  rw [hVV]
  obtain ⟨EX, hEX⟩ : ∃ x, (m : Int) * vr X = x := ⟨_, rfl⟩
  obtain ⟨EY, hEY⟩ : ∃ x, (m : Int) * vr Y = x := ⟨_, rfl⟩
  rw [hEX] at VX RX LX
  rw [hEX]
  rw [hEY] at VY RY
  rw [hEY]
  have pq : 0 ≤ P * Q := Int.mul_nonneg zX.1 zY.1
  have pq2 : P * Q ≤ 181020 * 181020 := Int.mul_le_mul lX lY zY.1 (by omega)
  obtain ⟨PQ, hPQ⟩ : ∃ x, P * Q = x := ⟨_, rfl⟩
  rw [hPQ] at pq pq2 HUP
  have w1 : IntKind.i64.wrap (P * Q) = PQ := by rw [hPQ]; exact IntWalk.i64_in _ (by omega)
  have i1 : (n : Int) ≤ 8 := by omega
  have i2 : 1 ≤ (n : Int) := by omega
  have i3 : (m : Int) ≤ 32 := by omega
  have i4 : 2 ≤ (m : Int) := by omega
  have kn := ne_self (n : Int)
  have km := ne_self (m : Int)
  clear hz hy px py rx ry fx fy ex ey hRX hRY hP hQ hU hVV hEX hEY hPQ zX zY lX lY hs ht hX hY ui
  unfold skv
  go_enter Try.func89, Try.ntmps89
  obtain ⟨w0, hw0⟩ : ∃ W, (w.alloc (.cells #[.int .i64 (m : Int), .slice (some ⟨a, 0, none⟩) n c, .int .i64 EX] 67)).alloc (.cells #[.int .i64 (m : Int), .slice (some ⟨b, 0, none⟩) n d, .int .i64 EY] 67) = W := ⟨_, rfl⟩
  have HB0 : Hid (Bel w w0) := by show Bel w w0; rw [← hw0]; exact (Bel.rf.al _).al _
  have HKA : Hid (Bk w0 w.heap.size 67 #[.int .i64 (m : Int), .slice (some ⟨a, 0, none⟩) n c, .int .i64 EX]) := by show Bk w0 _ _ _; rw [← hw0]; exact (Bk.nw _ _ _).al _
  have HKB : Hid (Bk w0 (w.heap.size + 1) 67 #[.int .i64 (m : Int), .slice (some ⟨b, 0, none⟩) n d, .int .i64 EY]) := by show Bk w0 _ _ _; rw [← hw0]; exact Bk.nq _ _ _ (by simp)
  have a0 : w0.cell? ⟨w.heap.size, 0, none⟩ = some (.int .i64 (m : Int)) := HKA.out.cell 0
  have a1 : w0.cell? ⟨w.heap.size, 1, none⟩ = some (.slice (some ⟨a, 0, none⟩) n c) := HKA.out.cell 1
  have a2 : w0.cell? ⟨w.heap.size, 2, none⟩ = some (.int .i64 EX) := HKA.out.cell 2
  have al := HKA.out.lt
  go_wp2_with fail
  go_at_call 75
  refine (VX.out _ HB0.out).mono ?_
  rintro e w3 ⟨rfl, hb⟩
  have HB1 : Hid (Bel w w3) := HB0.out.tr hb
  have HKA1 := Lib.hid (HKA.out.bel hb)
  have HKB1 := Lib.hid (HKB.out.bel hb)
  have b0 : w3.cell? ⟨w.heap.size + 1, 0, none⟩ = some (.int .i64 (m : Int)) := HKB1.out.cell 0
  have b1 : w3.cell? ⟨w.heap.size + 1, 1, none⟩ = some (.slice (some ⟨b, 0, none⟩) n d) := HKB1.out.cell 1
  have b2 : w3.cell? ⟨w.heap.size + 1, 2, none⟩ = some (.int .i64 EY) := HKB1.out.cell 2
  have bl := HKB1.out.lt
  clear hb hw0 HKA HKB HB0 a0 a1 a2 al
  go_wp2_with fail
  go_at_call 75
  refine (VY.out _ HB1.out).mono ?_
  rintro e w4 ⟨rfl, hb⟩
  have HB2 : Hid (Bel w w4) := HB1.out.tr hb
  have HKA2 := Lib.hid (HKA1.out.bel hb)
  have HKB2 := Lib.hid (HKB1.out.bel hb)
  have HKS : Hid (∀ W, Bel w4 W → Bel w4 W ∧ W.cell? ⟨w.heap.size, 0, none⟩ = some (.int .i64 (m : Int)) ∧ W.cell? ⟨w.heap.size, 1, none⟩ = some (.slice (some ⟨a, 0, none⟩) n c) ∧ W.cell? ⟨w.heap.size, 2, none⟩ = some (.int .i64 EX) ∧ W.cell? ⟨w.heap.size + 1, 0, none⟩ = some (.int .i64 (m : Int)) ∧ W.cell? ⟨w.heap.size + 1, 1, none⟩ = some (.slice (some ⟨b, 0, none⟩) n d) ∧ W.cell? ⟨w.heap.size + 1, 2, none⟩ = some (.int .i64 EY)) := fun W hW => ⟨hW, (HKA2.out.bel hW).cell 0, (HKA2.out.bel hW).cell 1, (HKA2.out.bel hW).cell 2, (HKB2.out.bel hW).cell 0, (HKB2.out.bel hW).cell 1, (HKB2.out.bel hW).cell 2⟩
  obtain ⟨_, a0, a1, a2, b0, b1, b2⟩ := HKS.out w4 Bel.rf
  have al := HKA2.out.lt
  have bl := HKB2.out.lt
  clear hb HKA1 HKB1
  go_wp2_with fail
  go_region_held3 (fun W => Bel w4 W ∧ W.cell? ⟨w.heap.size, 0, none⟩ = some (.int .i64 (m : Int)) ∧ W.cell? ⟨w.heap.size, 1, none⟩ = some (.slice (some ⟨a, 0, none⟩) n c) ∧ W.cell? ⟨w.heap.size, 2, none⟩ = some (.int .i64 EX) ∧ W.cell? ⟨w.heap.size + 1, 0, none⟩ = some (.int .i64 (m : Int)) ∧ W.cell? ⟨w.heap.size + 1, 1, none⟩ = some (.slice (some ⟨b, 0, none⟩) n d) ∧ W.cell? ⟨w.heap.size + 1, 2, none⟩ = some (.int .i64 EY)) ((refine HKS.out _ ?_; repeat (first | exact HB4.out | exact HB3.out | exact Bel.rf | (with_reducible refine Bel.drwN ?_ _) | (with_reducible refine Bel.drw ?_)))) (first
    | (go_at_call 105; (with_reducible refine (RX.out _ (HB2.out.tr (by repeat (first | exact HB4.out | exact HB3.out | exact Bel.rf | (with_reducible refine Bel.drwN ?_ _) | (with_reducible refine Bel.drw ?_))))).mono ?_); rintro e w5 ⟨rfl, hb5⟩; have HB3 : Hid (Bel w4 w5) := Bel.tr (by repeat (first | exact HB4.out | exact Bel.rf | (with_reducible refine Bel.drwN ?_ _) | (with_reducible refine Bel.drw ?_))) hb5; clear hb5)
    | (go_at_call 105; (with_reducible refine (RY.out _ (HB2.out.tr (by repeat (first | exact HB4.out | exact HB3.out | exact Bel.rf | (with_reducible refine Bel.drwN ?_ _) | (with_reducible refine Bel.drw ?_))))).mono ?_); rintro e w6 ⟨rfl, hb6⟩; have HB4 : Hid (Bel w4 w6) := Bel.tr (by repeat (first | exact HB3.out | exact Bel.rf | (with_reducible refine Bel.drwN ?_ _) | (with_reducible refine Bel.drw ?_))) hb6; clear hb6)
    | (go_at_call 112; (with_reducible refine (CX.out _).mono ?_); rintro e w7 ⟨rfl, rfl⟩)
    | (go_at_call 112; (with_reducible refine (CY.out _).mono ?_); rintro e w7 ⟨rfl, rfl⟩))
  have HB5 : Hid (Bel w4 w6) := HB4
  obtain ⟨_, a0, a1, a2, b0, b1, b2⟩ := HKS.out w6 HB5.out
  have al := (HKA2.out.bel HB5.out).lt
  clear HB3 HB4 VX VY RX RY CX CY
  go_wp2_with fail
  go_at_call 107
  refine (LX.out _).mono ?_
  rintro e w7 ⟨g, rfl, hg, hbk, hb7⟩
  have HG : Hid (Zi w7 (some ⟨g, 0, none⟩) n (lns m n)) := zi_bk hbk n (lns_len m n)
  have HB7 : Hid (Bel w4 w7) := HB5.out.tr hb7
  clear hb7 hg hbk a0 a1 a2 b0 b1 b2
  go_wp2
  go_loopw [6, 41] (fun s6 s41 wr => ∃ (k : Nat) (V : World) (r : Int), V = wr ∧ k ≤ n ∧ s41 = .int .i64 (k : Int) ∧ s6 = .int .i64 r ∧ r = PQ + tc (cen X) (cen Y) m n k ∧ Bel w7 wr) (fun _ s41 _ => n - (intOf s41).toNat)
  case atStart => exact ⟨0, _, PQ, rfl, by omega, rfl, rfl, by simp [tc, tq], by first | exact Bel.rf | exact Bel.rf.drwN _⟩
  case round =>
    obtain ⟨k, wr, r, hwr, hk, rfl, rfl, hr, hb⟩ := hrel
    subst hwr
    have HB := Lib.hid hb
    have HR := Lib.hid hr
    have tb := HTC.out k hk
    have r0 : -33554432000000 ≤ r := by omega
    have r1 : r ≤ 66554432000000 := by omega
    clear tb
    have hw : Bel w wr := (HB2.out.tr HB7.out).tr hb
    rcases Nat.lt_or_ge k n with hlt | hge
    · have c1 := (HG.out.bel hb).at k hlt
      have c2 := (HZ.out.bel hw).at k hlt
      have c3 := (HY.out.bel hw).at k hlt
      rw [lns_at m n k hlt] at c1
      rw [pls_pa (cen X) m n k hlt] at c2
      rw [pls_pa (cen Y) m n k hlt] at c3
      obtain ⟨_, a0, a1, a2, b0, b1, b2⟩ := HKS.out wr (HB7.out.tr hb)
      have al := (HKA2.out.bel (HB7.out.tr hb)).lt
      have bl := (HKB2.out.bel (HB7.out.tr hb)).lt
      have lp := ln_pos m n k n1 nm
      have ll := ln_le m n k n1 hlt
      have px := HPX.out k hlt
      have py := HPY.out k hlt
      have mb := mul_bd (A := 2048000) (B := 2048000) (by decide) (by decide) px.1 px.2 py.1 py.2
      have HT : Hid (tc (cen X) (cen Y) m n (k + 1) = tc (cen X) (cen Y) m n k + cl (pa (cen X) m n k * pa (cen Y) m n k) (ln m n k : Int)) := rfl
      have cb := cl_bd (a := pa (cen X) m n k * pa (cen Y) m n k) (l := (ln m n k : Int)) (B := 4194304000000) (by omega) (by decide) (by omega) (by omega)
      obtain ⟨A, hA⟩ : ∃ x, pa (cen X) m n k = x := ⟨_, rfl⟩
      obtain ⟨B, hB⟩ : ∃ x, pa (cen Y) m n k = x := ⟨_, rfl⟩
      obtain ⟨l, hl⟩ : ∃ x, ln m n k = x := ⟨_, rfl⟩
      rw [hA] at c2 px mb HT cb
      rw [hB] at c3 py mb HT cb
      rw [hl] at c1 lp ll HT cb
      obtain ⟨Z, hZ⟩ : ∃ x, A * B = x := ⟨_, rfl⟩
      rw [hZ] at mb HT cb
      have CK : Hid (∀ W, _) := fun W => ceil_any Z (l : Int) (by omega) (by omega) (by omega) (by omega) W
      obtain ⟨D, hD⟩ : ∃ x, cl Z (l : Int) = x := ⟨_, rfl⟩
      rw [hD] at HT cb CK
      obtain ⟨px0, px1⟩ := px
      obtain ⟨py0, py1⟩ := py
      obtain ⟨z0, z1⟩ := mb
      obtain ⟨d0, d1⟩ := cb
      have m1 : IntKind.i64.wrap (A * B) = Z := by rw [hZ]; exact IntWalk.i64_in _ (by omega)
      have m4 : IntKind.i64.wrap (r + D) = r + D := IntWalk.i64_in _ (by omega)
      have ti : (k : Int) < (n : Int) := by omega
      clear hb hr hw hA hB hl hZ hD a0 a2 b0 b2
      go_wp2
      go_quiet ((go_at_call 113; exact quiet_same (CK.out _)))
      go_wp2
      go_roundw
      case rel => exact ⟨k + 1, _, _, rfl, by omega, by go_num, rfl, by rw [HT.out, HR.out]; omega, by first | exact HB.out.drwN _ | exact HB.out.drw | exact HB.out⟩
      case measure => simp [intOf]; omega
    · obtain rfl : k = n := by omega
      obtain ⟨_, a0, a1, a2, b0, b1, b2⟩ := HKS.out wr (HB7.out.tr hb)
      have hrU : r = U := by rw [hr, HUP.out]
      subst hrU
      have FK2 : Hid (∀ W, Calls Try.prog 114 #[.int .i64 r, .int .i64 (m : Int)] W fun e w' => e = .returned (.int .i64 VV) ∧ W = w') := FK.out
      clear hb hr hw
      go_wp2_with (go_at_call 114; refine (FK2.out _).mono ?_; rintro e w9 ⟨rfl, rfl⟩)
      go_ret2
      exact ⟨rfl, (HB2.out.tr HB7.out).tr HB.out⟩
end Go.Proofs.Ytmgdoglnckkobaa.Sk
namespace Go.Proofs.Ytmgdoglnckkobaa.Sk
open Go.ChangeShapes Go.WideShapes Go.RowKit Wo Sr Wi Nr Pc Eu Ra
set_option linter.unusedVariables false
def rat (a b : Int) : Value := .agg #[.int .i64 a, .int .i64 b]
set_option maxHeartbeats 16000000 in
set_option maxRecDepth 100000 in
theorem Gap_ok (a c b d m n : Nat) (X Y : List Int) (m2 : 2 ≤ m) (m32 : m ≤ 32) (n1 : 1 ≤ n) (n8 : n ≤ 8) (nm : n ≤ m) (hs : Sam X) (ht : Sam Y) (hX : X.length = m) (hY : Y.length = m) (w : World) (hz : Skz w a n m X) (hy : Skz w b n m Y) :
    Calls Try.prog 90 #[skv a c m n ((m : Int) * vr X), skv b d m n ((m : Int) * vr Y)] w fun e w' => e = .returned (.tuple #[rat (mN (vr X) (vr Y) (upv X Y m n)) (mD (vr X) (vr Y) (upv X Y m n)), .int .i64 0]) ∧ Bel w w' := by
  have UK : Hid (∀ W, Bel w W → Calls Try.prog 89 #[.agg #[.int .i64 (m : Int), .slice (some ⟨a, 0, none⟩) n c, .int .i64 ((m : Int) * vr X)], .agg #[.int .i64 (m : Int), .slice (some ⟨b, 0, none⟩) n d, .int .i64 ((m : Int) * vr Y)]] W fun e w' => e = .returned (.tuple #[.int .i64 (upv X Y m n), .int .i64 0]) ∧ Bel W w') := fun W hW => Upper_ok a c b d m n X Y m2 m32 n1 n8 nm hs ht hX hY W (hz.bel hW) (hy.bel hW)
  have ui := upv_in hX hY n1 nm n8 m2 m32 hs ht
  have v := vr_le hs (by omega)
  have u := vr_le ht (by omega)
  have ex := cen_en hX hs m32
  have ey := cen_en hY ht m32
  obtain ⟨V, hV⟩ : ∃ x, vr X = x := ⟨_, rfl⟩
  obtain ⟨U, hU⟩ : ∃ x, vr Y = x := ⟨_, rfl⟩
  obtain ⟨C, hC⟩ : ∃ x, upv X Y m n = x := ⟨_, rfl⟩
  rw [hV] at UK v ex
  rw [hU] at UK u ey
  rw [hC] at UK ui
  rw [hV, hU, hC]
  have g := gM_in C v.1 u.1 v.2 u.2
  have vl := m_vl C v.1 u.1 v.2 u.2
  have HMK : Hid (∀ W, Calls Try.prog 54 #[.int .i64 (gM V U C), .int .i64 (gD V U)] W fun e w' => e = .returned (.tuple #[.agg #[.int .i64 (mN V U C), .int .i64 (mD V U C)], .int .i64 0]) ∧ Bel W w') := fun W =>
    make_in (gM V U C) (gD V U) W g.1 g.2.2.1 (rin_yes vl.1.1) (by omega) (by omega)
  have vw := vw_le v.1 u.1 v.2 u.2
  obtain ⟨EX, hEX⟩ : ∃ x, (m : Int) * V = x := ⟨_, rfl⟩
  obtain ⟨EY, hEY⟩ : ∃ x, (m : Int) * U = x := ⟨_, rfl⟩
  rw [hEX] at UK ex
  rw [hEY] at UK ey
  rw [hEX, hEY]
  have q1 : EX.tdiv (m : Int) = V := by rw [← hEX]; exact Int.mul_tdiv_cancel_left _ (by omega)
  have q2 : EY.tdiv (m : Int) = U := by rw [← hEY]; exact Int.mul_tdiv_cancel_left _ (by omega)
  have i3 : (m : Int) ≤ 32 := by omega
  have i4 : 2 ≤ (m : Int) := by omega
  have i5 : m ≠ 0 := by omega
  obtain ⟨v0, v1⟩ := v
  obtain ⟨u0, u1⟩ := u
  obtain ⟨_, c0, c1⟩ := ui
  have wV : IntKind.i64.wrap V = V := IntWalk.i64_in _ (by omega)
  have wU : IntKind.i64.wrap U = U := IntWalk.i64_in _ (by omega)
  obtain ⟨vw0, vw1⟩ := vw
  unfold rat skv
  generalize mN V U C = X1 at *
  generalize mD V U C = X2 at *
  have cc : 0 ≤ C * C ∧ C * C ≤ 4410000000000000000 := by have := sq_bd (B := 2100000000) c0 c1; omega
  obtain ⟨cc0, cc1⟩ := cc
  have GN : (V = 0 → U = 0 → gM V U C = 0) ∧ (V = 0 → U ≠ 0 → gM V U C = 1) ∧ (V ≠ 0 → U = 0 → gM V U C = 1) ∧ (V ≠ 0 → U ≠ 0 → gM V U C = V * U - sqc C (V * U)) := by
    unfold gM
    refine ⟨fun h1 h2 => by rw [if_pos h1, if_pos h2], fun h1 h2 => by rw [if_pos h1, if_neg h2], fun h1 h2 => by rw [if_neg h1, if_pos h2], fun h1 h2 => by rw [if_neg h1, if_neg h2]⟩
  have GD : ((V = 0 ∨ U = 0) → gD V U = 1) ∧ (V ≠ 0 → U ≠ 0 → gD V U = V * U) := by
    unfold gD
    refine ⟨fun h => ?_, fun h1 h2 => by rw [if_neg h1, if_neg h2]⟩
    rcases h with h | h
    · rw [if_pos h]
    · split
      · rfl
      · rfl
  clear hz hy hs ht hX hY hV hU hC hEX hEY ex ey g vl
  go_enter Try.func90, Try.ntmps90
  have HB0 : Hid (Bel w (((w.alloc (.cells #[.int .i64 (m : Int), .slice (some ⟨a, 0, none⟩) n c, .int .i64 EX] 67)).alloc (.cells #[.int .i64 (m : Int), .slice (some ⟨b, 0, none⟩) n d, .int .i64 EY] 67)).alloc (.cells #[.int .i64 0, .int .i64 0] 37))) := ((Bel.rf.al _).al _).al _
  have HKA : Hid (Bk (((w.alloc (.cells #[.int .i64 (m : Int), .slice (some ⟨a, 0, none⟩) n c, .int .i64 EX] 67)).alloc (.cells #[.int .i64 (m : Int), .slice (some ⟨b, 0, none⟩) n d, .int .i64 EY] 67)).alloc (.cells #[.int .i64 0, .int .i64 0] 37)) w.heap.size 67 #[.int .i64 (m : Int), .slice (some ⟨a, 0, none⟩) n c, .int .i64 EX]) := ((Bk.nw _ _ _).al _).al _
  have HKB : Hid (Bk (((w.alloc (.cells #[.int .i64 (m : Int), .slice (some ⟨a, 0, none⟩) n c, .int .i64 EX] 67)).alloc (.cells #[.int .i64 (m : Int), .slice (some ⟨b, 0, none⟩) n d, .int .i64 EY] 67)).alloc (.cells #[.int .i64 0, .int .i64 0] 37)) (w.heap.size + 1) 67 #[.int .i64 (m : Int), .slice (some ⟨b, 0, none⟩) n d, .int .i64 EY]) := (Bk.nq _ _ _ (by simp)).al _
  have HKR : Hid (Bk (((w.alloc (.cells #[.int .i64 (m : Int), .slice (some ⟨a, 0, none⟩) n c, .int .i64 EX] 67)).alloc (.cells #[.int .i64 (m : Int), .slice (some ⟨b, 0, none⟩) n d, .int .i64 EY] 67)).alloc (.cells #[.int .i64 0, .int .i64 0] 37)) (w.heap.size + 1 + 1) 37 #[.int .i64 0, .int .i64 0]) := Bk.nq _ _ _ (by simp)
  go_wp2_with fail
  go_at_call 89
  refine (UK.out _ HB0.out).mono ?_
  rintro e w3 ⟨rfl, hb⟩
  have HB1 : Hid (Bel w w3) := HB0.out.tr hb
  have KA := HKA.out.bel hb
  have KB := HKB.out.bel hb
  have HR1 := Lib.hid (HKR.out.bel hb)
  have a0 : w3.cell? ⟨w.heap.size, 0, none⟩ = some (.int .i64 (m : Int)) := KA.cell 0
  have a2 : w3.cell? ⟨w.heap.size, 2, none⟩ = some (.int .i64 EX) := KA.cell 2
  have b0 : w3.cell? ⟨w.heap.size + 1, 0, none⟩ = some (.int .i64 (m : Int)) := KB.cell 0
  have b2 : w3.cell? ⟨w.heap.size + 1, 2, none⟩ = some (.int .i64 EY) := KB.cell 2
  have HGN := Lib.hid GN
  have HGD := Lib.hid GD
  clear hb KA KB HKA HKB HKR HB0 GN GD
  go_wp2
  go_quiet (fail)
  clear a0 a2 b0 b2
  rcases Classical.em (V = 0) with hv | hv
  · rcases Classical.em (U = 0) with hu | hu
    · have M1 := HMK.out
      rw [HGN.out.1 hv hu, HGD.out.1 (.inl hv)] at M1
      have HM := Lib.hid M1
      subst hv hu
      clear M1
      go_wp2_with fail
      go_at_call 54
      refine (HM.out _).mono ?_
      rintro e w4 ⟨rfl, hb4⟩
      have K4 := (HR1.out.drwN _).bel hb4
      have l0 : w4.cell? ⟨w.heap.size + 1 + 1, 0, none⟩ = some (.int .i64 0) := K4.cell 0
      have l1 : w4.cell? ⟨w.heap.size + 1 + 1, 1, none⟩ = some (.int .i64 0) := K4.cell 1
      have j0 := K4.fr 0
      have j1 := K4.fr 1
      have HF : Hid (Bel w w4) := (HB1.out.drwN _).tr hb4
      have hle : w.heap.size ≤ w.heap.size + 1 + 1 := by omega
      clear hb4 K4
      go_wp2
      refine bodyPost_ret (v := .tuple #[.agg #[.int .i64 X1, .int .i64 X2], .int .i64 0]) (by simp [results, Try.results90, go_sem, l0, l1]) rfl ⟨rfl, ?_⟩
      exact (HF.out.st hle _).st hle _
    · have M1 := HMK.out
      rw [HGN.out.2.1 hv hu, HGD.out.1 (.inl hv)] at M1
      have HM := Lib.hid M1
      have k2 : (U == 0) = false := by simpa using hu
      subst hv
      clear M1
      go_wp2_with fail
      go_at_call 54
      refine (HM.out _).mono ?_
      rintro e w4 ⟨rfl, hb4⟩
      have K4 := (HR1.out.drwN _).bel hb4
      have l0 : w4.cell? ⟨w.heap.size + 1 + 1, 0, none⟩ = some (.int .i64 0) := K4.cell 0
      have l1 : w4.cell? ⟨w.heap.size + 1 + 1, 1, none⟩ = some (.int .i64 0) := K4.cell 1
      have j0 := K4.fr 0
      have j1 := K4.fr 1
      have HF : Hid (Bel w w4) := (HB1.out.drwN _).tr hb4
      have hle : w.heap.size ≤ w.heap.size + 1 + 1 := by omega
      clear hb4 K4
      go_wp2
      refine bodyPost_ret (v := .tuple #[.agg #[.int .i64 X1, .int .i64 X2], .int .i64 0]) (by simp [results, Try.results90, go_sem, l0, l1]) rfl ⟨rfl, ?_⟩
      exact (HF.out.st hle _).st hle _
  · have k1 : (V == 0) = false := by simpa using hv
    rcases Classical.em (U = 0) with hu | hu
    · have M1 := HMK.out
      rw [HGN.out.2.2.1 hv hu, HGD.out.1 (.inr hu)] at M1
      have HM := Lib.hid M1
      subst hu
      clear M1
      go_wp2_with fail
      go_at_call 54
      refine (HM.out _).mono ?_
      rintro e w4 ⟨rfl, hb4⟩
      have K4 := (HR1.out.drwN _).bel hb4
      have l0 : w4.cell? ⟨w.heap.size + 1 + 1, 0, none⟩ = some (.int .i64 0) := K4.cell 0
      have l1 : w4.cell? ⟨w.heap.size + 1 + 1, 1, none⟩ = some (.int .i64 0) := K4.cell 1
      have j0 := K4.fr 0
      have j1 := K4.fr 1
      have HF : Hid (Bel w w4) := (HB1.out.drwN _).tr hb4
      have hle : w.heap.size ≤ w.heap.size + 1 + 1 := by omega
      clear hb4 K4
      go_wp2
      refine bodyPost_ret (v := .tuple #[.agg #[.int .i64 X1, .int .i64 X2], .int .i64 0]) (by simp [results, Try.results90, go_sem, l0, l1]) rfl ⟨rfl, ?_⟩
      exact (HF.out.st hle _).st hle _
    · have k2 : (U == 0) = false := by simpa using hu
      have M1 := HMK.out
      rw [HGN.out.2.2.2 hv hu, HGD.out.2 hv hu] at M1
      obtain ⟨W, hW⟩ : ∃ x, V * U = x := ⟨_, rfl⟩
      obtain ⟨C2, hC2⟩ : ∃ x, C * C = x := ⟨_, rfl⟩
      rw [hW] at M1 vw0 vw1
      rw [hC2] at cc0 cc1
      unfold sqc at M1
      rw [hC2] at M1
      have m1 : wrap64 (C * C) = C2 := by rw [hC2]; exact IntWalk.wrap64_in _ (by omega)
      have m2' : wrap64 (V * U) = W := by rw [hW]; exact IntWalk.wrap64_in _ (by omega)
      have mmin : 0 ≤ min C2 W ∧ min C2 W ≤ W := by omega
      rcases Int.lt_or_le C 0 with hc | hc
      · rw [if_pos hc] at M1
        have d1 : decide (C < 0) = true := decide_eq_true hc
        rcases Int.lt_trichotomy C2 W with h3 | h3 | h3
        · rw [Int.min_eq_left (by omega)] at M1
          rw [show W - -C2 = W + C2 by omega] at M1
          have HM := Lib.hid M1
          clear M1 hC2 hW mmin
          go_wp2_with fail
          go_at_call 54
          refine (HM.out _).mono ?_
          rintro e w4 ⟨rfl, hb4⟩
          have K4 := (HR1.out.drwN _).bel hb4
          have l0 : w4.cell? ⟨w.heap.size + 1 + 1, 0, none⟩ = some (.int .i64 0) := K4.cell 0
          have l1 : w4.cell? ⟨w.heap.size + 1 + 1, 1, none⟩ = some (.int .i64 0) := K4.cell 1
          have j0 := K4.fr 0
          have j1 := K4.fr 1
          have HF : Hid (Bel w w4) := (HB1.out.drwN _).tr hb4
          have hle : w.heap.size ≤ w.heap.size + 1 + 1 := by omega
          clear hb4 K4
          go_wp2
          refine bodyPost_ret (v := .tuple #[.agg #[.int .i64 X1, .int .i64 X2], .int .i64 0]) (by simp [results, Try.results90, go_sem, l0, l1]) rfl ⟨rfl, ?_⟩
          exact (HF.out.st hle _).st hle _
        · subst h3
          rw [Int.min_self] at M1
          rw [show C2 - -C2 = C2 + C2 by omega] at M1
          have HM := Lib.hid M1
          clear M1 hC2 hW mmin
          go_wp2_with fail
          go_at_call 54
          refine (HM.out _).mono ?_
          rintro e w4 ⟨rfl, hb4⟩
          have K4 := (HR1.out.drwN _).bel hb4
          have l0 : w4.cell? ⟨w.heap.size + 1 + 1, 0, none⟩ = some (.int .i64 0) := K4.cell 0
          have l1 : w4.cell? ⟨w.heap.size + 1 + 1, 1, none⟩ = some (.int .i64 0) := K4.cell 1
          have j0 := K4.fr 0
          have j1 := K4.fr 1
          have HF : Hid (Bel w w4) := (HB1.out.drwN _).tr hb4
          have hle : w.heap.size ≤ w.heap.size + 1 + 1 := by omega
          clear hb4 K4
          go_wp2
          refine bodyPost_ret (v := .tuple #[.agg #[.int .i64 X1, .int .i64 X2], .int .i64 0]) (by simp [results, Try.results90, go_sem, l0, l1]) rfl ⟨rfl, ?_⟩
          exact (HF.out.st hle _).st hle _
        · rw [Int.min_eq_right (by omega)] at M1
          rw [show W - -W = W + W by omega] at M1
          have HM := Lib.hid M1
          clear M1 hC2 hW mmin
          go_wp2_with fail
          go_at_call 54
          refine (HM.out _).mono ?_
          rintro e w4 ⟨rfl, hb4⟩
          have K4 := (HR1.out.drwN _).bel hb4
          have l0 : w4.cell? ⟨w.heap.size + 1 + 1, 0, none⟩ = some (.int .i64 0) := K4.cell 0
          have l1 : w4.cell? ⟨w.heap.size + 1 + 1, 1, none⟩ = some (.int .i64 0) := K4.cell 1
          have j0 := K4.fr 0
          have j1 := K4.fr 1
          have HF : Hid (Bel w w4) := (HB1.out.drwN _).tr hb4
          have hle : w.heap.size ≤ w.heap.size + 1 + 1 := by omega
          clear hb4 K4
          go_wp2
          refine bodyPost_ret (v := .tuple #[.agg #[.int .i64 X1, .int .i64 X2], .int .i64 0]) (by simp [results, Try.results90, go_sem, l0, l1]) rfl ⟨rfl, ?_⟩
          exact (HF.out.st hle _).st hle _
      · rw [if_neg (by omega)] at M1
        have d1 : decide (C < 0) = false := decide_eq_false (by omega)
        rcases Int.lt_trichotomy C2 W with h3 | h3 | h3
        · rw [Int.min_eq_left (by omega)] at M1
          rw [show W - C2 = W - C2 by omega] at M1
          have HM := Lib.hid M1
          clear M1 hC2 hW mmin
          go_wp2_with fail
          go_at_call 54
          refine (HM.out _).mono ?_
          rintro e w4 ⟨rfl, hb4⟩
          have K4 := (HR1.out.drwN _).bel hb4
          have l0 : w4.cell? ⟨w.heap.size + 1 + 1, 0, none⟩ = some (.int .i64 0) := K4.cell 0
          have l1 : w4.cell? ⟨w.heap.size + 1 + 1, 1, none⟩ = some (.int .i64 0) := K4.cell 1
          have j0 := K4.fr 0
          have j1 := K4.fr 1
          have HF : Hid (Bel w w4) := (HB1.out.drwN _).tr hb4
          have hle : w.heap.size ≤ w.heap.size + 1 + 1 := by omega
          clear hb4 K4
          go_wp2
          refine bodyPost_ret (v := .tuple #[.agg #[.int .i64 X1, .int .i64 X2], .int .i64 0]) (by simp [results, Try.results90, go_sem, l0, l1]) rfl ⟨rfl, ?_⟩
          exact (HF.out.st hle _).st hle _
        · subst h3
          rw [Int.min_self] at M1
          rw [show C2 - C2 = 0 by omega] at M1
          have HM := Lib.hid M1
          clear M1 hC2 hW mmin
          go_wp2_with fail
          go_at_call 54
          refine (HM.out _).mono ?_
          rintro e w4 ⟨rfl, hb4⟩
          have K4 := (HR1.out.drwN _).bel hb4
          have l0 : w4.cell? ⟨w.heap.size + 1 + 1, 0, none⟩ = some (.int .i64 0) := K4.cell 0
          have l1 : w4.cell? ⟨w.heap.size + 1 + 1, 1, none⟩ = some (.int .i64 0) := K4.cell 1
          have j0 := K4.fr 0
          have j1 := K4.fr 1
          have HF : Hid (Bel w w4) := (HB1.out.drwN _).tr hb4
          have hle : w.heap.size ≤ w.heap.size + 1 + 1 := by omega
          clear hb4 K4
          go_wp2
          refine bodyPost_ret (v := .tuple #[.agg #[.int .i64 X1, .int .i64 X2], .int .i64 0]) (by simp [results, Try.results90, go_sem, l0, l1]) rfl ⟨rfl, ?_⟩
          exact (HF.out.st hle _).st hle _
        · rw [Int.min_eq_right (by omega)] at M1
          rw [show W - W = 0 by omega] at M1
          have HM := Lib.hid M1
          clear M1 hC2 hW mmin
          go_wp2_with fail
          go_at_call 54
          refine (HM.out _).mono ?_
          rintro e w4 ⟨rfl, hb4⟩
          have K4 := (HR1.out.drwN _).bel hb4
          have l0 : w4.cell? ⟨w.heap.size + 1 + 1, 0, none⟩ = some (.int .i64 0) := K4.cell 0
          have l1 : w4.cell? ⟨w.heap.size + 1 + 1, 1, none⟩ = some (.int .i64 0) := K4.cell 1
          have j0 := K4.fr 0
          have j1 := K4.fr 1
          have HF : Hid (Bel w w4) := (HB1.out.drwN _).tr hb4
          have hle : w.heap.size ≤ w.heap.size + 1 + 1 := by omega
          clear hb4 K4
          go_wp2
          refine bodyPost_ret (v := .tuple #[.agg #[.int .i64 X1, .int .i64 X2], .int .i64 0]) (by simp [results, Try.results90, go_sem, l0, l1]) rfl ⟨rfl, ?_⟩
          exact (HF.out.st hle _).st hle _
end Go.Proofs.Ytmgdoglnckkobaa.Sk
namespace Go.Proofs.Ytmgdoglnckkobaa.Sk
open Go.ChangeShapes Go.WideShapes Go.RowKit Wo Sr Wi Nr Pc Eu Ra
set_option linter.unusedVariables false
set_option maxHeartbeats 8000000 in
theorem same_yes (a c b d m n : Nat) (E : Int) (L : List Int) (hn : n ≤ 100) (w : World) (hz : Zi w (some ⟨a, 0, none⟩) n L) (hy : Zi w (some ⟨b, 0, none⟩) n L) :
    Calls Try.prog 91 #[skv a c m n E, skv b d m n E] w fun e w' => e = .returned (.bool true) ∧ Bel w w' := by
  have IK : Hid (∀ W, Bel w W → _) := fun W hW => ints_same (some ⟨a, 0, none⟩) (some ⟨b, 0, none⟩) c d n L (by omega) W (hz.bel hW) (hy.bel hW)
  have k1 : ((m : Int) == (m : Int)) = true := by simp
  have k2 : (E == E) = true := by simp
  have k3 := ne_self (m : Int)
  have k4 := ne_self E
  unfold skv
  clear hz hy
  go_enter Try.func91, Try.ntmps91
  have HB0 : Hid (Bel w ((w.alloc (.cells #[.int .i64 (m : Int), .slice (some ⟨a, 0, none⟩) n c, .int .i64 E] 67)).alloc (.cells #[.int .i64 (m : Int), .slice (some ⟨b, 0, none⟩) n d, .int .i64 E] 67))) := (Bel.rf.al _).al _
  go_wp2_with (go_at_call 20; refine (IK.out _ HB0.out).mono ?_; rintro e w9 ⟨rfl, hb⟩)
  go_ret
  exact ⟨rfl, HB0.out.tr hb⟩
theorem ex_fact : pls (cen [1, 2, 3, 4]) 4 2 = [-8, 8] ∧ vr [1, 2, 3, 4] = 20 ∧ vr [4, 3, 2, 1] = 20 ∧ upv [1, 2, 3, 4] [4, 3, 2, 1] 4 2 = -12 ∧ mN 20 20 (-12) = 34 ∧ mD 20 20 (-12) = 25 := by decide +kernel
theorem of_ex (hx : Nat) (X L : List Int) (E : Int) (hE : ((4 : Nat) : Int) * vr X = E) (hL : pls (cen X) 4 2 = L) (hs : Sam X) (w : World) (hz : Zi w (some ⟨hx, 0, none⟩) 4 X) :
    Calls Try.prog 39 #[.slice (some ⟨hx, 0, none⟩) 4 4, .int .i64 2] w fun e w' => ∃ h c', e = .returned (.tuple #[.agg #[.int .i64 4, .slice (some ⟨h, 0, none⟩) 2 c', .int .i64 E], .int .i64 0]) ∧ Skz w' h 2 4 X ∧ Bel w w' := by
  refine (Of_ok hx 4 4 2 X (by decide) (by decide) (by decide) (by decide) (by decide) (by decide) hs w hz).mono ?_
  rintro e w' ⟨h, c', rfl, _, _, z, hb⟩
  rw [hE]
  exact ⟨h, c', rfl, z, hb⟩
theorem up_ex (a c b d : Nat) (w : World) (hz : Skz w a 2 4 [1, 2, 3, 4]) (hy : Skz w b 2 4 [4, 3, 2, 1]) :
    Calls Try.prog 89 #[.agg #[.int .i64 4, .slice (some ⟨a, 0, none⟩) 2 c, .int .i64 80], .agg #[.int .i64 4, .slice (some ⟨b, 0, none⟩) 2 d, .int .i64 80]] w fun e w' => e = .returned (.tuple #[.int .i64 (-12), .int .i64 0]) ∧ Bel w w' := by
  have h := Upper_ok a c b d 4 2 [1, 2, 3, 4] [4, 3, 2, 1] (by decide) (by decide) (by decide) (by decide) (by decide) (sam_l (by decide)) (sam_l (by decide)) rfl rfl w hz hy
  rw [ex_fact.2.1, ex_fact.2.2.1, ex_fact.2.2.2.1] at h
  exact h
theorem gap_ex (a c b d : Nat) (w : World) (hz : Skz w a 2 4 [1, 2, 3, 4]) (hy : Skz w b 2 4 [4, 3, 2, 1]) :
    Calls Try.prog 90 #[.agg #[.int .i64 4, .slice (some ⟨a, 0, none⟩) 2 c, .int .i64 80], .agg #[.int .i64 4, .slice (some ⟨b, 0, none⟩) 2 d, .int .i64 80]] w fun e w' => e = .returned (.tuple #[.agg #[.int .i64 34, .int .i64 25], .int .i64 0]) ∧ Bel w w' := by
  have h := Gap_ok a c b d 4 2 [1, 2, 3, 4] [4, 3, 2, 1] (by decide) (by decide) (by decide) (by decide) (by decide) (sam_l (by decide)) (sam_l (by decide)) rfl rfl w hz hy
  rw [ex_fact.2.1, ex_fact.2.2.1, ex_fact.2.2.2.1, ex_fact.2.2.2.2.1, ex_fact.2.2.2.2.2] at h
  exact h
set_option maxHeartbeats 8000000 in
set_option maxRecDepth 100000 in
theorem awake_any (w : World) : Calls Try.prog 44 #[] w fun e w' => e = .returned (.bool true) ∧ Bel w w' := by
  have HP : Hid (pls (cen [1, 2, 3, 4]) 4 2 = [-8, 8]) := ex_fact.1
  go_enter Try.func44, Try.ntmps44
  go_wp2_with fail
  go_at_call 39
  refine (of_ex _ [1, 2, 3, 4] _ 80 (by decide +kernel) rfl (sam_l (by decide)) _ (zi_bk (Bk.nw w 3 _) 4 rfl)).mono ?_
  rintro e w1 ⟨h1, c1, rfl, hz1, hb1⟩
  have HB1 : Hid (Bel w (w1.alloc (.cells #[.int .i64 4, .slice (some ⟨h1, 0, none⟩) 2 c1, .int .i64 80] 67))) := ((Bel.rf.al _).tr hb1).al _
  have HZ1 : Hid (Skz (w1.alloc (.cells #[.int .i64 4, .slice (some ⟨h1, 0, none⟩) 2 c1, .int .i64 80] 67)) h1 2 4 [1, 2, 3, 4]) := hz1.bel (Bel.rf.al _)
  have HKA : Hid (Bk (w1.alloc (.cells #[.int .i64 4, .slice (some ⟨h1, 0, none⟩) 2 c1, .int .i64 80] 67)) w1.heap.size 67 #[.int .i64 4, .slice (some ⟨h1, 0, none⟩) 2 c1, .int .i64 80]) := Bk.nw _ _ _
  clear hb1 hz1
  go_wp2_with fail
  go_at_call 39
  refine (of_ex _ [4, 3, 2, 1] _ 80 (by decide +kernel) rfl (sam_l (by decide)) _ (zi_bk (Bk.nq _ 3 _ (by simp)) 4 rfl)).mono ?_
  rintro e w2 ⟨h2, c2, rfl, hz2, hb2⟩
  have HB2 : Hid (Bel w (w2.alloc (.cells #[.int .i64 4, .slice (some ⟨h2, 0, none⟩) 2 c2, .int .i64 80] 67))) := ((HB1.out.al _).tr hb2).al _
  have HZ1' : Hid (Skz (w2.alloc (.cells #[.int .i64 4, .slice (some ⟨h2, 0, none⟩) 2 c2, .int .i64 80] 67)) h1 2 4 [1, 2, 3, 4]) := HZ1.out.bel (((Bel.rf.al _).tr hb2).al _)
  have HZ2 : Hid (Skz (w2.alloc (.cells #[.int .i64 4, .slice (some ⟨h2, 0, none⟩) 2 c2, .int .i64 80] 67)) h2 2 4 [4, 3, 2, 1]) := hz2.bel (Bel.rf.al _)
  have KA : Bk w2 w1.heap.size 67 #[.int .i64 4, .slice (some ⟨h1, 0, none⟩) 2 c1, .int .i64 80] := HKA.out.bel ((Bel.rf.al _).tr hb2)
  have HKA2 : Hid (Bk (w2.alloc (.cells #[.int .i64 4, .slice (some ⟨h2, 0, none⟩) 2 c2, .int .i64 80] 67)) w1.heap.size 67 #[.int .i64 4, .slice (some ⟨h1, 0, none⟩) 2 c1, .int .i64 80]) := KA.al _
  have HKB2 : Hid (Bk (w2.alloc (.cells #[.int .i64 4, .slice (some ⟨h2, 0, none⟩) 2 c2, .int .i64 80] 67)) w2.heap.size 67 #[.int .i64 4, .slice (some ⟨h2, 0, none⟩) 2 c2, .int .i64 80]) := Bk.nw _ _ _
  have a0 : w2.cell? ⟨w1.heap.size, 0, none⟩ = some (.int .i64 4) := KA.cell 0
  have a1 : w2.cell? ⟨w1.heap.size, 1, none⟩ = some (.slice (some ⟨h1, 0, none⟩) 2 c1) := KA.cell 1
  have a2 : w2.cell? ⟨w1.heap.size, 2, none⟩ = some (.int .i64 80) := KA.cell 2
  have al := KA.lt
  clear hb2 hz2 KA HZ1 HKA HB1
  go_wp2_with fail
  go_at_call 89
  refine (up_ex h1 c1 h2 c2 _ HZ1'.out HZ2.out).mono ?_
  rintro e w3 ⟨rfl, hb3⟩
  have HB3 : Hid (Bel w w3) := HB2.out.tr hb3
  have HZ13 := Lib.hid (HZ1'.out.bel hb3)
  have HZ23 := Lib.hid (HZ2.out.bel hb3)
  have KA := HKA2.out.bel hb3
  have KB := HKB2.out.bel hb3
  have HKA3 := Lib.hid KA
  have a0 : w3.cell? ⟨w1.heap.size, 0, none⟩ = some (.int .i64 4) := KA.cell 0
  have a1 : w3.cell? ⟨w1.heap.size, 1, none⟩ = some (.slice (some ⟨h1, 0, none⟩) 2 c1) := KA.cell 1
  have a2 : w3.cell? ⟨w1.heap.size, 2, none⟩ = some (.int .i64 80) := KA.cell 2
  have b0 : w3.cell? ⟨w2.heap.size, 0, none⟩ = some (.int .i64 4) := KB.cell 0
  have b1 : w3.cell? ⟨w2.heap.size, 1, none⟩ = some (.slice (some ⟨h2, 0, none⟩) 2 c2) := KB.cell 1
  have b2 : w3.cell? ⟨w2.heap.size, 2, none⟩ = some (.int .i64 80) := KB.cell 2
  have al := KA.lt
  have bl := KB.lt
  clear hb3 KA KB HKA2 HKB2 HZ1' HZ2 HB2
  go_wp2_with fail
  go_at_call 90
  refine (gap_ex h1 c1 h2 c2 _ HZ13.out HZ23.out).mono ?_
  rintro e w4 ⟨rfl, hb4⟩
  have HB4 : Hid (Bel w (w4.alloc (.cells #[.int .i64 34, .int .i64 25] 37))) := (HB3.out.tr hb4).al _
  have KR : Bk (w4.alloc (.cells #[.int .i64 34, .int .i64 25] 37)) w4.heap.size 37 #[.int .i64 34, .int .i64 25] := Bk.nw _ _ _
  have HKR := Lib.hid KR
  have HZ14 : Hid (Zi (w4.alloc (.cells #[.int .i64 34, .int .i64 25] 37)) (some ⟨h1, 0, none⟩) 2 [-8, 8]) := by
    have := HZ13.out.bel (hb4.al (.cells #[.int .i64 34, .int .i64 25] 37))
    unfold Skz at this
    rw [HP.out] at this
    exact this
  have KA := HKA3.out.bel hb4
  have a0 : w4.cell? ⟨w1.heap.size, 0, none⟩ = some (.int .i64 4) := KA.cell 0
  have a1 : w4.cell? ⟨w1.heap.size, 1, none⟩ = some (.slice (some ⟨h1, 0, none⟩) 2 c1) := KA.cell 1
  have a2 : w4.cell? ⟨w1.heap.size, 2, none⟩ = some (.int .i64 80) := KA.cell 2
  have al := KA.lt
  clear hb4 KA KR HZ13 HZ23 HB3 HKA3 HP
  go_wp2_with fail
  go_at_call 91
  refine (same_yes h1 c1 _ 2 4 2 80 [-8, 8] (by decide) _ (HZ14.out.bel (Bel.rf.al _)) (zi_bk (Bk.nq _ 3 _ (by simp)) 2 rfl)).mono ?_
  rintro e w5 ⟨rfl, hb5⟩
  have HB5 : Hid (Bel w w5) := (HB4.out.al _).tr hb5
  have KR := HKR.out.bel ((Bel.rf.al _).tr hb5)
  have r0 : w5.cell? ⟨w4.heap.size, 0, none⟩ = some (.int .i64 34) := KR.cell 0
  have r1 : w5.cell? ⟨w4.heap.size, 1, none⟩ = some (.int .i64 25) := KR.cell 1
  clear hb5 KR
  go_wp2
  go_ret
  exact ⟨rfl, HB5.out⟩
end Go.Proofs.Ytmgdoglnckkobaa.Sk
