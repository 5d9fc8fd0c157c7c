/- The contract of the function that series.runs hands back. -/
import Derived.RangeFuncBox
import Derived.RangeFuncLeaves
import Derived.RangeFuncNested
import Derived.RangeFuncBound
import Derived.RangeFuncCalls
import Derived.Shelf.Abstract
import Derived.Shelf.RegionOpen
import Derived.OwnWalkIn
import Derived.TacticsInMore
import Derived.LoopNIn
import Derived.LoopIn
import Derived.Maps.AppendAt
import Derived.Test.YtaplbkfmedofcaaSer1
namespace Go.Proofs.Ytaplbkfmedofcaa.Se
open Go.RowKit Go.Shelf Wo Sr Wi
set_option linter.unusedVariables false
attribute [local go_sem] Oper.semAt_some
/-- a run within bounds -/
abbrev Rn := {r : Nat × Nat // r.1 + r.2 ≤ 3000}
def rv (l : List Rn) : List (Nat × Nat) := l.map Subtype.val
theorem rv_snoc (l : List Rn) (x : Rn) : rv (l ++ [x]) = rv l ++ [x.1] := by simp [rv]
/-- a run, as it is yielded -/
def encr (r : Rn) : Array Value := #[.agg #[.int .i64 (r.1.1 : Int), .int .i64 (r.1.2 : Int)]]
/-- the blocks below n₀ are as they were, but one -/
def Kq (n₀ Bo : Nat) (W W' : World) : Prop := ∀ b, b < n₀ → b ≠ Bo → W'.heap[b]? = W.heap[b]?
theorem Kq.cell {n₀ Bo : Nat} {W W' : World} (h : Kq n₀ Bo W W') {p : Addr} {v : Value} (hc : W.cell? p = some v) (h1 : p.block < n₀) (h2 : p.block ≠ Bo) : W'.cell? p = some v := (World.cell?_of_block (h _ h1 h2)).trans hc
theorem Kq.zi {n₀ Bo : Nat} {W W' : World} (h : Kq n₀ Bo W W') {A : Option Addr} {n : Nat} {L : List Int} (hz : Zi W A n L) (hb : 0 < n → ∀ ad, A = some ad → ad.block < n₀ ∧ ad.block ≠ Bo) (hs : n₀ ≤ W'.heap.size) : Zi W' A n L :=
  ⟨hz.1, fun hn => by
    obtain ⟨ad, e, hx, hc⟩ := hz.2 hn
    have hb2 := hb hn ad e
    exact ⟨ad, e, by omega, fun j hj => h.cell (hc j hj) (by rw [add_block]; exact hb2.1) (by rw [add_block]; exact hb2.2)⟩⟩
theorem drop_at {L : List Int} {k n : Nat} (hl : L.length = n) (hk : k < n) : L.drop k = L.getD k 0 :: L.drop (k + 1) := by
  rw [List.drop_eq_getElem_cons (by omega), List.getD_eq_getElem?_getD, List.getElem?_eq_getElem (by omega)]; rfl
theorem zi_lt {w : World} {A : Option Addr} {n : Nat} {L : List Int} (h : Zi w A n L) : ∀ ad, 0 < n → A = some ad → ad.block < w.heap.size := fun ad hn e => by
  obtain ⟨ad', e', hx, _⟩ := h.2 hn
  rw [e] at e'; cases e'; exact hx
set_option maxRecDepth 100000 in
set_option maxHeartbeats 2000000 in
theorem runs1_in (d : Nat) (hd : 1 ≤ d) (n₀ Bo l Bx : Nat) (A : Option Addr) (c n : Nat) (L : List Int) (hn : n ≤ 3000) (J Jx : List Rn → World → Prop) (W : World) (hJ : AbidesFrom W.heap.size J)
    (hY : ∀ pre x W, J pre W → pre.length < n + 1 → YieldAt Fence.wide (d - 1) Try.prog l (encr x) W fun e W' =>
      (e = .returned (.bool true) ∧ J (pre ++ [x]) W' ∧ (Kq n₀ Bo W W' ∧ n₀ ≤ W'.heap.size)) ∨ (e = .returned (.bool false) ∧ Jx (pre ++ [x]) W'))
    (hx1 : Bx < n₀) (hx2 : Bx ≠ Bo) (hbx : W.cell? ⟨Bx, 0, none⟩ = some (.slice A n c)) (hz : Zi W A n L) (hzb : 0 < n → ∀ ad, A = some ad → ad.block < n₀ ∧ ad.block ≠ Bo) (h0 : J [] W) :
    CallsIn Fence.wide d Try.prog 59 #[.func (.yield l) #[] #[], .pointer (some ⟨Bx, 0, none⟩)] W fun e W' => (∃ v, e = .returned v) ∧
      ((∃ ys : List Rn, rv ys = rns L 0 0 ∧ J ys W') ∨ (∃ pre : List Rn, True ∧ Jx pre W')) := by
  have ni : (n : Int) ≤ 3000 := by omega
  have HL := Lib.hid hz.1
  have HZB := Lib.hid hzb
  refine callsIn_of_wp Try.func59 rfl trivial ?_ rfl
  simp only [Try.ntmps59, List.size_toArray, List.length_cons, List.length_nil, Nat.reduceAdd, Nat.reduceSub, Array.replicate_succ, Array.replicate_zero, List.push_toArray, List.append_toArray, List.nil_append, List.cons_append]
  gi_wp2
  gi_loopw [3, 8] (fun s3 s8 wr => ∃ (k cc : Nat) (pre : List Rn), s3 = .int .i64 (cc : Int) ∧ s8 = .int .i64 (k : Int) ∧ k ≤ n ∧ cc ≤ k ∧ pre.length ≤ k ∧ rv pre ++ rns (L.drop k) k cc = rns L 0 0 ∧ J pre wr ∧ wr.cell? ⟨Bx, 0, none⟩ = some (.slice A n c) ∧ Zi wr A n L)
    (fun s3 s8 wr => n - (intOf s8).toNat)
  case atStart => exact ⟨0, 0, [], rfl, rfl, Nat.zero_le _, Nat.le_refl _, Nat.le_refl _, rfl, h0, hbx, hz⟩
  case round =>
    clear hbx hz h0
    obtain ⟨k, cc, pre, rfl, rfl, hk, hck, hpl, hpre, hJs, cb, hzr⟩ := hrel
    rcases Nat.lt_or_ge k n with hlt | hge
    · have hdr := drop_at HL.out hlt
      obtain ⟨ad, rfl, hab, hac⟩ := hzr.2 (by omega)
      have c1 := hac k hlt
      obtain ⟨x, hx⟩ : ∃ x, L.getD k 0 = x := ⟨_, rfl⟩
      rw [hx] at c1 hdr
      have HD := Lib.hid hdr
      have HP := Lib.hid (And.intro hpre (And.intro hJs (And.intro cb hzr)))
      have ki : (k : Int) < (n : Int) := by omega
      have cki : (cc : Int) ≤ (k : Int) := by omega
      clear hdr hx hac hab hpre hJs hzr
      by_cases hm : x = 1073741824
      · subst hm
        rcases Nat.eq_zero_or_pos cc with h0 | h0
        · subst h0
          gi_wp2
          refine ⟨(fun f h => by cases h), ?_⟩
          gi_wp2
          go_roundw
          case rel => exact ⟨k + 1, 0, pre, rfl, by go_num, by omega, by omega, by omega, by
            have := HP.out.1
            rw [HD.out] at this
            rw [← this]; rfl, HP.out.2.1, HP.out.2.2.1, HP.out.2.2.2⟩
          case measure => simp [intOf]; omega
        · have c0 : (cc : Int) > 0 := by omega
          obtain ⟨q, hq⟩ : ∃ q, k - cc = q := ⟨_, rfl⟩
          have hqi : (k : Int) - (cc : Int) = (q : Int) := by omega
          obtain ⟨fn, tmps, assign, body, hy, hR⟩ := hY pre ⟨(q, cc), by show q + cc ≤ 3000; omega⟩ wr HP.out.2.1 (by omega)
          unfold encr at hy
          clear hY hJ hzb hq
          obtain ⟨H, hH⟩ : ∃ H : Bool → World → Prop, H = fun bb W' => ((bb = true ∧ J (pre ++ [⟨(q, cc), by show q + cc ≤ 3000; omega⟩]) W' ∧ (Kq n₀ Bo wr W' ∧ n₀ ≤ W'.heap.size)) ∨ (bb = false ∧ Jx (pre ++ [⟨(q, cc), by show q + cc ≤ 3000; omega⟩]) W')) := ⟨_, rfl⟩
          have hR2 := hR.mono (R' := fun e W' => ∃ bb, e = .returned (.bool bb) ∧ H bb W') (fun e W' h3 => by rw [hH]; exact h3.elim (fun h => ⟨true, h.1, .inl ⟨rfl, h.2.1, h.2.2⟩⟩) (fun h => ⟨false, h.1, .inr ⟨rfl, h.2⟩⟩))
          have HH := Lib.hid hH
          clear hR hH
          gi_wp2_with (refine hR2.mono ?_; rintro e W3 ⟨bb, rfl, hbb⟩; rw [HH.out] at hbb; rcases hbb with ⟨rfl, hJ3, hk3, hk4⟩ | ⟨rfl, hJx3⟩)
          · go_roundw
            case rel => exact ⟨k + 1, 0, pre ++ [⟨(q, cc), by show q + cc ≤ 3000; omega⟩], rfl, by go_num, by omega, by omega, by rw [List.length_append]; simp; omega, by
              have := HP.out.1
              rw [HD.out] at this
              rw [← this, rv_snoc, List.append_assoc]; congr 1; show _ = rns (_ :: _) k cc; conv => rhs; unfold rns
              rw [if_pos rfl, if_pos h0]; show _ = (k - cc, cc) :: _; rw [show k - cc = q by omega]; rfl, hJ3, hk3.cell HP.out.2.2.1 hx1 hx2, hk3.zi HP.out.2.2.2 HZB.out hk4⟩
            case measure => simp [intOf]; omega
          · refine bodyPost_ret (results_none rfl _ _ _) rfl ?_
            exact ⟨⟨_, rfl⟩, .inr ⟨_, trivial, hJx3⟩⟩
      · have hmb : (x == 1073741824) = false := by simpa using hm
        gi_wp2
        go_roundw
        case rel => exact ⟨k + 1, cc + 1, pre, by go_num, by go_num, by omega, by omega, by omega, by
            have := HP.out.1
            rw [HD.out] at this
            rw [← this]; show _ = rv pre ++ rns (x :: _) k cc; conv => rhs; unfold rns
            rw [if_neg hm], HP.out.2.1, HP.out.2.2.1, HP.out.2.2.2⟩
        case measure => simp [intOf]; omega
    · obtain rfl : k = n := by omega
      have hrl : rns (L.drop k) k cc = if 0 < cc then [(k - cc, cc)] else [] := by rw [List.drop_of_length_le (by have := HL.out; omega)]; rfl
      rw [hrl] at hpre
      have cki : (cc : Int) ≤ (k : Int) := by omega
      clear hrl hzr hzb
      rcases Nat.eq_zero_or_pos cc with h0 | h0
      · subst h0
        have hpre2 : rv pre = rns L 0 0 := by rw [← hpre]; simp
        clear hpre
        have HP2 := Lib.hid (And.intro hpre2 hJs)
        clear hpre2 hJs
        gi_wp2
        go_end0
        exact ⟨⟨_, rfl⟩, .inl ⟨pre, HP2.out⟩⟩
      · have c0 : (cc : Int) > 0 := by omega
        rw [if_pos h0] at hpre
        obtain ⟨q, hq⟩ : ∃ q, k - cc = q := ⟨_, rfl⟩
        rw [hq] at hpre
        have hqi : (k : Int) - (cc : Int) = (q : Int) := by omega
        obtain ⟨fn, tmps, assign, body, hy, hR⟩ := hY pre ⟨(q, cc), by show q + cc ≤ 3000; omega⟩ wr hJs (by omega)
        unfold encr at hy
        have HP2 := Lib.hid hpre
        clear hY hJ hq hJs hpre
        obtain ⟨H, hH⟩ : ∃ H : Bool → World → Prop, H = fun bb W' => ((bb = true ∧ J (pre ++ [⟨(q, cc), by show q + cc ≤ 3000; omega⟩]) W' ∧ (Kq n₀ Bo wr W' ∧ n₀ ≤ W'.heap.size)) ∨ (bb = false ∧ Jx (pre ++ [⟨(q, cc), by show q + cc ≤ 3000; omega⟩]) W')) := ⟨_, rfl⟩
        have hR2 := hR.mono (R' := fun e W' => ∃ bb, e = .returned (.bool bb) ∧ H bb W') (fun e W' h3 => by rw [hH]; exact h3.elim (fun h => ⟨true, h.1, .inl ⟨rfl, h.2.1, h.2.2⟩⟩) (fun h => ⟨false, h.1, .inr ⟨rfl, h.2⟩⟩))
        have HH := Lib.hid hH
        clear hR hH
        gi_wp2_with (refine hR2.mono ?_; rintro e W3 ⟨bb, rfl, hbb⟩)
        go_end0
        rw [HH.out] at hbb
        refine ⟨⟨_, rfl⟩, ?_⟩
        rcases hbb with ⟨rfl, hJ3, hk3, hk4⟩ | ⟨rfl, hJx3⟩
        · exact .inl ⟨_, by rw [rv_snoc]; exact HP2.out, hJ3⟩
        · exact .inr ⟨_, trivial, hJx3⟩
end Go.Proofs.Ytaplbkfmedofcaa.Se
