/- Merged: Wd8 WdR Wd10 Wd11 RepW Wd12 Wd13 WdS WdT Wd15. -/
import Derived.Test.YtmgdoglnckkobaaGs1
import Derived.Test.YtmgdoglnckkobaaGs2
import Derived.Test.YtmgdoglnckkobaaGs3
import Derived.Test.YtmgdoglnckkobaaGs4
import Derived.Laws.CopyOwn
import Derived.Laws.Bits64b
import Derived.Laws.MathBits
import Derived.Deep.RegionLaw
namespace Go.Proofs.Ytmgdoglnckkobaa.Wd
open Go.ChangeShapes Go.WideShapes Go.RowKit Wo Sr Wi Ms
set_option linter.unusedVariables false
set_option linter.unusedSimpArgs false
/-- a row that lies in no elder block -/
def Fz (w : World) (A : Option Addr) (n : Nat) : Prop := 0 < n → ∀ ad, A = some ad → w.heap.size ≤ ad.block
theorem Fz.ne {w : World} {A : Option Addr} {n g : Nat} (h : Fz w A n) (h0 : 0 < n) (hg : g < w.heap.size) : ∀ ad, A = some ad → ad.block ≠ g := fun ad e => by have := h h0 ad e; omega
theorem own_fz {w w0 : World} {base k c : Nat} {A : Option Addr} {L : List Int} (h : w.ownsRow base 3 1 (.slice A k c) k (zs L)) (hb : w0.heap.size ≤ base) : Fz w0 A k := fun h0 ad e => by
  obtain ⟨r, c', e', _, hr⟩ := row_form h h0
  injection e' with e1
  rw [e] at e1
  injection e1 with e1
  subst e1
  exact Nat.le_trans hb hr
/-- a new row with these numbers -/
def SomeCl (n : Nat) (L : List Int) (w : World) (e : Ending) (w' : World) : Prop := ∃ h c, e = .returned (.slice (some ⟨h, 0, none⟩) n c) ∧ w'.ownsRow w.heap.size 3 1 (.slice (some ⟨h, 0, none⟩) n c) n (zs L) ∧ Bel w w'
theorem results_w {fn : Func} {p : Tmp} (h : fn.results = #[.cell p 59]) (tmps : Array Value) (w : World) (g : Nat) (a b : Value)
    (hp : tmps.getD p undef = .pointer (some ⟨g, 0, none⟩)) (hg : Bk w g 59 #[a, b]) : (results fn tmps).run Try.prog w = .ok (.agg #[a, b]) w := by
  have hp' : tmps[p]?.getD undef = .pointer (some ⟨g, 0, none⟩) := by simpa using hp
  have hl := run_loadVar_row (P := Try.prog) w g 59 59 #[a, b] (0, 0) _ hg Try.underlying59 rfl (by kernel_rfl)
  simp [results, h, hp', asAddr, hl]
/-- a new word -/
def SomeW (n : Nat) (S B : List Int) (w : World) (e : Ending) (w' : World) : Prop := ∃ sA bA sc bc, e = .returned (Wx n sA bA sc bc) ∧ Zi w' sA n S ∧ Zi w' bA n B ∧ Bel w w'
end Go.Proofs.Ytmgdoglnckkobaa.Wd
namespace Go.Proofs.Ytmgdoglnckkobaa.Wd
open Go.ChangeShapes Go.WideShapes Go.RowKit Wo Sr Wi Ms
set_option linter.unusedVariables false
set_option linter.unusedSimpArgs false
theorem getD_set (L : List Int) (p i : Nat) (x : Int) (h : p < L.length) : (L.set p x).getD i 0 = if p = i then x else L.getD i 0 := by
  rw [List.getD_eq_getElem?_getD, List.getElem?_set, List.getD_eq_getElem?_getD]
  by_cases e : p = i
  · subst e; simp [h]
  · simp [e]
theorem zi_fz {w w' w0 : World} {A : Option Addr} {n g : Nat} {L : List Int} (h : Zi w A n L) (hc : Ch g w w') (hf : Fz w0 A n) (hg : g < w0.heap.size) : Zi w' A n L := ⟨h.1, fun h0 => (h.ch hc (hf.ne h0 hg)).2 h0⟩
theorem wv_split {n p : Nat} {S B : List Int} (hv : Wv n S B) (hp : p < n) (h4 : B.getD p 0 ≠ 4) (d : Int) (d0 : 0 ≤ d) (d1 : d ≤ 1) : Wv n (S.set p (2 * S.getD p 0 + d)) (B.set p (B.getD p 0 + 1)) := by
  obtain ⟨lS, lB, h⟩ := hv
  refine ⟨by simpa using lS, by simpa using lB, fun i hi => ?_⟩
  rw [getD_set _ _ _ _ (by omega), getD_set _ _ _ _ (by omega)]
  obtain ⟨a0, a1, a2, a3⟩ := h i hi
  by_cases e : p = i
  · subst e
    rw [if_pos rfl, if_pos rfl]
    obtain ⟨b, hb⟩ : ∃ b, B.getD p 0 = b := ⟨_, rfl⟩
    obtain ⟨s, hs⟩ : ∃ s, S.getD p 0 = s := ⟨_, rfl⟩
    rw [hb] at a0 a1 a3 h4 ⊢
    rw [hs] at a2 a3 ⊢
    rcases (by omega : b = 0 ∨ b = 1 ∨ b = 2 ∨ b = 3) with rfl | rfl | rfl | rfl <;> simp at a3 ⊢ <;> omega
  · rw [if_neg e, if_neg e]; exact ⟨a0, a1, a2, a3⟩
end Go.Proofs.Ytmgdoglnckkobaa.Wd
namespace Go.Proofs.Ytmgdoglnckkobaa.Wd
open Go.ChangeShapes Go.WideShapes Go.RowKit Wo Sr Wi Ms
set_option linter.unusedVariables false
set_option linter.unusedSimpArgs false
def SomeBs (C : List Int) (n : Nat) (x : Int) (w : World) (e : Ending) (w' : World) : Prop := ∃ (q : Nat) (f : Bool), e = .returned (.tuple #[.int .i64 (q : Int), .bool f]) ∧ q ≤ n ∧ (∀ j, j < q → C.getD j 0 < x) ∧ (∀ j, q ≤ j → j < n → x ≤ C.getD j 0) ∧ f = decide (q < n ∧ C.getD q 0 = x) ∧ Bel w w'
end Go.Proofs.Ytmgdoglnckkobaa.Wd
namespace Go.Proofs.Ytmgdoglnckkobaa.Wd
open Go.ChangeShapes Go.WideShapes Go.RowKit Wo Sr Wi Ms Pc Nr Rt
set_option linter.unusedVariables false
set_option linter.unusedSimpArgs false
theorem sts_at (m n k : Nat) (n1 : 1 ≤ n) (h : k ≤ n) : (sts m n).getD k 0 = (st m n k : Int) := by
  rw [List.getD_eq_getElem?_getD]
  unfold sts
  rcases Nat.lt_or_ge k n with h1 | h1
  · rw [List.getElem?_append_left (by simpa using h1), List.getElem?_map, List.getElem?_range h1]; rfl
  · obtain rfl : k = n := by omega
    rw [List.getElem?_append_right (by simp)]
    simp [st_all m k n1]
/-- the length of a piece -/
def pln (m n p : Nat) : Nat := st m n (p + 1) - st m n p
theorem pln_in (m n p : Nat) (n1 : 1 ≤ n) (nm : n ≤ m) (m32 : m ≤ 32) (hp : p < n) : 1 ≤ pln m n p ∧ pln m n p ≤ 32 ∧ st m n p ≤ 32 ∧ st m n (p + 1) ≤ 32 ∧ st m n p + pln m n p = st m n (p + 1) := by
  have h1 := st_step m n p (by omega)
  have h2 : 1 ≤ m / n := (Nat.le_div_iff_mul_le (by omega)).2 (by omega)
  have h3 := st_le m n (p + 1) (by omega) (by omega)
  have h4 := st_le m n p (by omega) (by omega)
  unfold pln
  omega
instance (t e : Int) : Decidable (QIn t e) := by unfold QIn; exact inferInstance
/-- the coordinate of a piece -/
def cdl (k : Int) (X : List Int) (m n p : Nat) : Int :=
  if k = 2 then (pls (cen X) m n).getD p 0 / ((m : Int) * (pln m n p : Int))
  else if k = 3 then (if QIn (64 * (pls (cen X) m n).getD p 0) ((m : Int) * pr X X) then quo (64 * (pls (cen X) m n).getD p 0) ((m : Int) * pr X X) else 0)
  else (pls X m n).getD p 0 / (pln m n p : Int)
/-- the coordinates -/
def cds (k : Int) (X : List Int) (m n : Nat) : List Int := (List.range n).map (cdl k X m n)
theorem cds_len (k : Int) (X : List Int) (m n : Nat) : (cds k X m n).length = n := by simp [cds]
theorem cds_at (k : Int) (X : List Int) (m n p : Nat) (h : p < n) : (cds k X m n).getD p 0 = cdl k X m n p := by
  unfold cds
  rw [List.getD_eq_getElem?_getD, List.getElem?_map, List.getElem?_range h]; rfl
theorem quot_any (t e : Int) (w : World) : Calls Try.prog 81 #[.int .i64 t, .int .i64 e] w fun r w' => ∃ x, r = .returned (.tuple #[.int .i64 (if QIn t e then quo t e else 0), .int .i64 x]) ∧ w = w' := by
  by_cases h : QIn t e
  · rw [if_pos h]
    exact (quo_in t e w h).mono (by rintro r w' ⟨rfl, rfl⟩; exact ⟨0, rfl, rfl⟩)
  · rw [if_neg h]
    exact (quo_out t e w h).mono (by rintro r w' ⟨rfl, rfl⟩; exact ⟨1, rfl, rfl⟩)
/-- a new row of so many numbers -/
def SomeCo (n : Nat) (L : List Int) (w : World) (e : Ending) (w' : World) : Prop := ∃ a, e = .returned (.tuple #[.slice (some ⟨a, 0, none⟩) n n, .int .i64 0]) ∧ w.heap.size ≤ a ∧ Bk w' a 3 (zs L).toArray ∧ Bel w w'
end Go.Proofs.Ytmgdoglnckkobaa.Wd
namespace Go.Proofs.Ytmgdoglnckkobaa.Sg
open Go.ChangeShapes Go.WideShapes Go.RowKit Wo Sr Wi
set_option linter.unusedVariables false
theorem mul64_one (k : Nat) (hk : k ≤ 1000) (w : World) : Calls Try.prog 127 #[.int .u64 1, .int .u64 (k : Int)] w fun e w' => e = .returned (.tuple #[.int .u64 0, .int .u64 (k : Int)]) ∧ w = w' := by
  have a1 : bits .and .u64 1 4294967295 = 1 := by decide
  have a2 : bits .and .u64 (k : Int) 4294967295 = (k : Int) := by
    have h := bits_and_u64_nat k 4294967295 (by omega) (by omega)
    have e : k &&& 4294967295 = k % 4294967296 := Nat.and_two_pow_sub_one_eq_mod k 32
    rw [e, Nat.mod_eq_of_lt (by omega)] at h
    exact h
  have a3 : bits .and .u64 0 4294967295 = 0 := by decide
  have ki : (k : Int) ≤ 1000 := by omega
  have w1 : (k : Int) / 4294967296 = 0 := by omega
  have w2 : (k : Int) % 18446744073709551616 = (k : Int) := by omega
  have w3 : IntKind.u64.wrap (k : Int) = (k : Int) := by rw [IntKind.wrap_u64]; omega
  have w4 : IntKind.u64.wrap 0 = 0 := by decide
  clear ki
  go_enter Try.func127, Try.ntmps127
  go_wp2
  go_ret2
  exact ⟨rfl, rfl⟩
theorem splice_zs (Z Y : List Int) (n : Nat) : splice (zs Z) n (zs Y) = zs (splice Z n Y) := by
  simp [splice, zs]
theorem splice_rep {Z : List Int} {x : Int} {k n q : Nat} (hl : Z.length = k) (hq : n + q ≤ k) (hz : ∀ i, i < n → Z.getD i 0 = x) : (splice Z n (List.replicate q x)).length = k ∧ ∀ i, i < n + q → (splice Z n (List.replicate q x)).getD i 0 = x := by
  refine ⟨by rw [length_splice _ _ _ (by simp; omega)]; exact hl, fun i hi => ?_⟩
  unfold splice
  rw [List.getD_eq_getElem?_getD]
  rcases Nat.lt_or_ge i n with h | h
  · rw [List.getElem?_append_left (by simp; omega), List.getElem?_take_of_lt h, ← List.getD_eq_getElem?_getD]
    exact hz i h
  · rw [List.getElem?_append_right (by simp; omega), List.getElem?_append_left (by simp; omega)]
    have e : i - min n Z.length < q := by omega
    simp [e]
theorem all_rep {Z : List Int} {x : Int} {k : Nat} (hl : Z.length = k) (hz : ∀ i, i < k → Z.getD i 0 = x) : Z = List.replicate k x := by
  apply List.ext_getElem?
  intro i
  rcases Nat.lt_or_ge i k with h | h
  · have := hz i h
    rw [List.getD_eq_getElem?_getD, List.getElem?_eq_getElem (by omega)] at this
    rw [List.getElem?_eq_getElem (by omega), List.getElem?_replicate, if_pos h]
    exact congrArg some this
  · rw [List.getElem?_eq_none (by omega), List.getElem?_eq_none (by simpa using h)]
theorem size_int : (Try.prog.info? 3).map (·.size) = some 1 := by kernel_rfl
def SomeRep (x : Int) (k : Nat) (w : World) (e : Ending) (w' : World) : Prop := ∃ a, e = .returned (.slice (some ⟨a, 0, none⟩) k k) ∧ w.heap.size ≤ a ∧ Zi w' (some ⟨a, 0, none⟩) k (List.replicate k x) ∧ Bel w w'
end Go.Proofs.Ytmgdoglnckkobaa.Sg
namespace Go.Proofs.Ytmgdoglnckkobaa.Wd
open Go.ChangeShapes Go.WideShapes Go.RowKit Wo Sr Wi Ms Pc Nr Rt Sg
set_option linter.unusedVariables false
set_option linter.unusedSimpArgs false
theorem step_make {P : Program} (w : World) {ops : Array Oper} {o : Oper} {a : Act} {K : Act → World → Prop} {Q : Exit → Act → World → Prop} {E : Prop} (hg : o.guard = none) (l c : Operand) (t : TypeId) (hop : o.op = Op.makeSlice t l c)
    (e : TypeId) (i : TypeInfo) (z : Value) (size : Nat) (h1 : P.underlying t = some (.slice e)) (h2 : P.info? e = some i) (h3 : i.zero = some z) (h4 : i.size = size)
    (kl kc : IntKind) (L C : Int) (m n : Nat) (hl : a.eval l = .int kl L) (hc : a.eval c = .int kc C) (hL : L = (m : Int)) (hC : C = (n : Int)) (hmn : m ≤ n) (b2 : i.bytes * n ≤ 281474976710656) (b3 : n ≤ 4611686018427387904)
    (hK : K (a.put o.dst (.slice (some ⟨w.heap.size, 0, none⟩) m n)) (w.alloc (.cells (madeCells z.cells (n * size)) e))) :
    if Region.wanted o (yielded ops a.tmps) = true then Oper.wp P o a w K Q else E := by
  have hw : Region.wanted o (yielded ops a.tmps) = true := by simp [Region.wanted, hg]
  rw [if_pos hw]
  have hb' : (i.bytes : Int) * (n : Int) ≤ 281474976710656 := by
    have h : ((i.bytes * n : Nat) : Int) ≤ 281474976710656 := by omega
    rwa [Int.natCast_mul] at h
  have hr := run_make (P := P) w t e i z h1 h2 h3 kl kc m n (by omega) (by omega) hb' (by omega)
  simp only [Int.toNat_natCast] at hr
  subst hL
  subst hC
  subst h4
  unfold Oper.wp
  simp [execOp, hop, hl, hc, hr, Result.andThen]
  exact hK
theorem results_wt {fn : Func} {p q : Tmp} (h : fn.results = #[.cell p 59, .tmp q]) (tmps : Array Value) (w : World) (g : Nat) (a b c : Value)
    (hp : tmps.getD p undef = .pointer (some ⟨g, 0, none⟩)) (hq : tmps.getD q undef = c) (hg : Bk w g 59 #[a, b]) : (results fn tmps).run Try.prog w = .ok (.tuple #[.agg #[a, b], c]) w := by
  have hp' : tmps[p]?.getD undef = .pointer (some ⟨g, 0, none⟩) := by simpa using hp
  have hq' : tmps[q]?.getD undef = c := by simpa using hq
  have hl := run_loadVar_row (P := Try.prog) w g 59 59 #[a, b] (0, 0) _ hg Try.underlying59 rfl (by kernel_rfl)
  simp [results, h, hp', hq', asAddr, hl]
/-- the symbols of a window -/
def sys (k : Int) (C X : List Int) (m n : Nat) : List Int := (cds k X m n).map fun c => (sym C c : Int)
theorem sys_len (k : Int) (C X : List Int) (m n : Nat) : (sys k C X m n).length = n := by simp [sys, cds_len]
theorem sys_at (k : Int) (C X : List Int) (m n p : Nat) (h : p < n) : (sys k C X m n).getD p 0 = (sym C (cdl k X m n p) : Int) := by
  unfold sys
  rw [List.getD_eq_getElem?_getD, List.getElem?_map, List.getElem?_eq_getElem (by rw [cds_len]; exact h)]
  have := cds_at k X m n p h
  rw [List.getD_eq_getElem?_getD, List.getElem?_eq_getElem (by rw [cds_len]; exact h)] at this
  simp at this ⊢
  rw [this]
theorem sys_wv {C : List Int} (hC : Cv C) (k : Int) (X : List Int) (m n : Nat) : Wv n (sys k C X m n) (List.replicate n 4) := by
  refine ⟨sys_len _ _ _ _ _, by simp, fun p hp => ?_⟩
  have h4 : (List.replicate n (4 : Int)).getD p 0 = 4 := by rw [List.getD_eq_getElem?_getD, List.getElem?_replicate, if_pos hp]; rfl
  rw [h4, sys_at _ _ _ _ _ _ hp]
  have h1 := sym_le C (cdl k X m n p)
  have h2 := hC.1
  refine ⟨by decide, by decide, by omega, ?_⟩
  show (sym C (cdl k X m n p) : Int) < 16
  omega
/-- a new full word -/
def SomeOf (n : Nat) (S : List Int) (w : World) (e : Ending) (w' : World) : Prop := ∃ sA bA sc bc, e = .returned (.tuple #[Wx n sA bA sc bc, .int .i64 0]) ∧ Zi w' sA n S ∧ Zi w' bA n (List.replicate n 4) ∧ Bel w w' ∧ Fz w sA n ∧ Fz w bA n
end Go.Proofs.Ytmgdoglnckkobaa.Wd
namespace Go.Proofs.Ytmgdoglnckkobaa.Wd
open Go.ChangeShapes Go.WideShapes Go.RowKit Wo Sr Wi Ms Pc Nr Rt Sg
set_option linter.unusedVariables false
set_option linter.unusedSimpArgs false
def SomeEx (w : World) (e : Ending) (w' : World) : Prop := ∃ a, e = .returned (Sx 1 0 0 4 2 (some ⟨a, 0, none⟩) 2 2) ∧ Zi w' (some ⟨a, 0, none⟩) 2 [0, 10] ∧ Bel w w'
theorem ex_sv : Sv 1 0 0 4 2 [0, 10] := ⟨.inl ⟨.inl rfl, rfl, rfl⟩, by decide, by decide, by decide, by decide, by decide, ⟨by decide, fun i hi => by
  rcases (by simp at hi; omega : i = 0 ∨ i = 1) with rfl | rfl <;> decide, fun i hi => by
  obtain rfl : i = 0 := by simp at hi; omega
  decide⟩⟩
theorem ex_sys : sys 1 [0, 10] [1, 2, -5, -6] 4 2 = [1, 0] := by decide
theorem ex_rgn : rgn 2 [0, 10] [0, 3] [3, 4] = [(-1099511627776, 9), (1, 0)] := by decide
theorem ex_wv : Wv 2 [0, 3] [3, 4] := ⟨rfl, rfl, fun p hp => by
  rcases (by omega : p = 0 ∨ p = 1) with rfl | rfl <;> decide⟩
end Go.Proofs.Ytmgdoglnckkobaa.Wd
namespace Go.Proofs.Ytmgdoglnckkobaa.Wd
open Go.ChangeShapes Go.WideShapes Go.RowKit Wo Sr Wi Ms
set_option linter.unusedVariables false
set_option linter.unusedSimpArgs false
theorem full_in {n : Nat} {F : List Int} (h : Wv n F (List.replicate n 4)) : ∀ p, p < n → 0 ≤ F.getD p 0 ∧ F.getD p 0 < 16 := fun p hp => by
  have a := h.2.2 p hp
  have e : (List.replicate n (4 : Int)).getD p 0 = 4 := by rw [List.getD_eq_getElem?_getD, List.getElem?_replicate, if_pos hp]; rfl
  rw [e] at a
  have a3 := a.2.2.2
  have : (2 : Int) ^ (4 : Int).toNat = 16 := by decide
  exact ⟨a.2.2.1, by omega⟩
theorem four_at (n : Nat) : ∀ p, p < n → (List.replicate n (4 : Int)).getD p 0 = 4 := fun p hp => by
  rw [List.getD_eq_getElem?_getD, List.getElem?_replicate, if_pos hp]; rfl
theorem zero_at (n : Nat) : ∀ p, p < n → (List.replicate n (0 : Int)).getD p 0 = 0 := fun p hp => by
  rw [List.getD_eq_getElem?_getD, List.getElem?_replicate, if_pos hp]; rfl
theorem root_wv (n : Nat) : Wv n (List.replicate n 0) (List.replicate n 0) := ⟨by simp, by simp, fun p hp => by
  rw [zero_at n p hp]; decide⟩
theorem blg_root {n : Nat} {F : List Int} (hF : ∀ p, p < n → 0 ≤ F.getD p 0 ∧ F.getD p 0 < 16) : Blg n (List.replicate n 0) (List.replicate n 0) F := fun p hp => by
  rw [zero_at n p hp]
  have := hF p hp
  show F.getD p 0 / 16 = 0
  omega
theorem blg_full {n : Nat} (F : List Int) : Blg n F (List.replicate n 4) F := fun p hp => by
  rw [four_at n p hp]
  show F.getD p 0 / 1 = _
  omega
theorem bool_split {p q r : Prop} [Decidable p] [Decidable q] [Decidable r] (h1 : p ↔ (q ∨ r)) (h2 : ¬ (q ∧ r)) : decide p = (decide q || decide r) ∧ (decide q && decide r) = false := by
  by_cases hq : q
  · by_cases hr : r
    · exact absurd ⟨hq, hr⟩ h2
    · have hp : p := h1.2 (.inl hq)
      simp [hp, hq, hr]
  · by_cases hr : r
    · have hp : p := h1.2 (.inr hr)
      simp [hp, hq, hr]
    · have hp : ¬ p := fun h => by rcases h1.1 h with h | h <;> contradiction
      simp [hp, hq, hr]
theorem div_split (f s : Int) (b : Nat) (hb : b < 4) : (f / 2 ^ (4 - b) = s ↔ (f / 2 ^ (4 - (b + 1)) = 2 * s + 0 ∨ f / 2 ^ (4 - (b + 1)) = 2 * s + 1)) := by
  rcases (by omega : b = 0 ∨ b = 1 ∨ b = 2 ∨ b = 3) with rfl | rfl | rfl | rfl <;> simp <;> omega
theorem blg_split {n p : Nat} {S B F : List Int} (hv : Wv n S B) (hp : p < n) (h4 : B.getD p 0 ≠ 4) :
    (Blg n S B F ↔ (Blg n (S.set p (2 * S.getD p 0 + 0)) (B.set p (B.getD p 0 + 1)) F ∨ Blg n (S.set p (2 * S.getD p 0 + 1)) (B.set p (B.getD p 0 + 1)) F)) ∧ ¬ (Blg n (S.set p (2 * S.getD p 0 + 0)) (B.set p (B.getD p 0 + 1)) F ∧ Blg n (S.set p (2 * S.getD p 0 + 1)) (B.set p (B.getD p 0 + 1)) F) := by
  have lS := hv.1
  have lB := hv.2.1
  obtain ⟨a0, a1, _, _⟩ := hv.2.2 p hp
  have eb : (B.getD p 0 + 1).toNat = (B.getD p 0).toNat + 1 := by omega
  have key := div_split (F.getD p 0) (S.getD p 0) (B.getD p 0).toNat (by omega)
  have at_ : ∀ d : Int, Blg n (S.set p (2 * S.getD p 0 + d)) (B.set p (B.getD p 0 + 1)) F ↔ ((∀ i, i < n → i ≠ p → F.getD i 0 / 2 ^ (4 - (B.getD i 0).toNat) = S.getD i 0) ∧ F.getD p 0 / 2 ^ (4 - ((B.getD p 0).toNat + 1)) = 2 * S.getD p 0 + d) := fun d => by
    constructor
    · intro h
      refine ⟨fun i hi hne => ?_, ?_⟩
      · have := h i hi
        rw [getD_set _ _ _ _ (by omega), getD_set _ _ _ _ (by omega), if_neg (fun e => hne e.symm), if_neg (fun e => hne e.symm)] at this
        exact this
      · have := h p hp
        rw [getD_set _ _ _ _ (by omega), getD_set _ _ _ _ (by omega), if_pos rfl, if_pos rfl, eb] at this
        exact this
    · rintro ⟨h1, h2⟩ i hi
      rw [getD_set _ _ _ _ (by omega), getD_set _ _ _ _ (by omega)]
      by_cases e : p = i
      · subst e; rw [if_pos rfl, if_pos rfl, eb]; exact h2
      · rw [if_neg e, if_neg e]; exact h1 i hi (fun h => e h.symm)
  have at0 : Blg n S B F ↔ ((∀ i, i < n → i ≠ p → F.getD i 0 / 2 ^ (4 - (B.getD i 0).toNat) = S.getD i 0) ∧ F.getD p 0 / 2 ^ (4 - (B.getD p 0).toNat) = S.getD p 0) := by
    constructor
    · intro h; exact ⟨fun i hi _ => h i hi, h p hp⟩
    · rintro ⟨h1, h2⟩ i hi
      by_cases e : i = p
      · subst e; exact h2
      · exact h1 i hi e
  rw [at0, at_ 0, at_ 1]
  constructor
  · constructor
    · rintro ⟨h1, h2⟩
      rcases key.1 h2 with h | h
      · exact .inl ⟨h1, h⟩
      · exact .inr ⟨h1, h⟩
    · rintro (⟨h1, h⟩ | ⟨h1, h⟩)
      · exact ⟨h1, key.2 (.inl h)⟩
      · exact ⟨h1, key.2 (.inr h)⟩
  · rintro ⟨⟨_, h⟩, ⟨_, h'⟩⟩; omega
end Go.Proofs.Ytmgdoglnckkobaa.Wd
namespace Go.Proofs.Ytmgdoglnckkobaa.Wd
open Go.ChangeShapes Go.WideShapes Go.RowKit Wo Sr Wi Ms Pc Nr Rt
set_option linter.unusedVariables false
set_option linter.unusedSimpArgs false
theorem ediv_in {a d B : Int} (h1 : -B ≤ a) (h2 : a ≤ B) (hd : 1 ≤ d) : -B ≤ a / d ∧ a / d ≤ B := by
  have B0 : 0 ≤ B := by omega
  constructor
  · rw [Int.le_ediv_iff_mul_le (by omega)]
    have : -B * d = -(B * d) := by rw [Int.neg_mul]
    have h3 : B * 1 ≤ B * d := Int.mul_le_mul_of_nonneg_left hd B0
    omega
  · have h4 : a / d < B + 1 := by
      rw [Int.ediv_lt_iff_lt_mul (by omega)]
      have h3 : (B + 1) * 1 ≤ (B + 1) * d := Int.mul_le_mul_of_nonneg_left hd (by omega)
      omega
    omega
theorem quo_bd {t e : Int} (h : QIn t e) : -2147483649 ≤ quo t e ∧ quo t e ≤ 2147483648 := by
  obtain ⟨h1, h2, h3, h4⟩ := id h
  have a := Rt.sq_bd h1 h2
  have d := Rt.div_bd a.1 a.2 h3
  have i0 := isq_nonneg (t * t / e)
  have i1 := isq_le_max d.1 d.2
  unfold quo
  split
  · omega
  · split <;> omega
theorem cdl_bd {k : Int} {X : List Int} {m n p : Nat} (hX : Sam X) (hl : X.length = m) (m2 : 2 ≤ m) (m32 : m ≤ 32) (n1 : 1 ≤ n) (nm : n ≤ m) (hp : p < n) : -1099511627776 ≤ cdl k X m n p ∧ cdl k X m n p ≤ 1099511627776 := by
  have c1 := Pc.pls_bd (m := m) (n := n) (Pc.cen_bd hX (by omega)) m32 n1 p hp
  have c2 := Pc.pls_bd (m := m) (n := n) (L := X) (fun x h => by have := hX x h; omega) m32 n1 p hp
  obtain ⟨q1, _, _⟩ := pln_in m n p n1 nm m32 hp
  unfold cdl
  split
  · have : (1 : Int) * 1 ≤ (m : Int) * (pln m n p : Int) := Int.mul_le_mul (by omega) (by omega) (by decide) (by omega)
    have := ediv_in (B := 2048000) (by omega) c1.2 (d := (m : Int) * (pln m n p : Int)) (by omega)
    omega
  · split
    · split
      · rename_i h
        have := quo_bd h
        omega
      · decide
    · have := ediv_in (B := 2048000) (by omega) c2.2 (d := (pln m n p : Int)) (by omega)
      omega
/-- whether the first j numbers lie in their intervals -/
def Acc (R : List Rp) (L : List Int) (j : Nat) (bb : Bool) : Prop := bb = true ↔ ∀ p, p < j → ((R.getD p (0, 0)).1 ≤ L.getD p 0 ∧ L.getD p 0 ≤ (R.getD p (0, 0)).2)
theorem acc_zero (R : List Rp) (L : List Int) : Acc R L 0 true := ⟨fun _ p hp => by omega, fun _ => rfl⟩
theorem acc_next (R : List Rp) (L : List Int) (j : Nat) (b c : Bool) (h : Acc R L j b) (hc : c = true ↔ (b = true ∧ (R.getD j (0, 0)).1 ≤ L.getD j 0 ∧ L.getD j 0 ≤ (R.getD j (0, 0)).2)) : Acc R L (j + 1) c := by
  unfold Acc at *
  rw [hc, h]
  constructor
  · rintro ⟨h1, h2⟩ p hp
    rcases Nat.lt_or_ge p j with q | q
    · exact h1 p q
    · obtain rfl : p = j := by omega
      exact h2
  · intro h1
    exact ⟨fun p hp => h1 p (by omega), h1 j (by omega)⟩
theorem fst_lst (s : Int) (b : Nat) : fst s b ≤ lst s b := by
  unfold lst
  have : 1 ≤ 2 ^ (4 - b) := Nat.one_le_two_pow
  omega
theorem blg_rgn {n : Nat} {C S B : List Int} {k : Int} {X : List Int} {m : Nat} (hC : Cv C) (hv : Wv n S B) (hb : ∀ p, p < n → -1099511627776 ≤ cdl k X m n p ∧ cdl k X m n p ≤ 1099511627776) :
    Blg n S B (sys k C X m n) ↔ ∀ p, p < n → (((rgn n C S B).getD p (0, 0)).1 ≤ (cds k X m n).getD p 0 ∧ (cds k X m n).getD p 0 ≤ ((rgn n C S B).getD p (0, 0)).2) := by
  have key : ∀ p, p < n → ((sys k C X m n).getD p 0 / 2 ^ (4 - (B.getD p 0).toNat) = S.getD p 0 ↔ (((rgn n C S B).getD p (0, 0)).1 ≤ (cds k X m n).getD p 0 ∧ (cds k X m n).getD p 0 ≤ ((rgn n C S B).getD p (0, 0)).2)) := fun p hp => by
    obtain ⟨a0, a1, a2, a3⟩ := hv.2.2 p hp
    have b := hb p hp
    rw [rgn_at _ _ _ _ _ hp, cds_at _ _ _ _ _ hp, sys_at _ _ _ _ _ _ hp, ivl_in hC _ _ (fst_lst _ _) _ b.1 b.2, sh_in (by omega) a2 (by omega)]
    rfl
  exact ⟨fun h p hp => (key p hp).1 (h p hp), fun h p hp => (key p hp).2 (h p hp)⟩
end Go.Proofs.Ytmgdoglnckkobaa.Wd
namespace Go.Proofs.Ytmgdoglnckkobaa.Wd
open List (setIfInBounds_toArray set_cons_zero set_cons_succ)
open Go.ChangeShapes Go.WideShapes Go.RowKit Wo Sr Wi Ms
set_option linter.unusedVariables false
set_option linter.unusedSimpArgs false
theorem bk_grw {W W' : World} {g : Nat} {t : TypeId} {cs : Array Value} {row : Option Nat} (h : Bk W g t cs) (hg : W.grownBy W' row) (hr : row ≠ some g) : Bk W' g t cs :=
  (hg.block g h.lt (fun e => hr e.symm)).trans h
/-- the two rows of a word that grow -/
structure Wq (g base : Nat) (w V : World) (u v : Value) (nu nv : Nat) (S B : List Int) : Prop where
  ou : V.ownsRow base 3 1 u nu (zs S)
  ov : V.ownsRow base 3 1 v nv (zs B)
  ap : ∀ b, u.ownBlock = some b → v.ownBlock ≠ some b
  ok : Ok V g
  ch : Ch g w V
  sz : base ≤ V.heap.size
  gb : g < base
  wb : w.heap.size ≤ base
theorem Wq.sx {g base : Nat} {w V : World} {u v : Value} {nu nv : Nat} {S B : List Int} (h : Wq g base w V u v nu nv S B) : Wq g base w V v u nv nu B S :=
  ⟨h.ov, h.ou, fun b e e2 => h.ap b e2 e, h.ok, h.ch, h.sz, h.gb, h.wb⟩
theorem Wq.to {g base : Nat} {w V V' : World} {u v : Value} {nu nv : Nat} {S B : List Int} (h : Wq g base w V u v nu nv S B) (ho : Ok V' g) (hc : Ch g V V') : Wq g base w V' u v nu nv S B :=
  ⟨own_ch h.ou hc h.gb, own_ch h.ov hc h.gb, h.ap, ho, h.ch.tr hc, Nat.le_trans h.sz hc.sz, h.gb, h.wb⟩
theorem Wq.up {g base : Nat} {w V V' : World} {u v : Value} {nu nv : Nat} {S B : List Int} (h : Wq g base w V u v nu nv S B) (hb : Bel V V') : Wq g base w V' u v nu nv S B := h.to (h.ok.bel hb) (Ch.of_bel hb)
theorem Wq.ax {g base : Nat} {w V V' : World} {u v u' : Value} {nu nv : Nat} {S B : List Int} {s : Int} (h : Wq g base w V u v nu nv S B)
    (h1 : V'.ownsRow base 3 1 u' (nu + 1) (zs (S ++ [s]))) (hg : V.grownBy V' u.ownBlock) (hat : u'.ownBlock = u.ownBlock ∨ u'.ownBlock = some V.heap.size) : Wq g base w V' u' v (nu + 1) nv (S ++ [s]) B := by
  refine ⟨h1, h.ov.kept hg (Classical.or_iff_not_imp_left.2 fun hn e => ?_), fun b e e2 => ?_, ok_grown h.ok hg (fun b e => ?_), ch_grown h.ch hg (fun b e => ?_), Nat.le_trans h.sz hg.size, h.gb, h.wb⟩
  · rcases hx : u.ownBlock with _ | q
    · rw [hx] at e; exact hn e
    · rw [hx] at e; exact h.ap q hx e
  · rcases hat with hat | hat
    · rw [hat] at e; exact h.ap b e e2
    · rw [hat] at e; cases e
      have := (h.ov.lt _ e2).2
      omega
  · have := (h.ou.lt b e).1; have := h.gb; omega
  · have := (h.ou.lt b e).1; have := h.wb; omega
theorem Wq.st {g base : Nat} {w V : World} {u v : Value} {nu nv r : Nat} {S B : List Int} (h : Wq g base w V u v nu nv S B) (h1 : w.heap.size ≤ r) (h2 : r < base) (h3 : g < r) (o : Nat) (x : Value) : Wq g base w (V.setCell ⟨r, o, none⟩ x) u v nu nv S B :=
  ⟨own_ch h.ou ((Ch.rf (g := r)).st o x) h2, own_ch h.ov ((Ch.rf (g := r)).st o x) h2, h.ap, h.ok.st h3 _, h.ch.st2 h1 _, by have := h.sz; simpa [World.setCell] using this, h.gb, h.wb⟩
theorem own_zx {w : World} {base k : Nat} {v : Value} {L : List Int} (h : w.ownsRow base 3 1 v k (zs L)) (hk : L.length = k) : ∃ A c, v = .slice A k c ∧ Zi w A k L := by
  obtain ⟨A, c, rfl, hp⟩ := own_any h
  rcases Nat.eq_zero_or_pos k with h0 | h0
  · exact ⟨A, c, rfl, hk, fun h => by omega⟩
  · obtain ⟨r, rfl⟩ := hp h0
    exact ⟨_, c, rfl, own_zi h hk⟩
/-- the good parts so far -/
def Gd (k : Nat) (S B : List Int) : Prop := S.length = k ∧ B.length = k ∧ ∀ p, p < k → 0 ≤ B.getD p 0 ∧ B.getD p 0 ≤ 4 ∧ 0 ≤ S.getD p 0 ∧ S.getD p 0 < 2 ^ (B.getD p 0).toNat
theorem gd_snoc {k : Nat} {S B : List Int} {s y : Int} (h : Gd k S B) (y0 : 0 ≤ y) (y4 : y ≤ 4) (s0 : 0 ≤ s) (s1 : s < 2 ^ y.toNat) : Gd (k + 1) (S ++ [s]) (B ++ [y]) := by
  refine ⟨by rw [List.length_append, h.1]; rfl, by rw [List.length_append, h.2.1]; rfl, fun p hp => ?_⟩
  rw [List.getD_eq_getElem?_getD, List.getD_eq_getElem?_getD]
  rcases Nat.lt_or_ge p k with q | q
  · rw [List.getElem?_append_left (by rw [h.2.1]; exact q), List.getElem?_append_left (by rw [h.1]; exact q), ← List.getD_eq_getElem?_getD, ← List.getD_eq_getElem?_getD]
    exact h.2.2 p q
  · obtain rfl : p = k := by omega
    rw [List.getElem?_append_right (by rw [h.2.1]; exact Nat.le_refl _), List.getElem?_append_right (by rw [h.1]; exact Nat.le_refl _), h.1, h.2.1, Nat.sub_self]
    exact ⟨y0, y4, s0, s1⟩
/-- a word of a scheme -/
def SomeWd (g n : Nat) (w : World) (e : Ending) (w' : World) : Prop := ∃ sA bA sc bc S B, e = .returned (Wx n sA bA sc bc) ∧ Wv n S B ∧ Zi w' sA n S ∧ Zi w' bA n B ∧ Ok w' g ∧ Ch g w w' ∧ Fz w sA n ∧ Fz w bA n
def opW : Oper := ⟨none, .store 22 (.tmp 29) (.tmp 23), 0, "make.go:186", #[⟨13, .data⟩, ⟨7, .data⟩, ⟨12, .chain⟩, ⟨0, .phase⟩, ⟨1, .phase⟩, ⟨2, .phase⟩, ⟨3, .phase⟩, ⟨4, .phase⟩, ⟨5, .phase⟩, ⟨6, .phase⟩, ⟨7, .phase⟩, ⟨8, .phase⟩, ⟨9, .phase⟩, ⟨10, .textOnly Departure.lateStores⟩, ⟨11, .textOnly Departure.lateStores⟩, ⟨12, .textOnly Departure.lateStoresUnsure⟩], none⟩
end Go.Proofs.Ytmgdoglnckkobaa.Wd
