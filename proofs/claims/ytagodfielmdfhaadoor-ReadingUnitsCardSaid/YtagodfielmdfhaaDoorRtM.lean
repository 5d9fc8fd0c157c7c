/- Texts of readings (layer 5): what a line is, what a text is; plain facts: no call here. -/
import Derived.Test.YtagodfielmdfhaaDoorTxtRound
import Derived.Test.YtagodfielmdfhaaDoorRds
import Derived.Test.YtagodfielmdfhaaDoorUnitConv
import Derived.Lib.Split
import Derived.Lib.SplitLaws
import Derived.Lib.SlTrimSet
import Derived.Lib.Atoi
namespace Go.Proofs.YtagodfielmdfhaaDoor.Rt
open Go.Lib Un Rg
open Rm (Rp tm vl)
set_option linter.unusedVariables false
theorem ib_none : ∀ (a : List UInt8) (c : UInt8), c ∉ a → indexByte a c = -1
  | [], c, _ => rfl
  | b :: l, c, h => by
    unfold indexByte
    rw [if_neg (fun e => h (by rw [beq_iff_eq.1 e]; exact List.mem_cons_self)), ib_none l c (fun e => h (List.mem_cons_of_mem _ e))]
    rfl
theorem ib_some : ∀ (a b : List UInt8) (c : UInt8), c ∉ a → indexByte (a ++ c :: b) c = (a.length : Int)
  | [], b, c, _ => by
    show indexByte (c :: b) c = _
    unfold indexByte
    rw [if_pos (beq_iff_eq.2 rfl)]; rfl
  | x :: l, b, c, h => by
    show indexByte (x :: (l ++ c :: b)) c = _
    have ih := ib_some l b c (fun e => h (List.mem_cons_of_mem _ e))
    unfold indexByte
    rw [if_neg (fun e => h (by rw [beq_iff_eq.1 e]; exact List.mem_cons_self)), ih, if_neg (fun e => by have := beq_iff_eq.1 e; omega)]
    rw [List.length_cons]; omega
/-- a text, cut behind its first line -/
def cutN (l : List UInt8) : List UInt8 × List UInt8 := if 0 ≤ indexByte l 10 then (l.take (indexByte l 10).toNat, l.drop ((indexByte l 10).toNat + 1)) else (l, [])
theorem cutN_none (a : List UInt8) (h : (10 : UInt8) ∉ a) : cutN a = (a, []) := by
  unfold cutN
  rw [ib_none a 10 h]; rfl
theorem cutN_some (a b : List UInt8) (h : (10 : UInt8) ∉ a) : cutN (a ++ 10 :: b) = (a, b) := by
  unfold cutN
  rw [ib_some a b 10 h, if_pos (by omega)]
  have e : ((a.length : Int)).toNat = a.length := by omega
  rw [e, List.take_left' rfl]
  congr 1
  rw [← List.drop_drop, List.drop_left' rfl]; rfl
theorem cutN_lt (l : List UInt8) (h : l ≠ []) : (cutN l).2.length < l.length := by
  have hp : 0 < l.length := List.length_pos_iff.2 h
  unfold cutN
  split
  · simp only [List.length_drop]; omega
  · simpa using hp
theorem cutN_le (l : List UInt8) : (cutN l).1.length ≤ l.length := by
  unfold cutN
  split
  · simp only [List.length_take]; omega
  · exact Nat.le_refl _
/-- the lines of a text -/
def lns (l : List UInt8) : List (List UInt8) := if h : l = [] then [] else (cutN l).1 :: lns (cutN l).2
termination_by l.length
decreasing_by exact cutN_lt l h
theorem lns_nil : lns [] = [] := by rw [lns]; rfl
theorem lns_ne (l : List UInt8) (h : l ≠ []) : lns l = (cutN l).1 :: lns (cutN l).2 := by rw [lns, dif_neg h]
theorem lns_line (a b : List UInt8) (h : (10 : UInt8) ∉ a) : lns (a ++ 10 :: b) = a :: lns b := by
  rw [lns_ne _ (by simp), cutN_some a b h]
theorem lns_last (a : List UInt8) (h : (10 : UInt8) ∉ a) (hn : a ≠ []) : lns a = [a] := by
  rw [lns_ne _ hn, cutN_none a h, lns_nil]
theorem lns_len (l : List UInt8) : (lns l).length ≤ l.length := by
  generalize hn : l.length = n
  induction n using Nat.strongRecOn generalizing l with
  | ind n ih =>
    by_cases h : l = []
    · subst h; rw [lns_nil]; simp
    · rw [lns_ne l h, List.length_cons]
      have h1 := cutN_lt l h
      have := ih _ (by omega) (cutN l).2 rfl
      omega
/-- words -/
theorem sp_none (a : List UInt8) (h : (32 : UInt8) ∉ a) : split a [32] = [a] := by
  unfold split
  rw [count_miss (by rw [index_one, ib_none a 32 h])]; rfl
theorem sp_some (a b : List UInt8) (h : (32 : UInt8) ∉ a) : split (a ++ 32 :: b) [32] = a :: split b [32] := by
  have hi : index (a ++ 32 :: b) [32] = (a.length : Int) := by rw [index_one, ib_some a b 32 h]
  have hd : (a ++ 32 :: b).drop (a.length + 1) = b := by rw [← List.drop_drop, List.drop_left' rfl]; rfl
  unfold split
  rw [count_hit (by simp) hi]
  show splitK [32] 0 (1 + count ((a ++ 32 :: b).drop (a.length + 1)) [32]) _ = _
  rw [hd, Nat.add_comm, splitK, hi, if_neg (fun e => by have := beq_iff_eq.1 e; omega)]
  have e : ((a.length : Int)).toNat = a.length := by omega
  rw [e]
  show (a ++ 32 :: b).take (a.length + 0) :: splitK [32] 0 (count b [32]) ((a ++ 32 :: b).drop (a.length + 1)) = _
  rw [hd, Nat.add_zero, List.take_left' rfl]
theorem sp_three (a b c : List UInt8) (h1 : (32 : UInt8) ∉ a) (h2 : (32 : UInt8) ∉ b) (h3 : (32 : UInt8) ∉ c) : split (a ++ 32 :: (b ++ 32 :: c)) [32] = [a, b, c] := by
  rw [sp_some a _ h1, sp_some b c h2, sp_none c h3]
/-- a unit -/
structure Ut where
  nm : List UInt8
  mul : Int
  add : Int
  div : Int
def look (US : List Ut) (n : List UInt8) : Option Ut := US.find? fun u => u.nm == n
/-- whether a word has the form of a time -/
def isT (a : List UInt8) : Bool := decide (1 ≤ a.length) && (decide (a.length ≤ 13) && (!(a.head? == some 48 && a != [48]) && a.all fun c => decide (48 ≤ c.toNat) && decide (c.toNat ≤ 57)))
def p10 (n : Int) : Int := 10 ^ n.toNat
/-- what chapter 4 makes of a decimal -/
def cv (d pl : Int) (u : Ut) : Int := hup (d * u.mul + u.add * p10 pl) (u.div * p10 pl)
/-- what three words are read as -/
def line3 (US : List Ut) (a b n : List UInt8) : Rp × Int :=
  if n = [] ∨ isT a = false then ((0, 0), 3)
  else if rej (rn (trimPrefix b [45])) (hasPrefix b [45]) = true then ((0, 0), 3)
  else if 1099511627776 < (val a : Int) then ((0, 0), 1)
  else if 1000000000 < (rn (trimPrefix b [45])).digits then ((0, 0), 1)
  else match look US n with
    | none => ((0, 0), 7)
    | some u => if smp (cv (if hasPrefix b [45] = true then -(rn (trimPrefix b [45])).digits else (rn (trimPrefix b [45])).digits) (rn (trimPrefix b [45])).places u) = true then ((val a, cv (if hasPrefix b [45] = true then -(rn (trimPrefix b [45])).digits else (rn (trimPrefix b [45])).digits) (rn (trimPrefix b [45])).places u), 0) else ((val a, 0), 12)
/-- what a line is read as -/
def lineS (US : List Ut) (c : List UInt8) : Rp × Int :=
  match split c [32] with
  | [a, b, n] => line3 US a b n
  | _ => ((0, 0), 3)
/-- what the lines of a text are read as -/
def run (US : List Ut) : List (List UInt8) → Nat → List Rp → List Rp × Nat × Int
  | [], n, acc => (acc, 0, 0)
  | c :: cs, n, acc =>
    if c = [] ∨ c.head? = some 35 then run US cs (n + 1) acc
    else if (lineS US c).2 = 0 then (if acc.length = 2000 then ([], n, 4) else run US cs (n + 1) (acc ++ [(lineS US c).1]))
    else ([], n, (lineS US c).2)
theorem run_skip (US : List Ut) (c : List UInt8) (cs : List (List UInt8)) (n : Nat) (acc : List Rp) (h : c = [] ∨ c.head? = some 35) : run US (c :: cs) n acc = run US cs (n + 1) acc := by
  rw [run, if_pos h]
theorem run_bad (US : List Ut) (c : List UInt8) (cs : List (List UInt8)) (n : Nat) (acc : List Rp) (h : ¬ (c = [] ∨ c.head? = some 35)) (h0 : (lineS US c).2 ≠ 0) : run US (c :: cs) n acc = ([], n, (lineS US c).2) := by
  rw [run, if_neg h, if_neg h0]
theorem run_full (US : List Ut) (c : List UInt8) (cs : List (List UInt8)) (n : Nat) (acc : List Rp) (h : ¬ (c = [] ∨ c.head? = some 35)) (h0 : (lineS US c).2 = 0) (hl : acc.length = 2000) : run US (c :: cs) n acc = ([], n, 4) := by
  rw [run, if_neg h, if_pos h0, if_pos hl]
theorem run_good (US : List Ut) (c : List UInt8) (cs : List (List UInt8)) (n : Nat) (acc : List Rp) (h : ¬ (c = [] ∨ c.head? = some 35)) (h0 : (lineS US c).2 = 0) (hl : acc.length ≠ 2000) : run US (c :: cs) n acc = run US cs (n + 1) (acc ++ [(lineS US c).1]) := by
  rw [run, if_neg h, if_pos h0, if_neg hl]
end Go.Proofs.YtagodfielmdfhaaDoor.Rt
