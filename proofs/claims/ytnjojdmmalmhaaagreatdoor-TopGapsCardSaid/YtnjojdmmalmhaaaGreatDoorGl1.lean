/- Merged: Words Src SrcN0 SrcNew0 UnitScan UnitTake UnitParse TxtMath TxtRound SrcP0 SrcR0 WinMath SrcList Zi Zi0. -/
import Derived.Test.YtnjojdmmalmhaaaGreatDoorRows
import Derived.WalkKit
import Derived.WalkSmall
import Derived.Lib.Hide
import Derived.Deep.Draws
import Derived.Deep.QuietTactic
import Derived.ChangeSame
import Derived.WalkLawsBesides
import Derived.WalkSpells
import Derived.Outline
import Derived.IntWalk
import Derived.BigQuiet
import Derived.RegionTactic
import Derived.Laws.ResultCell
import Derived.OpenShut
import Derived.Lib.ItoaNum
import Derived.Lib.Repeat
import Derived.Lib.Strings
import Derived.Below
import Derived.Deep.AppendLies
import Derived.Deep.RegionHeld3
import Derived.Deep.Onto
namespace Go.Proofs.YtnjojdmmalmhaaaGreatDoor.Wo
open Go.RowKit
/-- of what was there nothing has changed -/
def Bel (w w' : World) : Prop := Below w.heap.size w w'
section
variable {a b c : World}
theorem Bel.rf : Bel a a := Below.refl _ _
theorem Bel.size (h : Bel a b) : a.heap.size ≤ b.heap.size := Below.size h
theorem Bel.tr (h : Bel a b) (k : Bel b c) : Bel a c := Below.trans h (Below.mono k h.size)
theorem Bel.al (h : Bel a b) (o : Obj) : Bel a (b.alloc o) := Below.alloc h h.size o
theorem Bel.drw (h : Bel a b) : Bel a b.drew := Below.drew h
theorem Bel.drwN (h : Bel a b) (n : Nat) : Bel a (b.drewN n) := below_drewN h n
theorem Bel.st (h : Bel a b) {p : Addr} (hp : a.heap.size ≤ p.block) (u : Value) : Bel a (b.setCell p u) := Below.setCell h hp u
theorem Bel.st2 {p : Addr} (hp : a.heap.size ≤ p.block) (h : Bel a b) (u : Value) : Bel a (b.setCell p u) := Below.setCell h hp u
theorem Bel.cells (h : Bel a b) : (∀ k o, k < a.heap.size → b.cell? ⟨k, o, none⟩ = a.cell? ⟨k, o, none⟩) ∧ (∀ k o, k < a.heap.size → b.frozen? ⟨k, o, none⟩ = a.frozen? ⟨k, o, none⟩) :=
  ⟨fun k o hk => Below.cell (p := ⟨k, o, none⟩) h hk, fun k o hk => Below.frozen (p := ⟨k, o, none⟩) h hk⟩
theorem Bel.kp (h : Bel a b) {p : Addr} {v : Value} (hc : a.cell? p = some v) : b.cell? p = some v := (Below.cell h (World.block_lt_of_cell? a p hc)).trans hc
theorem Bel.bl (h : Bel a b) : Below a.heap.size a b := h
end
/-- block g is just these cells, none of them frozen -/
def Bk (w : World) (g : Nat) (t : TypeId) (cs : Array Value) : Prop := w.heap[g]? = some (.cells cs t (0, 0))
section
variable {w w' : World} {g : Nat} {t : TypeId} {cs : Array Value}
theorem Bk.lt (h : Bk w g t cs) : g < w.heap.size := by
  rcases Nat.lt_or_ge g w.heap.size with hlt | hge
  · exact hlt
  · unfold Bk at h; rw [Array.getElem?_eq_none hge] at h; cases h
theorem Bk.cell (h : Bk w g t cs) (i : Nat) : w.cell? ⟨g, i, none⟩ = cs[i]? := cell_of_row w g i cs t (0, 0) h
theorem Bk.fr (h : Bk w g t cs) (i : Nat) : w.frozen? ⟨g, i, none⟩ = false := by
  unfold Bk at h
  simp [World.frozen?, h]
theorem Bk.nw (w : World) (t : TypeId) (cs : Array Value) : Bk (w.alloc (.cells cs t)) w.heap.size t cs := heap_alloc_new w _
theorem Bk.nq (w : World) (t : TypeId) (cs : Array Value) {g : Nat} (hg : w.heap.size = g) : Bk (w.alloc (.cells cs t)) g t cs := hg ▸ Bk.nw w t cs
theorem Bk.drw (h : Bk w g t cs) : Bk w.drew g t cs := h
theorem Bk.drwN (h : Bk w g t cs) (n : Nat) : Bk (w.drewN n) g t cs := h
theorem Bk.al (h : Bk w g t cs) (o : Obj) : Bk (w.alloc o) g t cs := (Below.heap_alloc w o g h.lt).trans h
theorem Bk.st (h : Bk w g t cs) (i : Nat) (u : Value) : Bk (w.setCell ⟨g, i, none⟩ u) g t (cs.setIfInBounds i u) := by
  unfold Bk at h ⊢
  simp [World.setCell, Array.getElem?_modify, h]
theorem Bk.far (h : Bk w g t cs) {p : Addr} (hp : g ≠ p.block) (u : Value) : Bk (w.setCell p u) g t cs := (Below.heap_setCell w p u g hp).trans h
theorem Bk.bel (h : Bk w g t cs) (hb : Bel w w') : Bk w' g t cs := (Below.block hb g h.lt).trans h
end
theorem kp_al {w : World} {p : Addr} {v : Value} (h : w.cell? p = some v) (o : Obj) : (w.alloc o).cell? p = some v :=
  (World.cell?_alloc_lt w o p (World.block_lt_of_cell? w p h)).trans h
theorem kp_drw {w : World} {p : Addr} {v : Value} (h : w.cell? p = some v) : w.drew.cell? p = some v := h
theorem kp_drwN {w : World} {p : Addr} {v : Value} (h : w.cell? p = some v) (n : Nat) : (w.drewN n).cell? p = some v := h
theorem ret_int {k : IntKind} {a b : Int} (h : a = b) : Ending.returned (.int k a) = .returned (.int k b) := by rw [h]
theorem ret_bool {a b : Bool} (h : a = b) : Ending.returned (.bool a) = .returned (.bool b) := by rw [h]
theorem ret_int2 {k : IntKind} {a b c : Int} (h : a = b) : Ending.returned (.tuple #[.int k a, .int k c]) = .returned (.tuple #[.int k b, .int k c]) := by rw [h]
theorem quiet_same {P : Program} {f : FuncId} {args : Array Value} {w : World} {n : Nat} {v : Value}
    (h : Calls P f args (w.drewN n) fun e w' => e = .returned v ∧ w.drewN n = w') : Calls P f args (w.drewN n) fun e w'' => e = .returned v ∧ ∃ m, w'' = w.drewN m :=
  h.mono fun _ _ ⟨he, hm⟩ => ⟨he, n, hm.symm⟩
section
open Go.WideShapes Go.ChangeShapes
variable {H : Type} {enc : TypeId × Value → H} {P : Program}
/-- the step of a row whose call has changed nothing that was there, and makes memory of any kind -/
theorem post_below {f : Func} {s : ChangeSpec} {apart fresh handsOn again : Bool} {W W' : World} {args : Array Value} {v : Value} {ds gs : List (DataW H)} {before pa pv : List MemPlace}
    (hW : DataW.Whole enc P f.params.toList s.vars apart W args.toList ds gs before)
    (hres : ∀ (b : Nat) (sp : Nat → Bool) (hd : Bool), DataW.TrodAll enc P W' b sp hd f.resultTypes.toList (v.resultList f.resultTypes.size) (s.fn H (ds ++ gs)).results [])
    (hargs : ∀ sp : Nat → Bool, (∀ p ∈ before, sp p.block = true) → DataW.TrodAll enc P W' 0 sp true f.params.toList args.toList (s.fn H (ds ++ gs)).args pa)
    (hvars : ∀ sp : Nat → Bool, (∀ p ∈ before, sp p.block = true) → DataW.TrodVars enc P W' sp s.vars (s.fn H (ds ++ gs)).vars pv)
    (hps : before = pa ++ pv) (hb : Below W.heap.size W W')
    (hok : ∀ (j : Nat) (t : TypeId) (r : Value), f.resultTypes[j]? = some t → (v.resultList f.resultTypes.size)[j]? = some r → Value.okWide P W' .any 0 t r) :
    s.post enc P f apart fresh handsOn again W args v W' := by
  have hlt : ∀ p ∈ before, p.block < W.heap.size := fun p hp => hW.lt p hp
  have hold : ∀ p ∈ before, (fun b => decide (b < W.heap.size)) p.block = true := fun p hp => by simpa using hlt p hp
  refine ⟨ds, gs, before, [], pa, pv, hW, hres _ _ _, hargs _ hold, hvars _ hold, World.keptBut_mono (fun p hp => ⟨hp, ?_⟩) (hb.frame (· ∈ before)), fun _ => ?_⟩
  · rw [hps, List.mem_append] at hp
    exact Or.inr hp
  · obtain ⟨_, _, _, _, _, hz, hn⟩ := hW
    refine ⟨hok, _, _, ([] ++ pa) ++ pv, ⟨[] ++ pa, pv, trodAll_append (hargs _ (fun _ _ => rfl)) (hres _ _ _), hvars _ (fun _ _ => rfl), rfl, ?_, ?_⟩, ?_⟩
    · intro b off hp
      have hin : MemPlace.cell b off ∈ before := by rw [hps]; simpa using hp
      rw [hb.frozen (hlt _ hin)]
      exact hz b off hin
    · intro ha
      have := hn ha
      rw [hps] at this
      simpa using this
    · intro p hp _
      rw [hps]
      simpa using hp
end
end Go.Proofs.YtnjojdmmalmhaaaGreatDoor.Wo
namespace Go.Proofs.YtnjojdmmalmhaaaGreatDoor.Sr
open Go.ChangeShapes Go.WideShapes Go.RowKit Wo
set_option linter.unusedVariables false
/-- only block g has changed, and what is new -/
def Ch (g : Nat) (w w' : World) : Prop := w.grownBy w' (some g)
section
variable {g : Nat} {a b c : World}
theorem Ch.rf : Ch g a a := World.grownBy.refl _ _
theorem Ch.tr (h : Ch g a b) (k : Ch g b c) : Ch g a c :=
  ⟨k.os.trans h.os, k.tape.trans h.tape, k.output.trans h.output, Nat.le_trans h.size k.size, fun i hi hn => (k.block i (Nat.lt_of_lt_of_le hi h.size) hn).trans (h.block i hi hn)⟩
theorem Ch.al (h : Ch g a b) (o : Obj) : Ch g a (b.alloc o) := h.tr (World.grownBy_alloc _ _ _)
theorem Ch.drwN (h : Ch g a b) (n : Nat) : Ch g a (b.drewN n) := ⟨h.os, h.tape, h.output, h.size, h.block⟩
theorem Ch.drw (h : Ch g a b) : Ch g a b.drew := ⟨h.os, h.tape, h.output, h.size, h.block⟩
theorem Ch.st (h : Ch g a b) (i : Nat) (u : Value) : Ch g a (b.setCell ⟨g, i, none⟩ u) :=
  ⟨h.os, h.tape, h.output, by simpa [World.setCell] using h.size, fun k hk hn => (Below.heap_setCell b ⟨g, i, none⟩ u k (fun e => hn (by rw [e]))).trans (h.block k hk hn)⟩
theorem Ch.st2 (h : Ch g a b) {p : Addr} (hp : a.heap.size ≤ p.block) (u : Value) : Ch g a (b.setCell p u) :=
  ⟨h.os, h.tape, h.output, by simpa [World.setCell] using h.size, fun k hk hn => (Below.heap_setCell b p u k (by omega)).trans (h.block k hk hn)⟩
theorem Ch.of_bel (h : Bel a b) : Ch g a b := ⟨h.bl.os, h.bl.tape, h.bl.output, h.size, fun k hk _ => h.bl.block k hk⟩
theorem Ch.sz (h : Ch g a b) : a.heap.size ≤ b.heap.size := h.size
/-- seen from before the reader was made, nothing has changed -/
theorem Bel.ch (h : Bel a b) (k : Ch g b c) (hg : a.heap.size ≤ g) : Bel a c :=
  ⟨k.os.trans h.bl.os, k.tape.trans h.bl.tape, k.output.trans h.bl.output, Nat.le_trans h.size k.size, fun i hi => (k.block i (Nat.lt_of_lt_of_le hi h.size) (fun e => by injection e with e; omega)).trans (h.bl.block i hi)⟩
theorem Ch.kp (h : Ch g a b) {p : Addr} {v : Value} (hc : a.cell? p = some v) (hn : p.block ≠ g) : b.cell? p = some v :=
  World.grownBy.cell h hc (fun e => hn (by injection e))
theorem Ch.bk {k : Nat} {t : TypeId} {cs : Array Value} (h : Ch g a b) (hc : Bk a k t cs) (hn : k ≠ g) : Bk b k t cs := (h.block k hc.lt (fun e => hn (by injection e))).trans hc
end
/-- block g is a reader -/
def Ok (w : World) (g : Nat) : Prop := ∃ (A : Option Addr) (n c k : Nat) (zs : List Int), Bk w g 60 #[.slice A n c, .int .i64 (k : Int)] ∧ k ≤ n ∧ n ≤ 2000 ∧
  (∀ j, -9223372036854775808 ≤ zs.getD j 0 ∧ zs.getD j 0 ≤ 9223372036854775807) ∧ (0 < n → ∃ x : Addr, A = some x ∧ x.block < g ∧ ∀ i, i < n → w.cell? (x.add i) = some (.int .i64 (zs.getD i 0)))
theorem add_block (a : Addr) (n : Nat) : (a.add n).block = a.block := by unfold Addr.add; split <;> rfl
theorem Ok.lt {w : World} {g : Nat} (h : Ok w g) : g < w.heap.size := by
  obtain ⟨A, n, c, k, zs, hb, _⟩ := h
  exact hb.lt
theorem Ok.bel {w w' : World} {g : Nat} (h : Ok w g) (hb : Bel w w') : Ok w' g := by
  obtain ⟨A, n, c, k, zs, h1, h2, h3, h4, h5⟩ := h
  refine ⟨A, n, c, k, zs, h1.bel hb, h2, h3, h4, fun hn => ?_⟩
  obtain ⟨x, e, hx, hc⟩ := h5 hn
  exact ⟨x, e, hx, fun i hi => hb.kp (hc i hi)⟩
theorem Ok.st {w : World} {g : Nat} (h : Ok w g) {p : Addr} (hp : g < p.block) (u : Value) : Ok (w.setCell p u) g := by
  obtain ⟨A, n, c, k, zs, h1, h2, h3, h4, h5⟩ := h
  refine ⟨A, n, c, k, zs, h1.far (by omega) u, h2, h3, h4, fun hn => ?_⟩
  obtain ⟨x, e, hx, hc⟩ := h5 hn
  exact ⟨x, e, hx, fun i hi => (World.cell?_setCell_other _ _ _ _ (fun e => by have := congrArg Addr.block e; rw [add_block] at this; omega)).trans (hc i hi)⟩
theorem Ok.drwN {w : World} {g : Nat} (h : Ok w g) (m : Nat) : Ok (w.drewN m) g := h.bel (Bel.rf.drwN m)
theorem mod_eq (x n : Int) (h1 : 1 ≤ n) : (x < 0 → x.tmod n < 0 → x.tmod n + n = x % n) ∧ (0 ≤ x.tmod n → x.tmod n = x % n) ∧ (-n < x.tmod n ∧ x.tmod n < n) := by
  have e := Int.emod_nonneg x (b := n) (by omega)
  have e2 := Int.emod_lt_of_pos x (b := n) (by omega)
  rcases Int.lt_or_le x 0 with hx | hx
  · have hy : x.tmod n = -((-x) % n) := by
      have := Int.neg_tmod (a := -x) (b := n)
      rw [Int.neg_neg] at this
      rw [this, Int.tmod_eq_emod_of_nonneg (by omega)]
    have a := Int.emod_nonneg (-x) (b := n) (by omega)
    have b := Int.emod_lt_of_pos (-x) (b := n) (by omega)
    have d1 := Int.emod_add_mul_ediv x n
    have d2 := Int.emod_add_mul_ediv (-x) n
    have hs : ∃ q : Int, x % n = -((-x) % n) + n * q := ⟨-((-x) / n) - x / n, by grind⟩
    obtain ⟨q, hq⟩ := hs
    rw [hy]
    refine ⟨fun _ h => ?_, fun h => ?_, by omega⟩
    · have hq1 : q = 1 := by
        rcases Int.lt_or_le q 1 with h' | h'
        · have := Int.mul_le_mul_of_nonneg_left (show q ≤ 0 by omega) (show 0 ≤ n by omega); simp at this; omega
        · rcases Int.lt_or_le 1 q with h2 | h2
          · have := Int.mul_le_mul_of_nonneg_left (show 2 ≤ q by omega) (show 0 ≤ n by omega); omega
          · omega
      subst hq1
      omega
    · have hz : (-x) % n = 0 := by omega
      have hq0 : q = 0 := by
        rcases Int.lt_or_le q 0 with h' | h'
        · have := Int.mul_le_mul_of_nonneg_left (show q ≤ -1 by omega) (show 0 ≤ n by omega); omega
        · rcases Int.lt_or_le 0 q with h2 | h2
          · have := Int.mul_le_mul_of_nonneg_left (show 1 ≤ q by omega) (show 0 ≤ n by omega); omega
          · omega
      subst hq0
      omega
  · rw [Int.tmod_eq_emod_of_nonneg hx]
    refine ⟨fun h => by omega, fun _ => rfl, by omega⟩
theorem mod_any (x n : Int) (h1 : 1 ≤ n) (h2 : n ≤ 9223372036854775807) (hx : -9223372036854775808 ≤ x) (hx2 : x ≤ 9223372036854775807) (w : World) :
    Calls Tryz.prog 40 #[.int .i64 x, .int .i64 n] w fun e w' => e = .returned (.int .i64 (x % n)) ∧ w = w' := by
  have m := mod_eq x n h1
  have hne : n ≠ 0 := by omega
  have e1 := m.2.2.1
  have e2 := m.2.2.2
  rcases Int.lt_or_le (x.tmod n) 0 with h | h
  · have hx0 : x < 0 := by
      rcases Int.lt_or_le x 0 with h' | h'
      · exact h'
      · have := Int.tmod_nonneg n h'; omega
    have HE := Lib.hid (m.1 hx0 h)
    clear m
    go_enter Tryz.func40, Tryz.ntmps40
    go_wp2
    go_ret
    exact ⟨ret_int HE.out, rfl⟩
  · have HE := Lib.hid (m.2.1 h)
    clear m
    go_enter Tryz.func40, Tryz.ntmps40
    go_wp2
    go_ret
    exact ⟨ret_int HE.out, rfl⟩
def SomeRaw (g : Nat) (w : World) (e : Ending) (w' : World) : Prop := ∃ x : Int, e = .returned (.int .i64 x) ∧ -9223372036854775808 ≤ x ∧ x ≤ 9223372036854775807 ∧ Ok w' g ∧ Ch g w w'
theorem raw_any (g : Nat) (w : World) (h : Ok w g) :
    Calls Tryz.prog 41 #[.pointer (some ⟨g, 0, none⟩)] w (SomeRaw g w) := by
  obtain ⟨A, n, c, k, zs, hb, h2, h3, h4, h5⟩ := id h
  have k0 : w.cell? ⟨g, 0, none⟩ = some (.slice A n c) := hb.cell 0
  have k1 : w.cell? ⟨g, 1, none⟩ = some (.int .i64 (k : Int)) := hb.cell 1
  rcases Nat.lt_or_ge k n with hk | hk
  · obtain ⟨x, rfl, hx, hc⟩ := h5 (by omega)
    have hcell := hc k hk
    have hxk := h4 k
    have HOK : Hid (Ok w g) := h
    have f1 : w.frozen? ⟨g, 1, none⟩ = false := hb.fr 1
    have bk : decide ((n : Int) ≤ (k : Int)) = false := by simp; omega
    have hk1 : (k : Int) < (n : Int) := by omega
    have hk0 : (0 : Int) ≤ (k : Int) := by omega
    have hn : (n : Int) ≤ 2000 := by omega
    have sm : IntKind.i64.wrap ((k : Int) + 1 - 1) = (k : Int) := by rw [show (k : Int) + 1 - 1 = k by omega]; exact IntWalk.i64_in _ (by omega)
    have hne : (x.add k).block ≠ g := by rw [add_block]; omega
    have HH5 := Lib.hid h5
    have HB := Lib.hid hb
    clear h h5 hc hb
    go_enter Tryz.func41, Tryz.ntmps41
    have hc2 : ∀ (m : Nat) (v : Value), ((w.drewN m).setCell ⟨g, 1, none⟩ v).cell? (x.add k) = some (.int .i64 (zs.getD k 0)) := fun m v => by
      rw [World.cell?_setCell_other _ _ _ _ (fun e => hne (by rw [← e]))]
      exact hcell
    have sm2 : IntKind.i64.wrap (k : Int) = (k : Int) := IntWalk.i64_in _ (by omega)
    go_wp2
    go_quiet (fail)
    go_wp2
    go_quiet (fail)
    go_wp2
    go_ret
    have h6 : ∀ p q : Nat, Ok (((w.drewN p).setCell ⟨g, 1, none⟩ (.int .i64 ((k : Int) + 1))).drewN q) g := fun p q => by
      refine ⟨some x, n, c, k + 1, zs, HB.out.st 1 _, by omega, h3, h4, fun hn => ?_⟩
      refine ⟨x, rfl, hx, fun i hi => ?_⟩
      obtain ⟨x', e, _, hcc⟩ := HH5.out hn
      injection e with e
      subst e
      exact (World.cell?_setCell_other _ _ _ _ (fun e => by have := congrArg Addr.block e; rw [add_block] at this; simp at this; omega)).trans (hcc i hi)
    exact ⟨_, rfl, hxk.1, hxk.2, h6 _ _, ((Ch.rf.drwN _).st 1 _).drwN _⟩
  · have HOK : Hid (Ok w g) := h
    have bk : decide ((n : Int) ≤ (k : Int)) = true := by simp; omega
    clear h h5 hb
    go_enter Tryz.func41, Tryz.ntmps41
    go_wp2
    go_quiet (fail)
    go_wp2
    go_ret
    exact ⟨0, rfl, by decide, by decide, HOK.out, Ch.rf.drwN _⟩
end Go.Proofs.YtnjojdmmalmhaaaGreatDoor.Sr
namespace Go.Proofs.YtnjojdmmalmhaaaGreatDoor.Sr
open Go.ChangeShapes Go.WideShapes Go.RowKit Wo
set_option linter.unusedVariables false
def SomeN (g : Nat) (n : Int) (w : World) (e : Ending) (w' : World) : Prop := ∃ x : Int, e = .returned (.int .i64 x) ∧ 0 ≤ x ∧ x < n ∧ Ok w' g ∧ Ch g w w'
theorem n_any (g : Nat) (n : Int) (h1 : 1 ≤ n) (h2 : n ≤ 9223372036854775807) (w : World) (h : Ok w g) :
    Calls Tryz.prog 23 #[.pointer (some ⟨g, 0, none⟩), .int .i64 n] w (SomeN g n w) := by
  have HO := Lib.hid h
  clear h
  go_enter Tryz.func23, Tryz.ntmps23
  go_wp2_with fail
  go_at_call 41
  refine (raw_any g _ HO.out).mono ?_
  rintro e w1 ⟨x, rfl, hx0, hx1, ho, hc⟩
  have HOK := Lib.hid ho
  have HCH := Lib.hid hc
  clear ho hc
  have e0 := Int.emod_nonneg x (b := n) (by omega)
  have e1 := Int.emod_lt_of_pos x (b := n) (by omega)
  go_wp2_with (go_at_call 40; refine (mod_any x n h1 h2 hx0 hx1 _).mono ?_; rintro e w' ⟨rfl, rfl⟩)
  go_ret
  exact ⟨x % n, rfl, e0, e1, HOK.out, HCH.out⟩
end Go.Proofs.YtnjojdmmalmhaaaGreatDoor.Sr
namespace Go.Proofs.YtnjojdmmalmhaaaGreatDoor.Sr
open Go.ChangeShapes Go.WideShapes Go.RowKit Wo
set_option linter.unusedVariables false
def SomeNew (w : World) (e : Ending) (w' : World) : Prop := ∃ g : Nat, e = .returned (.pointer (some ⟨g, 0, none⟩)) ∧ w.heap.size ≤ g ∧ Ok w' g ∧ Bel w w'
theorem wf_range {zs : List Int} (h : ∀ n ∈ zs, (Lit.int .i64 n).wf = true) (j : Nat) : -9223372036854775808 ≤ zs.getD j 0 ∧ zs.getD j 0 ≤ 9223372036854775807 := by
  rw [List.getD_eq_getElem?_getD]
  exact range_i64 h j
set_option maxHeartbeats 1000000 in
theorem new_any (A : Option Addr) (len cap : Nat) (zs : List Int) (w : World)
    (h : (A = none ∧ len = 0 ∧ cap = 0 ∧ zs = []) ∨ ∃ x, A = some x ∧ len ≤ cap ∧ cap ≤ maxLen ∧ zs.length = cap ∧ (∀ i, i < zs.length → w.cell? (x.add i) = some (.int .i64 (zs.getD i 0))) ∧ ∀ n ∈ zs, (Lit.int .i64 n).wf = true) :
    Calls Tryz.prog 5 #[.slice A len cap] w (SomeNew w) := by
  rcases h with ⟨rfl, rfl, rfl, rfl⟩ | ⟨x, rfl, hl, hm, hz, hc, hw⟩
  · go_enter Tryz.func5, Tryz.ntmps5
    go_wp2
    go_ret
    exact ⟨_, rfl, Nat.le_refl _, ⟨none, 0, 0, 0, [], Bk.nw _ _ _, by omega, by omega, by simp, fun hn => by omega⟩, Bel.rf.al _⟩
  · unfold maxLen at hm
    have HW := Lib.hid hw
    have HC := Lib.hid hc
    have HZ := Lib.hid hz
    clear hw hc hz
    have hx : 0 < cap → x.block < w.heap.size := fun h0 => by
      have := World.block_lt_of_cell? w _ (HC.out 0 (by rw [HZ.out]; exact h0))
      rwa [add_block] at this
    have HX := Lib.hid hx
    clear hx
    have fin : ∀ n : Nat, n ≤ len → n ≤ 2000 → Ok (w.alloc (.cells #[.slice (some x) n cap, .int .i64 0] 60)) w.heap.size := fun n h1 h2 =>
      ⟨some x, n, cap, 0, zs, Bk.nw _ _ _, by omega, h2, wf_range HW.out, fun hn => ⟨x, rfl, HX.out (by omega), fun i hi => kp_al (HC.out i (by rw [HZ.out]; omega)) _⟩⟩
    have HF := Lib.hid fin
    clear fin
    rcases Nat.lt_or_ge 2000 len with h2 | h2
    · have bm : decide ((2000 : Int) < (len : Int)) = true := by simp; omega
      go_enter Tryz.func5, Tryz.ntmps5
      go_wp2
      go_ret
      exact ⟨_, rfl, Nat.le_refl _, HF.out 2000 (by omega) (by omega), Bel.rf.al _⟩
    · have bm : decide ((2000 : Int) < (len : Int)) = false := by simp; omega
      go_enter Tryz.func5, Tryz.ntmps5
      go_wp2
      go_ret
      exact ⟨_, rfl, Nat.le_refl _, HF.out len (by omega) (by omega), Bel.rf.al _⟩
end Go.Proofs.YtnjojdmmalmhaaaGreatDoor.Sr
namespace Go.Proofs.YtnjojdmmalmhaaaGreatDoor.Un
open Go.ChangeShapes Go.WideShapes Go.RowKit Wo
set_option linter.unusedVariables false
structure Sc where
  digits : Int
  whole : Int
  places : Int
  point : Bool
  leading : Bool
  some : Bool
  wrong : Bool
def Sc.cells (s : Sc) : Array Value := #[.int .i64 s.digits, .int .i64 s.whole, .int .i64 s.places, .bool s.point, .bool s.leading, .bool s.some, .bool s.wrong]
/-- the number with one more digit; what is too great stays too great -/
def cap (n : Int) : Int := if n < 1000000001 then n else 1000000001
def Sc.digit (s : Sc) (d : Int) : Sc :=
  if s.point then { s with places := s.places + 1, digits := cap (10 * s.digits + d) }
  else { s with leading := s.leading || (s.whole == 1 && s.digits == 0), whole := s.whole + 1, digits := cap (10 * s.digits + d) }
def Sc.take (s : Sc) (c : Nat) : Sc :=
  if 49 ≤ c ∧ c ≤ 57 then ({ s with some := true }).digit ((c : Int) - 48)
  else if c = 48 then s.digit 0
  else if c = 46 ∧ s.point = false then { s with point := true }
  else { s with wrong := true }
def Sc.ok (s : Sc) (n : Int) : Prop := 0 ≤ s.digits ∧ s.digits ≤ 1000000001 ∧ 0 ≤ s.whole ∧ s.whole ≤ n ∧ 0 ≤ s.places ∧ s.places ≤ n
def Ch1 (g : Nat) (w w' : World) : Prop := w.grownBy w' (some g)
theorem ch1_st {g : Nat} {a b : World} (h : Ch1 g a b) (i : Nat) (u : Value) : Ch1 g a (b.setCell ⟨g, i, none⟩ u) :=
  ⟨h.os, h.tape, h.output, by simpa [World.setCell] using h.size, fun k hk hn => (Below.heap_setCell b ⟨g, i, none⟩ u k (fun e => hn (by rw [e]))).trans (h.block k hk hn)⟩
theorem ch1_rf {g : Nat} {a : World} : Ch1 g a a := World.grownBy.refl _ _
theorem ch1_tr {g : Nat} {a b c : World} (h : Ch1 g a b) (k : Ch1 g b c) : Ch1 g a c :=
  ⟨k.os.trans h.os, k.tape.trans h.tape, k.output.trans h.output, Nat.le_trans h.size k.size, fun i hi hn => (k.block i (Nat.lt_of_lt_of_le hi h.size) hn).trans (h.block i hi hn)⟩
theorem bel_ch1 {g : Nat} {a b c : World} (h : Bel a b) (k : Ch1 g b c) (hg : a.heap.size ≤ g) : Bel a c :=
  ⟨k.os.trans h.bl.os, k.tape.trans h.bl.tape, k.output.trans h.bl.output, Nat.le_trans h.size k.size, fun i hi => (k.block i (Nat.lt_of_lt_of_le hi h.size) (fun e => by injection e with e; omega)).trans (h.bl.block i hi)⟩
theorem cap_lt {n : Int} (h : n < 1000000001) : cap n = n := if_pos h
theorem cap_ge {n : Int} (h : 1000000001 ≤ n) : cap n = 1000000001 := if_neg (by omega)
set_option maxHeartbeats 4000000 in
theorem digit_point (g : Nat) (d a b e : Int) (l s r : Bool) (w : World) (hb : Bk w g 167 (Sc.mk a b e true l s r).cells) (d0 : 0 ≤ d) (d1 : d ≤ 9) (a0 : 0 ≤ a) (a1 : a ≤ 1000000001) (b0 : 0 ≤ b) (b1 : b ≤ 4611686018427387904) (e0 : 0 ≤ e) (e1 : e ≤ 4611686018427387904) :
    Calls Tryz.prog 111 #[.pointer (some ⟨g, 0, none⟩), .int .i64 d] w fun x w' => x = .returned (.tuple #[]) ∧ Ch1 g w w' ∧ Bk w' g 167 (Sc.mk (cap (10 * a + d)) b (e + 1) true l s r).cells := by
  have k0 : w.cell? ⟨g, 0, none⟩ = some (.int .i64 a) := hb.cell 0
  have k1 : w.cell? ⟨g, 1, none⟩ = some (.int .i64 b) := hb.cell 1
  have k2 : w.cell? ⟨g, 2, none⟩ = some (.int .i64 e) := hb.cell 2
  have k3 : w.cell? ⟨g, 3, none⟩ = some (.bool true) := hb.cell 3
  have k4 : w.cell? ⟨g, 4, none⟩ = some (.bool l) := hb.cell 4
  have f0 : w.frozen? ⟨g, 0, none⟩ = false := hb.fr 0
  have f1 : w.frozen? ⟨g, 1, none⟩ = false := hb.fr 1
  have f2 : w.frozen? ⟨g, 2, none⟩ = false := hb.fr 2
  have f4 : w.frozen? ⟨g, 4, none⟩ = false := hb.fr 4
  have HB := Lib.hid hb
  clear hb
  rcases Int.lt_trichotomy (10 * a + d) 1000000001 with h | h | h
  · have HC := Lib.hid (show cap (10 * a + d) = _ from cap_lt h)
    go_enter Tryz.func111, Tryz.ntmps111
    go_wp2
    go_end0
    refine ⟨rfl, ch1_st (ch1_st (ch1_rf) _ _) _ _, ?_⟩
    rw [HC.out]
    have hz := ((HB.out.st 2 (.int .i64 (e + 1))).st 0 (.int .i64 (10 * a + d)))
    first | exact hz | (rw [h]; exact hz) | (rw [h] at hz; exact hz) | (rw [← h]; exact hz)
  · have HC := Lib.hid (show cap (10 * a + d) = _ from cap_ge (by omega))
    go_enter Tryz.func111, Tryz.ntmps111
    go_wp2
    go_end0
    refine ⟨rfl, ch1_st (ch1_st (ch1_rf) _ _) _ _, ?_⟩
    rw [HC.out]
    have hz := ((HB.out.st 2 (.int .i64 (e + 1))).st 0 (.int .i64 (1000000001)))
    first | exact hz | (rw [h]; exact hz) | (rw [h] at hz; exact hz) | (rw [← h]; exact hz)
  · have HC := Lib.hid (show cap (10 * a + d) = _ from cap_ge (by omega))
    go_enter Tryz.func111, Tryz.ntmps111
    go_wp2
    go_end0
    refine ⟨rfl, ch1_st (ch1_st (ch1_rf) _ _) _ _, ?_⟩
    rw [HC.out]
    have hz := ((HB.out.st 2 (.int .i64 (e + 1))).st 0 (.int .i64 (1000000001)))
    first | exact hz | (rw [h]; exact hz) | (rw [h] at hz; exact hz) | (rw [← h]; exact hz)
set_option maxHeartbeats 4000000 in
theorem digit_a (g : Nat) (d a b e : Int) (l s r : Bool) (w : World) (hb : Bk w g 167 (Sc.mk a b e false true s r).cells) (d0 : 0 ≤ d) (d1 : d ≤ 9) (a0 : 0 ≤ a) (a1 : a ≤ 1000000001) (b0 : 0 ≤ b) (b1 : b ≤ 4611686018427387904) (e0 : 0 ≤ e) (e1 : e ≤ 4611686018427387904) :
    Calls Tryz.prog 111 #[.pointer (some ⟨g, 0, none⟩), .int .i64 d] w fun x w' => x = .returned (.tuple #[]) ∧ Ch1 g w w' ∧ Bk w' g 167 (Sc.mk (cap (10 * a + d)) (b + 1) e false true s r).cells := by
  have k0 : w.cell? ⟨g, 0, none⟩ = some (.int .i64 a) := hb.cell 0
  have k1 : w.cell? ⟨g, 1, none⟩ = some (.int .i64 b) := hb.cell 1
  have k2 : w.cell? ⟨g, 2, none⟩ = some (.int .i64 e) := hb.cell 2
  have k3 : w.cell? ⟨g, 3, none⟩ = some (.bool false) := hb.cell 3
  have k4 : w.cell? ⟨g, 4, none⟩ = some (.bool true) := hb.cell 4
  have f0 : w.frozen? ⟨g, 0, none⟩ = false := hb.fr 0
  have f1 : w.frozen? ⟨g, 1, none⟩ = false := hb.fr 1
  have f2 : w.frozen? ⟨g, 2, none⟩ = false := hb.fr 2
  have f4 : w.frozen? ⟨g, 4, none⟩ = false := hb.fr 4
  have HB := Lib.hid hb
  clear hb
  rcases Int.lt_trichotomy (10 * a + d) 1000000001 with h | h | h
  · have HC := Lib.hid (show cap (10 * a + d) = _ from cap_lt h)
    go_enter Tryz.func111, Tryz.ntmps111
    go_wp2
    go_end0
    refine ⟨rfl, ch1_st (ch1_st (ch1_st (ch1_rf) _ _) _ _) _ _, ?_⟩
    rw [HC.out]
    have hz := (((HB.out.st 4 (.bool true)).st 1 (.int .i64 (b + 1))).st 0 (.int .i64 (10 * a + d)))
    first | exact hz | (rw [h]; exact hz) | (rw [h] at hz; exact hz) | (rw [← h]; exact hz)
  · have HC := Lib.hid (show cap (10 * a + d) = _ from cap_ge (by omega))
    go_enter Tryz.func111, Tryz.ntmps111
    go_wp2
    go_end0
    refine ⟨rfl, ch1_st (ch1_st (ch1_st (ch1_rf) _ _) _ _) _ _, ?_⟩
    rw [HC.out]
    have hz := (((HB.out.st 4 (.bool true)).st 1 (.int .i64 (b + 1))).st 0 (.int .i64 (1000000001)))
    first | exact hz | (rw [h]; exact hz) | (rw [h] at hz; exact hz) | (rw [← h]; exact hz)
  · have HC := Lib.hid (show cap (10 * a + d) = _ from cap_ge (by omega))
    go_enter Tryz.func111, Tryz.ntmps111
    go_wp2
    go_end0
    refine ⟨rfl, ch1_st (ch1_st (ch1_st (ch1_rf) _ _) _ _) _ _, ?_⟩
    rw [HC.out]
    have hz := (((HB.out.st 4 (.bool true)).st 1 (.int .i64 (b + 1))).st 0 (.int .i64 (1000000001)))
    first | exact hz | (rw [h]; exact hz) | (rw [h] at hz; exact hz) | (rw [← h]; exact hz)
set_option maxHeartbeats 4000000 in
theorem digit_b (g : Nat) (d a b e : Int) (l s r : Bool) (w : World) (hb : Bk w g 167 (Sc.mk a b e false false s r).cells) (d0 : 0 ≤ d) (d1 : d ≤ 9) (a0 : 0 ≤ a) (a1 : a ≤ 1000000001) (b0 : 0 ≤ b) (b1 : b ≤ 4611686018427387904) (e0 : 0 ≤ e) (e1 : e ≤ 4611686018427387904) (hx : (b == 1) = false) :
    Calls Tryz.prog 111 #[.pointer (some ⟨g, 0, none⟩), .int .i64 d] w fun x w' => x = .returned (.tuple #[]) ∧ Ch1 g w w' ∧ Bk w' g 167 (Sc.mk (cap (10 * a + d)) (b + 1) e false false s r).cells := by
  have k0 : w.cell? ⟨g, 0, none⟩ = some (.int .i64 a) := hb.cell 0
  have k1 : w.cell? ⟨g, 1, none⟩ = some (.int .i64 b) := hb.cell 1
  have k2 : w.cell? ⟨g, 2, none⟩ = some (.int .i64 e) := hb.cell 2
  have k3 : w.cell? ⟨g, 3, none⟩ = some (.bool false) := hb.cell 3
  have k4 : w.cell? ⟨g, 4, none⟩ = some (.bool false) := hb.cell 4
  have f0 : w.frozen? ⟨g, 0, none⟩ = false := hb.fr 0
  have f1 : w.frozen? ⟨g, 1, none⟩ = false := hb.fr 1
  have f2 : w.frozen? ⟨g, 2, none⟩ = false := hb.fr 2
  have f4 : w.frozen? ⟨g, 4, none⟩ = false := hb.fr 4
  have HB := Lib.hid hb
  clear hb
  rcases Int.lt_trichotomy (10 * a + d) 1000000001 with h | h | h
  · have HC := Lib.hid (show cap (10 * a + d) = _ from cap_lt h)
    go_enter Tryz.func111, Tryz.ntmps111
    go_wp2
    go_end0
    refine ⟨rfl, ch1_st (ch1_st (ch1_st (ch1_rf) _ _) _ _) _ _, ?_⟩
    rw [HC.out]
    have hz := (((HB.out.st 4 (.bool false)).st 1 (.int .i64 (b + 1))).st 0 (.int .i64 (10 * a + d)))
    first | exact hz | (rw [h]; exact hz) | (rw [h] at hz; exact hz) | (rw [← h]; exact hz)
  · have HC := Lib.hid (show cap (10 * a + d) = _ from cap_ge (by omega))
    go_enter Tryz.func111, Tryz.ntmps111
    go_wp2
    go_end0
    refine ⟨rfl, ch1_st (ch1_st (ch1_st (ch1_rf) _ _) _ _) _ _, ?_⟩
    rw [HC.out]
    have hz := (((HB.out.st 4 (.bool false)).st 1 (.int .i64 (b + 1))).st 0 (.int .i64 (1000000001)))
    first | exact hz | (rw [h]; exact hz) | (rw [h] at hz; exact hz) | (rw [← h]; exact hz)
  · have HC := Lib.hid (show cap (10 * a + d) = _ from cap_ge (by omega))
    go_enter Tryz.func111, Tryz.ntmps111
    go_wp2
    go_end0
    refine ⟨rfl, ch1_st (ch1_st (ch1_st (ch1_rf) _ _) _ _) _ _, ?_⟩
    rw [HC.out]
    have hz := (((HB.out.st 4 (.bool false)).st 1 (.int .i64 (b + 1))).st 0 (.int .i64 (1000000001)))
    first | exact hz | (rw [h]; exact hz) | (rw [h] at hz; exact hz) | (rw [← h]; exact hz)
set_option maxHeartbeats 4000000 in
theorem digit_c (g : Nat) (d a b e : Int) (l s r : Bool) (w : World) (hb : Bk w g 167 (Sc.mk a b e false false s r).cells) (d0 : 0 ≤ d) (d1 : d ≤ 9) (a0 : 0 ≤ a) (a1 : a ≤ 1000000001) (b0 : 0 ≤ b) (b1 : b ≤ 4611686018427387904) (e0 : 0 ≤ e) (e1 : e ≤ 4611686018427387904) (hx : (b == 1) = true) (hy : (a == 0) = false) :
    Calls Tryz.prog 111 #[.pointer (some ⟨g, 0, none⟩), .int .i64 d] w fun x w' => x = .returned (.tuple #[]) ∧ Ch1 g w w' ∧ Bk w' g 167 (Sc.mk (cap (10 * a + d)) (b + 1) e false false s r).cells := by
  have k0 : w.cell? ⟨g, 0, none⟩ = some (.int .i64 a) := hb.cell 0
  have k1 : w.cell? ⟨g, 1, none⟩ = some (.int .i64 b) := hb.cell 1
  have k2 : w.cell? ⟨g, 2, none⟩ = some (.int .i64 e) := hb.cell 2
  have k3 : w.cell? ⟨g, 3, none⟩ = some (.bool false) := hb.cell 3
  have k4 : w.cell? ⟨g, 4, none⟩ = some (.bool false) := hb.cell 4
  have f0 : w.frozen? ⟨g, 0, none⟩ = false := hb.fr 0
  have f1 : w.frozen? ⟨g, 1, none⟩ = false := hb.fr 1
  have f2 : w.frozen? ⟨g, 2, none⟩ = false := hb.fr 2
  have f4 : w.frozen? ⟨g, 4, none⟩ = false := hb.fr 4
  have HB := Lib.hid hb
  clear hb
  rcases Int.lt_trichotomy (10 * a + d) 1000000001 with h | h | h
  · have HC := Lib.hid (show cap (10 * a + d) = _ from cap_lt h)
    go_enter Tryz.func111, Tryz.ntmps111
    go_wp2
    go_end0
    refine ⟨rfl, ch1_st (ch1_st (ch1_st (ch1_rf) _ _) _ _) _ _, ?_⟩
    rw [HC.out]
    have hz := (((HB.out.st 4 (.bool false)).st 1 (.int .i64 (b + 1))).st 0 (.int .i64 (10 * a + d)))
    first | exact hz | (rw [h]; exact hz) | (rw [h] at hz; exact hz) | (rw [← h]; exact hz)
  · have HC := Lib.hid (show cap (10 * a + d) = _ from cap_ge (by omega))
    go_enter Tryz.func111, Tryz.ntmps111
    go_wp2
    go_end0
    refine ⟨rfl, ch1_st (ch1_st (ch1_st (ch1_rf) _ _) _ _) _ _, ?_⟩
    rw [HC.out]
    have hz := (((HB.out.st 4 (.bool false)).st 1 (.int .i64 (b + 1))).st 0 (.int .i64 (1000000001)))
    first | exact hz | (rw [h]; exact hz) | (rw [h] at hz; exact hz) | (rw [← h]; exact hz)
  · have HC := Lib.hid (show cap (10 * a + d) = _ from cap_ge (by omega))
    go_enter Tryz.func111, Tryz.ntmps111
    go_wp2
    go_end0
    refine ⟨rfl, ch1_st (ch1_st (ch1_st (ch1_rf) _ _) _ _) _ _, ?_⟩
    rw [HC.out]
    have hz := (((HB.out.st 4 (.bool false)).st 1 (.int .i64 (b + 1))).st 0 (.int .i64 (1000000001)))
    first | exact hz | (rw [h]; exact hz) | (rw [h] at hz; exact hz) | (rw [← h]; exact hz)
set_option maxHeartbeats 4000000 in
theorem digit_d (g : Nat) (d a b e : Int) (l s r : Bool) (w : World) (hb : Bk w g 167 (Sc.mk a b e false false s r).cells) (d0 : 0 ≤ d) (d1 : d ≤ 9) (a0 : 0 ≤ a) (a1 : a ≤ 1000000001) (b0 : 0 ≤ b) (b1 : b ≤ 4611686018427387904) (e0 : 0 ≤ e) (e1 : e ≤ 4611686018427387904) (hx : (b == 1) = true) (hy : (a == 0) = true) :
    Calls Tryz.prog 111 #[.pointer (some ⟨g, 0, none⟩), .int .i64 d] w fun x w' => x = .returned (.tuple #[]) ∧ Ch1 g w w' ∧ Bk w' g 167 (Sc.mk (cap (10 * a + d)) (b + 1) e false true s r).cells := by
  have k0 : w.cell? ⟨g, 0, none⟩ = some (.int .i64 a) := hb.cell 0
  have k1 : w.cell? ⟨g, 1, none⟩ = some (.int .i64 b) := hb.cell 1
  have k2 : w.cell? ⟨g, 2, none⟩ = some (.int .i64 e) := hb.cell 2
  have k3 : w.cell? ⟨g, 3, none⟩ = some (.bool false) := hb.cell 3
  have k4 : w.cell? ⟨g, 4, none⟩ = some (.bool false) := hb.cell 4
  have f0 : w.frozen? ⟨g, 0, none⟩ = false := hb.fr 0
  have f1 : w.frozen? ⟨g, 1, none⟩ = false := hb.fr 1
  have f2 : w.frozen? ⟨g, 2, none⟩ = false := hb.fr 2
  have f4 : w.frozen? ⟨g, 4, none⟩ = false := hb.fr 4
  have HB := Lib.hid hb
  clear hb
  rcases Int.lt_trichotomy (10 * a + d) 1000000001 with h | h | h
  · have HC := Lib.hid (show cap (10 * a + d) = _ from cap_lt h)
    go_enter Tryz.func111, Tryz.ntmps111
    go_wp2
    go_end0
    refine ⟨rfl, ch1_st (ch1_st (ch1_st (ch1_rf) _ _) _ _) _ _, ?_⟩
    rw [HC.out]
    have hz := (((HB.out.st 4 (.bool true)).st 1 (.int .i64 (b + 1))).st 0 (.int .i64 (10 * a + d)))
    first | exact hz | (rw [h]; exact hz) | (rw [h] at hz; exact hz) | (rw [← h]; exact hz)
  · have HC := Lib.hid (show cap (10 * a + d) = _ from cap_ge (by omega))
    go_enter Tryz.func111, Tryz.ntmps111
    go_wp2
    go_end0
    refine ⟨rfl, ch1_st (ch1_st (ch1_st (ch1_rf) _ _) _ _) _ _, ?_⟩
    rw [HC.out]
    have hz := (((HB.out.st 4 (.bool true)).st 1 (.int .i64 (b + 1))).st 0 (.int .i64 (1000000001)))
    first | exact hz | (rw [h]; exact hz) | (rw [h] at hz; exact hz) | (rw [← h]; exact hz)
  · have HC := Lib.hid (show cap (10 * a + d) = _ from cap_ge (by omega))
    go_enter Tryz.func111, Tryz.ntmps111
    go_wp2
    go_end0
    refine ⟨rfl, ch1_st (ch1_st (ch1_st (ch1_rf) _ _) _ _) _ _, ?_⟩
    rw [HC.out]
    have hz := (((HB.out.st 4 (.bool true)).st 1 (.int .i64 (b + 1))).st 0 (.int .i64 (1000000001)))
    first | exact hz | (rw [h]; exact hz) | (rw [h] at hz; exact hz) | (rw [← h]; exact hz)
theorem digit_any (g : Nat) (d : Int) (S : Sc) (w : World) (hb : Bk w g 167 S.cells) (d0 : 0 ≤ d) (d1 : d ≤ 9) (n : Int) (hn : n ≤ 4611686018427387904) (hS : S.ok n) :
    Calls Tryz.prog 111 #[.pointer (some ⟨g, 0, none⟩), .int .i64 d] w fun x w' => x = .returned (.tuple #[]) ∧ Ch1 g w w' ∧ Bk w' g 167 (S.digit d).cells := by
  obtain ⟨a, b, e, p, l, s, r⟩ := S
  obtain ⟨a0, a1, b0, b1, e0, e1⟩ := hS
  simp only at a0 a1 b0 b1 e0 e1
  cases p
  · cases l
    · rcases hx : (b == 1)
      · have := digit_b g d a b e false s r w hb d0 d1 a0 a1 b0 (by omega) e0 (by omega) hx
        simpa [Sc.digit, hx] using this
      · rcases hy : (a == 0)
        · have := digit_c g d a b e false s r w hb d0 d1 a0 a1 b0 (by omega) e0 (by omega) hx hy
          simpa [Sc.digit, hx, hy] using this
        · have := digit_d g d a b e false s r w hb d0 d1 a0 a1 b0 (by omega) e0 (by omega) hx hy
          simpa [Sc.digit, hx, hy] using this
    · have := digit_a g d a b e true s r w hb d0 d1 a0 a1 b0 (by omega) e0 (by omega)
      simpa [Sc.digit] using this
  · have := digit_point g d a b e l s r w hb d0 d1 a0 a1 b0 (by omega) e0 (by omega)
    simpa [Sc.digit] using this
theorem cap_bound {n : Int} (h : 0 ≤ n) : 0 ≤ cap n ∧ cap n ≤ 1000000001 := by unfold cap; split <;> omega
theorem digit_ok {S : Sc} {n d : Int} (h : S.ok n) (d0 : 0 ≤ d) : (S.digit d).ok (n + 1) := by
  obtain ⟨a0, a1, b0, b1, e0, e1⟩ := h
  have := cap_bound (n := 10 * S.digits + d) (by omega)
  unfold Sc.digit
  split <;> exact ⟨this.1, this.2, by simp only; omega, by simp only; omega, by simp only; omega, by simp only; omega⟩
theorem take_ok {S : Sc} {n : Int} {c : Nat} (h : S.ok n) : (S.take c).ok (n + 1) := by
  have hw : S.ok (n + 1) := ⟨h.1, h.2.1, h.2.2.1, by have := h.2.2.2.1; omega, h.2.2.2.2.1, by have := h.2.2.2.2.2; omega⟩
  unfold Sc.take
  split
  · exact digit_ok (S := { S with some := true }) h (by omega)
  · split
    · exact digit_ok h (by omega)
    · split
      · exact hw
      · exact hw
end Go.Proofs.YtnjojdmmalmhaaaGreatDoor.Un
namespace Go.Proofs.YtnjojdmmalmhaaaGreatDoor.Un
open Go.ChangeShapes Go.WideShapes Go.RowKit Wo
set_option linter.unusedVariables false
set_option maxHeartbeats 4000000 in
set_option maxRecDepth 100000 in
theorem take_any (g : Nat) (c : Nat) (hc : c < 256) (S : Sc) (w : World) (hb : Bk w g 167 S.cells) (n : Int) (hn : n ≤ 4611686018427387904) (hS : S.ok n) :
    Calls Tryz.prog 92 #[.pointer (some ⟨g, 0, none⟩), .int .u8 (c : Int)] w fun x w' => x = .returned (.tuple #[]) ∧ Ch1 g w w' ∧ Bk w' g 167 (S.take c).cells := by
  have k3 : w.cell? ⟨g, 3, none⟩ = some (.bool S.point) := hb.cell 3
  have k5 : w.cell? ⟨g, 5, none⟩ = some (.bool S.some) := hb.cell 5
  have k6 : w.cell? ⟨g, 6, none⟩ = some (.bool S.wrong) := hb.cell 6
  have f3 : w.frozen? ⟨g, 3, none⟩ = false := hb.fr 3
  have f5 : w.frozen? ⟨g, 5, none⟩ = false := hb.fr 5
  have f6 : w.frozen? ⟨g, 6, none⟩ = false := hb.fr 6
  have ci : (c : Int) < 256 := by omega
  rcases Classical.em (49 ≤ c ∧ c ≤ 57) with h | h
  · have HT : Hid (S.take c = ({ S with some := true } : Sc).digit ((c : Int) - 48)) := by show S.take c = _; unfold Sc.take; rw [if_pos h]
    obtain ⟨h1, h2⟩ := h
    have i1 : (49 : Int) ≤ (c : Int) := by omega
    have i2 : (c : Int) ≤ 57 := by omega
    have HB2 : Hid (Bk (w.setCell ⟨g, 5, none⟩ (.bool true)) g 167 ({ S with some := true } : Sc).cells) := hb.st 5 _
    have HD : Hid (Calls Tryz.prog 111 #[.pointer (some ⟨g, 0, none⟩), .int .i64 ((c : Int) - 48)] (w.setCell ⟨g, 5, none⟩ (.bool true)) fun x w' => x = .returned (.tuple #[]) ∧ Ch1 g (w.setCell ⟨g, 5, none⟩ (.bool true)) w' ∧ Bk w' g 167 (({ S with some := true } : Sc).digit ((c : Int) - 48)).cells) :=
      digit_any g _ _ _ HB2.out (by omega) (by omega) n hn hS
    clear hb HB2 h1 h2
    go_enter Tryz.func92, Tryz.ntmps92
    go_wp2_with fail
    go_at_call 111
    refine (HD.out).mono ?_
    rintro x w1 ⟨rfl, hc1, hb1⟩
    have HC1 := Lib.hid (ch1_tr (ch1_st ch1_rf 5 (.bool true)) hc1)
    have HB1 := Lib.hid hb1
    clear hc1 hb1
    go_wp2
    go_end0
    exact ⟨rfl, HC1.out, by rw [HT.out]; exact HB1.out⟩
  · rcases Classical.em (c = 48) with h0 | h0
    · have HT : Hid (S.take c = S.digit 0) := by show S.take c = _; unfold Sc.take; rw [if_neg h, if_pos h0]
      subst h0
      have HD : Hid (Calls Tryz.prog 111 #[.pointer (some ⟨g, 0, none⟩), .int .i64 0] w fun x w' => x = .returned (.tuple #[]) ∧ Ch1 g w w' ∧ Bk w' g 167 (S.digit 0).cells) :=
        digit_any g _ _ _ hb (by omega) (by omega) n hn hS
      clear hb h hc ci
      go_enter Tryz.func92, Tryz.ntmps92
      go_wp2_with fail
      go_at_call 111
      refine (HD.out).mono ?_
      rintro x w1 ⟨rfl, hc1, hb1⟩
      have HC1 := Lib.hid hc1
      have HB1 := Lib.hid hb1
      clear hc1 hb1
      go_wp2
      go_end0
      exact ⟨rfl, HC1.out, by rw [HT.out]; exact HB1.out⟩
    · have n48 : ((c : Int) == 48) = false := by simpa using (by omega : (c : Int) ≠ 48)
      rcases Classical.em (c = 46 ∧ S.point = false) with h1 | h1
      · have HT : Hid (S.take c = { S with point := true }) := by show S.take c = _; unfold Sc.take; rw [if_neg h, if_neg h0, if_pos h1]
        obtain ⟨rfl, hp⟩ := h1
        rw [hp] at k3
        have HB := Lib.hid hb
        clear hb h h0 hc ci n48 hp
        go_enter Tryz.func92, Tryz.ntmps92
        go_wp2
        go_end0
        exact ⟨rfl, ch1_st ch1_rf _ _, by rw [HT.out]; exact HB.out.st 3 (.bool true)⟩
      · have HT : Hid (S.take c = { S with wrong := true }) := by show S.take c = _; unfold Sc.take; rw [if_neg h, if_neg h0, if_neg h1]
        have HB := Lib.hid hb
        have o1 : decide (49 ≤ (c : Int)) = false ∨ decide (49 ≤ (c : Int)) = true ∧ decide ((c : Int) ≤ 57) = false := by
          rcases Nat.lt_or_ge c 49 with h | h
          · exact .inl (decide_eq_false (by omega))
          · exact .inr ⟨decide_eq_true (by omega), decide_eq_false (by omega)⟩
        have o2 : ((c : Int) == 46) = false ∨ ((c : Int) == 46) = true ∧ S.point = true := by
          rcases Classical.em (c = 46) with h | h
          · refine .inr ⟨by simpa using (by omega : (c : Int) = 46), ?_⟩
            rcases hp : S.point
            · exact absurd ⟨h, hp⟩ h1
            · rfl
          · exact .inl (by simpa using (by omega : (c : Int) ≠ 46))
        clear hb h h0 h1 hc ci
        rcases o1 with g1 | ⟨g1, g2⟩ <;> rcases o2 with g3 | ⟨g3, g4⟩
        all_goals
          first
          | (rw [g4] at k3; clear g4)
          | skip
          go_enter Tryz.func92, Tryz.ntmps92
          go_wp2
          go_end0
          exact ⟨rfl, ch1_st ch1_rf _ _, by rw [HT.out]; exact HB.out.st 6 (.bool true)⟩
end Go.Proofs.YtnjojdmmalmhaaaGreatDoor.Un
namespace Go.Proofs.YtnjojdmmalmhaaaGreatDoor.Un
open Go.ChangeShapes Go.WideShapes Go.RowKit Wo
set_option linter.unusedVariables false
/-- the state behind the bytes of a text -/
def rn (l : List UInt8) : Sc := l.foldl (fun S c => S.take c.toNat) ⟨0, 0, 0, false, false, false, false⟩
theorem rn_snoc (l : List UInt8) (c : UInt8) : rn (l ++ [c]) = (rn l).take c.toNat := by simp [rn, List.foldl_append]
theorem rn_ok_aux (l : List UInt8) : ∀ (S : Sc) (n : Int), S.ok n → (l.foldl (fun S c => S.take c.toNat) S).ok (n + l.length) := by
  induction l with
  | nil => intro S n h; simpa using h
  | cons c l ih =>
    intro S n h
    have := ih (S.take c.toNat) (n + 1) (take_ok h)
    rw [List.foldl_cons, List.length_cons]
    rwa [show n + 1 + (l.length : Int) = n + ((l.length + 1 : Nat) : Int) by omega] at this
theorem rn_ok (l : List UInt8) : (rn l).ok l.length := by
  have := rn_ok_aux l ⟨0, 0, 0, false, false, false, false⟩ 0 ⟨by decide, by decide, by decide, by decide, by decide, by decide⟩
  simpa [rn] using this
theorem take_snoc (s : ByteArray) (k : Nat) (h : k < s.size) : s.data.toList.take (k + 1) = s.data.toList.take k ++ [s[k]] := by
  rw [List.take_succ_eq_append_getElem (by simpa using h)]; rfl
/-- whether the text is refused -/
def rej (S : Sc) (m : Bool) : Bool := S.wrong || (S.leading || (S.whole == 0 || ((S.point && S.places == 0) || (decide (6 < S.places) || (m && !S.some)))))
/-- what Parse returns -/
def prs (S : Sc) (m : Bool) : Value :=
  if rej S m = true then .tuple #[.agg #[.int .i64 0, .int .i64 0], .int .i64 3]
  else if 1000000000 < S.digits then .tuple #[.agg #[.int .i64 0, .int .i64 0], .int .i64 1]
  else .tuple #[.agg #[.int .i64 (if m = true then -S.digits else S.digits), .int .i64 S.places], .int .i64 0]
set_option maxHeartbeats 16000000 in
set_option maxRecDepth 100000 in
theorem parse_core (s body : ByteArray) (m : Bool) (hs : body.size ≤ 4611686018427387904) (w : World)
    (hcut : ∀ w, Calls Tryz.prog 91 #[.string s, .string ⟨#[45]⟩] w fun e w' => e = .returned (.tuple #[.string body, .bool m]) ∧ w = w') :
    Calls Tryz.prog 79 #[.string s] w fun e w' => e = .returned (prs (rn body.data.toList) m) ∧ Bel w w' := by
  have HCUT := Lib.hid hcut
  clear hcut
  have si : (body.size : Int) ≤ 4611686018427387904 := by omega
  go_enter Tryz.func79, Tryz.ntmps79
  go_wp2_with fail
  go_at_call 91
  refine (HCUT.out _).mono ?_
  rintro e w1 ⟨rfl, hw1⟩
  subst hw1
  go_wp2_with fail
  have HI : Hid (∀ W : World, Bk (W.alloc (.cells (Sc.mk 0 0 0 false false false false).cells 167)) W.heap.size 167 (Sc.mk 0 0 0 false false false false).cells) := fun W => Bk.nw _ _ _
  go_loopw [15] (fun t wr => ∃ k : Nat, k ≤ body.size ∧ t = .int .i64 (k : Int) ∧ Bel w wr ∧ Bk wr (w.heap.size + 1) 167 (rn (body.data.toList.take k)).cells ∧ Bk wr w.heap.size 147 #[.int .i64 0, .int .i64 0]) (fun t _ => body.size - (intOf t).toNat)
  case atStart => exact ⟨0, by omega, rfl, (Bel.rf.al _).al _, Bk.nq (w.alloc _) _ _ (by simp), (Bk.nw _ _ _).al _⟩
  case round =>
    obtain ⟨k, hk, rfl, hb, hg, hr⟩ := hrel
    rename_i wr
    rcases Nat.lt_or_ge k body.size with hlt | hge
    · have hkl : (body.data.toList.take k).length ≤ k := List.length_take_le _ _
      have hok := rn_ok (body.data.toList.take k)
      have hok2 : (rn (body.data.toList.take k)).ok 4611686018427387904 := ⟨hok.1, hok.2.1, hok.2.2.1, by have := hok.2.2.2.1; omega, hok.2.2.2.2.1, by have := hok.2.2.2.2.2; omega⟩
      have HT : Hid (Calls Tryz.prog 92 #[.pointer (some ⟨w.heap.size + 1, 0, none⟩), .int .u8 (body[k].toNat : Int)] wr fun x w' => x = .returned (.tuple #[]) ∧ Ch1 (w.heap.size + 1) wr w' ∧ Bk w' (w.heap.size + 1) 167 ((rn (body.data.toList.take k)).take body[k].toNat).cells) :=
        take_any _ _ (UInt8.toNat_lt _) _ _ hg 4611686018427387904 (by decide) hok2
      have HE : Hid (rn (body.data.toList.take (k + 1)) = (rn (body.data.toList.take k)).take body[k].toNat) := by
        show rn _ = _
        rw [take_snoc body k hlt, rn_snoc]
      have HB := Lib.hid hb
      have HR := Lib.hid hr
      have hi : (k : Int) < (body.size : Int) := by omega
      clear hb hg hr hok hok2 hkl
      go_wp2_with fail
      go_at_call 92
      refine (HT.out).mono ?_
      rintro x w2 ⟨rfl, hc2, hg2⟩
      have HB2 : Hid (Bel w w2) := bel_ch1 HB.out hc2 (by omega)
      have HR2 : Hid (Bk w2 w.heap.size 147 #[.int .i64 0, .int .i64 0]) := (hc2.block _ HR.out.lt (fun e => by injection e with e; omega)).trans HR.out
      have HG2 := Lib.hid hg2
      clear hc2 hg2
      go_wp2_with fail
      go_roundw
      case rel => exact ⟨k + 1, by omega, by go_num, HB2.out, by rw [HE.out]; exact HG2.out, HR2.out⟩
      case measure => simp [intOf]; omega
    · obtain rfl : k = body.size := by omega
      have hall : body.data.toList.take body.size = body.data.toList := List.take_of_length_le (by simp)
      rw [hall] at hg
      have hok := rn_ok body.data.toList
      have hlen : (body.data.toList.length : Int) ≤ 4611686018427387904 := by simpa using si
      obtain ⟨o0, o1, o2, o3, o4, o5⟩ := hok
      obtain ⟨S, hS⟩ : ∃ S, rn body.data.toList = S := ⟨_, rfl⟩
      rw [hS] at hg o0 o1 o2 o3 o4 o5
      have HSS := Lib.hid hS
      clear hS
      have l0 : wr.cell? ⟨w.heap.size, 0, none⟩ = some (.int .i64 0) := hr.cell 0
      have l1 : wr.cell? ⟨w.heap.size, 1, none⟩ = some (.int .i64 0) := hr.cell 1
      have j0 : wr.frozen? ⟨w.heap.size, 0, none⟩ = false := hr.fr 0
      have j1 : wr.frozen? ⟨w.heap.size, 1, none⟩ = false := hr.fr 1
      obtain ⟨a, b, c, p, l, q, r⟩ := S
      simp only at o0 o1 o2 o3 o4 o5
      have k0 : wr.cell? ⟨w.heap.size + 1, 0, none⟩ = some (.int .i64 a) := hg.cell 0
      have k1 : wr.cell? ⟨w.heap.size + 1, 1, none⟩ = some (.int .i64 b) := hg.cell 1
      have k2 : wr.cell? ⟨w.heap.size + 1, 2, none⟩ = some (.int .i64 c) := hg.cell 2
      have k3 : wr.cell? ⟨w.heap.size + 1, 3, none⟩ = some (.bool p) := hg.cell 3
      have k4 : wr.cell? ⟨w.heap.size + 1, 4, none⟩ = some (.bool l) := hg.cell 4
      have k5 : wr.cell? ⟨w.heap.size + 1, 5, none⟩ = some (.bool q) := hg.cell 5
      have k6 : wr.cell? ⟨w.heap.size + 1, 6, none⟩ = some (.bool r) := hg.cell 6
      have f0 : wr.frozen? ⟨w.heap.size + 1, 0, none⟩ = false := hg.fr 0
      have HB := Lib.hid hb
      clear hg hr hb HI hall hlen hk hge o3 o5
      rcases hj : rej ⟨a, b, c, p, l, q, r⟩ m
      · have HV : Hid (prs (rn body.data.toList) m = if 1000000000 < a then .tuple #[.agg #[.int .i64 0, .int .i64 0], .int .i64 1] else .tuple #[.agg #[.int .i64 (if m = true then -a else a), .int .i64 c], .int .i64 0]) := by
          show prs _ _ = _
          rw [HSS.out]
          unfold prs
          rw [hj]
          rfl
        simp only [rej, Bool.or_eq_false_iff] at hj
        obtain ⟨rfl, rfl, h3, h4, h5, h6⟩ := hj
        have h5' : ¬ 6 < c := by simpa using h5
        rcases Int.lt_or_le 1000000000 a with ha | ha
        · rw [if_pos ha] at HV
          rcases p
          · clear h4
            rcases m <;> rcases q <;> first | (simp at h6; done) | (clear h5 h6; go_wp2; exact bodyPost_ret (v := .tuple #[.agg #[.int .i64 0, .int .i64 0], .int .i64 1]) (by simp [results, Tryz.results79, go_sem, l0, l1]) rfl ⟨by rw [HV.out], (by repeat (first | exact HB.out | (with_reducible refine Bel.drwN ?_ _) | (with_reducible refine Bel.drw ?_) | (with_reducible refine Bel.al ?_ _) | ((with_reducible refine Bel.st2 ?_ ?_ _); (show _ ≤ _); (simp only []; omega))))⟩)
          · simp only [Bool.true_and] at h4
            rcases m <;> rcases q <;> first | (simp at h6; done) | (clear h5 h6; go_wp2; exact bodyPost_ret (v := .tuple #[.agg #[.int .i64 0, .int .i64 0], .int .i64 1]) (by simp [results, Tryz.results79, go_sem, l0, l1]) rfl ⟨by rw [HV.out], (by repeat (first | exact HB.out | (with_reducible refine Bel.drwN ?_ _) | (with_reducible refine Bel.drw ?_) | (with_reducible refine Bel.al ?_ _) | ((with_reducible refine Bel.st2 ?_ ?_ _); (show _ ≤ _); (simp only []; omega))))⟩)
        · rw [if_neg (by omega)] at HV
          rcases p
          · clear h4
            rcases m
            · clear h5 h6
              go_wp2
              exact bodyPost_ret (v := .tuple #[.agg #[.int .i64 a, .int .i64 c], .int .i64 0]) (by simp [results, Tryz.results79, go_sem, l0, l1]) rfl ⟨by rw [HV.out]; rfl, (by repeat (first | exact HB.out | (with_reducible refine Bel.drwN ?_ _) | (with_reducible refine Bel.drw ?_) | (with_reducible refine Bel.al ?_ _) | ((with_reducible refine Bel.st2 ?_ ?_ _); (show _ ≤ _); (simp only []; omega))))⟩
            · rcases q
              · simp at h6
              · clear h5 h6
                go_wp2
                exact bodyPost_ret (v := .tuple #[.agg #[.int .i64 (-a), .int .i64 c], .int .i64 0]) (by simp [results, Tryz.results79, go_sem, l0, l1]) rfl ⟨by rw [HV.out]; rfl, (by repeat (first | exact HB.out | (with_reducible refine Bel.drwN ?_ _) | (with_reducible refine Bel.drw ?_) | (with_reducible refine Bel.al ?_ _) | ((with_reducible refine Bel.st2 ?_ ?_ _); (show _ ≤ _); (simp only []; omega))))⟩
          · simp only [Bool.true_and] at h4
            rcases m
            · clear h5 h6
              go_wp2
              exact bodyPost_ret (v := .tuple #[.agg #[.int .i64 a, .int .i64 c], .int .i64 0]) (by simp [results, Tryz.results79, go_sem, l0, l1]) rfl ⟨by rw [HV.out]; rfl, (by repeat (first | exact HB.out | (with_reducible refine Bel.drwN ?_ _) | (with_reducible refine Bel.drw ?_) | (with_reducible refine Bel.al ?_ _) | ((with_reducible refine Bel.st2 ?_ ?_ _); (show _ ≤ _); (simp only []; omega))))⟩
            · rcases q
              · simp at h6
              · clear h5 h6
                go_wp2
                exact bodyPost_ret (v := .tuple #[.agg #[.int .i64 (-a), .int .i64 c], .int .i64 0]) (by simp [results, Tryz.results79, go_sem, l0, l1]) rfl ⟨by rw [HV.out]; rfl, (by repeat (first | exact HB.out | (with_reducible refine Bel.drwN ?_ _) | (with_reducible refine Bel.drw ?_) | (with_reducible refine Bel.al ?_ _) | ((with_reducible refine Bel.st2 ?_ ?_ _); (show _ ≤ _); (simp only []; omega))))⟩
      · have HV : Hid (prs (rn body.data.toList) m = .tuple #[.agg #[.int .i64 0, .int .i64 0], .int .i64 3]) := by
          show prs _ _ = _
          rw [HSS.out]
          unfold prs
          rw [hj]
          rfl
        rcases r
        · rcases l
          · rcases h3 : (b == 0)
            · rcases h4 : (p && c == 0)
              · rcases h5 : decide (6 < c)
                · simp only [rej, h3, h4, h5, Bool.false_or, Bool.and_eq_true, Bool.not_eq_true'] at hj
                  obtain ⟨rfl, rfl⟩ := hj
                  have h5' : ¬ 6 < c := by simpa using h5
                  rcases p
                  · clear h4 h5
                    go_wp2
                    exact bodyPost_ret (v := .tuple #[.agg #[.int .i64 0, .int .i64 0], .int .i64 3]) (by simp [results, Tryz.results79, go_sem, l0, l1]) rfl ⟨by rw [HV.out], (by repeat (first | exact HB.out | (with_reducible refine Bel.drwN ?_ _) | (with_reducible refine Bel.drw ?_) | (with_reducible refine Bel.al ?_ _) | ((with_reducible refine Bel.st2 ?_ ?_ _); (show _ ≤ _); (simp only []; omega))))⟩
                  · simp only [Bool.true_and] at h4
                    clear h5
                    go_wp2
                    exact bodyPost_ret (v := .tuple #[.agg #[.int .i64 0, .int .i64 0], .int .i64 3]) (by simp [results, Tryz.results79, go_sem, l0, l1]) rfl ⟨by rw [HV.out], (by repeat (first | exact HB.out | (with_reducible refine Bel.drwN ?_ _) | (with_reducible refine Bel.drw ?_) | (with_reducible refine Bel.al ?_ _) | ((with_reducible refine Bel.st2 ?_ ?_ _); (show _ ≤ _); (simp only []; omega))))⟩
                · have h5' : 6 < c := by simpa using h5
                  have h4' : (c == 0) = false := by simp; omega
                  clear h4 h5 hj
                  rcases p
                  · go_wp2
                    exact bodyPost_ret (v := .tuple #[.agg #[.int .i64 0, .int .i64 0], .int .i64 3]) (by simp [results, Tryz.results79, go_sem, l0, l1]) rfl ⟨by rw [HV.out], (by repeat (first | exact HB.out | (with_reducible refine Bel.drwN ?_ _) | (with_reducible refine Bel.drw ?_) | (with_reducible refine Bel.al ?_ _) | ((with_reducible refine Bel.st2 ?_ ?_ _); (show _ ≤ _); (simp only []; omega))))⟩
                  · go_wp2
                    exact bodyPost_ret (v := .tuple #[.agg #[.int .i64 0, .int .i64 0], .int .i64 3]) (by simp [results, Tryz.results79, go_sem, l0, l1]) rfl ⟨by rw [HV.out], (by repeat (first | exact HB.out | (with_reducible refine Bel.drwN ?_ _) | (with_reducible refine Bel.drw ?_) | (with_reducible refine Bel.al ?_ _) | ((with_reducible refine Bel.st2 ?_ ?_ _); (show _ ≤ _); (simp only []; omega))))⟩
              · rcases p
                · simp at h4
                · simp only [Bool.true_and] at h4
                  clear hj
                  go_wp2
                  exact bodyPost_ret (v := .tuple #[.agg #[.int .i64 0, .int .i64 0], .int .i64 3]) (by simp [results, Tryz.results79, go_sem, l0, l1]) rfl ⟨by rw [HV.out], (by repeat (first | exact HB.out | (with_reducible refine Bel.drwN ?_ _) | (with_reducible refine Bel.drw ?_) | (with_reducible refine Bel.al ?_ _) | ((with_reducible refine Bel.st2 ?_ ?_ _); (show _ ≤ _); (simp only []; omega))))⟩
            · clear hj
              go_wp2
              exact bodyPost_ret (v := .tuple #[.agg #[.int .i64 0, .int .i64 0], .int .i64 3]) (by simp [results, Tryz.results79, go_sem, l0, l1]) rfl ⟨by rw [HV.out], (by repeat (first | exact HB.out | (with_reducible refine Bel.drwN ?_ _) | (with_reducible refine Bel.drw ?_) | (with_reducible refine Bel.al ?_ _) | ((with_reducible refine Bel.st2 ?_ ?_ _); (show _ ≤ _); (simp only []; omega))))⟩
          · clear hj
            go_wp2
            exact bodyPost_ret (v := .tuple #[.agg #[.int .i64 0, .int .i64 0], .int .i64 3]) (by simp [results, Tryz.results79, go_sem, l0, l1]) rfl ⟨by rw [HV.out], (by repeat (first | exact HB.out | (with_reducible refine Bel.drwN ?_ _) | (with_reducible refine Bel.drw ?_) | (with_reducible refine Bel.al ?_ _) | ((with_reducible refine Bel.st2 ?_ ?_ _); (show _ ≤ _); (simp only []; omega))))⟩
        · clear hj
          go_wp2
          exact bodyPost_ret (v := .tuple #[.agg #[.int .i64 0, .int .i64 0], .int .i64 3]) (by simp [results, Tryz.results79, go_sem, l0, l1]) rfl ⟨by rw [HV.out], (by repeat (first | exact HB.out | (with_reducible refine Bel.drwN ?_ _) | (with_reducible refine Bel.drw ?_) | (with_reducible refine Bel.al ?_ _) | ((with_reducible refine Bel.st2 ?_ ?_ _); (show _ ≤ _); (simp only []; omega))))⟩
end Go.Proofs.YtnjojdmmalmhaaaGreatDoor.Un
namespace Go.Proofs.YtnjojdmmalmhaaaGreatDoor.Un
open Go.Lib
set_option linter.unusedVariables false
def isD (c : UInt8) : Prop := 48 ≤ c.toNat ∧ c.toNat ≤ 57
def allD (l : List UInt8) : Prop := ∀ c ∈ l, isD c
/-- the number of a list of digits -/
def val (l : List UInt8) : Nat := l.foldl (fun v c => 10 * v + (c.toNat - 48)) 0
theorem val_snoc (l : List UInt8) (c : UInt8) : val (l ++ [c]) = 10 * val l + (c.toNat - 48) := by simp [val]
def nz (l : List UInt8) : Bool := l.any fun c => c != 48
theorem nz_snoc (l : List UInt8) (c : UInt8) : nz (l ++ [c]) = (nz l || c != 48) := by simp [nz]
def ld (l : List UInt8) : Bool := decide (2 ≤ l.length) && (l.head? == some 48)
def capN (n : Nat) : Int := cap (n : Int)
theorem u8_eq {c : UInt8} (h : c.toNat = 48) : c = 48 := UInt8.toNat_inj.1 (by simpa using h)
theorem u8_of {d : Nat} (h : d < 10) : (UInt8.ofNat (48 + d)).toNat = 48 + d := by rw [UInt8.toNat_ofNat']; omega
theorem cap_step (n d : Nat) : cap (10 * capN n + (d : Int)) = capN (10 * n + d) := by
  unfold capN cap
  split <;> split <;> split <;> omega
theorem snoc_ind {P : List UInt8 → Prop} (h0 : P []) (h1 : ∀ l c, P l → P (l ++ [c])) (l : List UInt8) : P l := by
  have : ∀ n (l : List UInt8), l.length = n → P l := by
    intro n
    induction n with
    | zero => intro l h; rw [List.eq_nil_of_length_eq_zero h]; exact h0
    | succ n ih =>
      intro l h
      have hne : l ≠ [] := by intro e; rw [e] at h; simp at h
      rw [← List.dropLast_concat_getLast hne]
      exact h1 _ _ (ih _ (by simp [h]))
  exact this _ l rfl
theorem allD_snoc {l : List UInt8} {c : UInt8} (h : allD (l ++ [c])) : allD l ∧ isD c := ⟨fun x hx => h x (by simp [hx]), h c (by simp)⟩
/-- what a digit does -/
theorem take_digit (S : Sc) (c : UInt8) (h : isD c) : S.take c.toNat = ({ S with some := S.some || c != 48 }).digit (((c.toNat - 48 : Nat) : Int)) := by
  unfold isD at h
  unfold Sc.take
  rcases Nat.lt_or_ge 48 c.toNat with h1 | h1
  · rw [if_pos ⟨by omega, h.2⟩]
    have hn : (c != 48) = true := by
      rw [bne_iff_ne]; intro e; rw [e] at h1; simp at h1
    rw [hn, Bool.or_true]
    congr 1
    omega
  · have e : c.toNat = 48 := by omega
    rw [if_neg (by omega), if_pos e, u8_eq e]
    simp
theorem ld_snoc (l : List UInt8) (c : UInt8) (h : allD l) : ld (l ++ [c]) = (ld l || ((l.length : Int) == 1 && capN (val l) == 0)) := by
  match l, h with
  | [], _ => simp [ld]
  | [x], h =>
    have hx := h x (by simp)
    unfold isD at hx
    have hc : capN (val [x]) = ((x.toNat - 48 : Nat) : Int) := by
      unfold capN cap val
      simp
      intro hh; omega
    rw [hc]
    simp [ld]
    by_cases e : x = 48
    · subst e; rfl
    · have e2 : x.toNat ≠ 48 := fun h => e (u8_eq h)
      rw [beq_eq_false_iff_ne.2 e]
      symm
      rw [beq_eq_false_iff_ne]
      omega
  | x :: y :: l, _ =>
    have e : ((((x :: y :: l).length : Nat) : Int) == 1) = false := by simp; omega
    rw [e]
    simp [ld]
/-- the scan of digits -/
theorem rn_digits (l : List UInt8) : allD l → rn l = ⟨capN (val l), l.length, 0, false, ld l, nz l, false⟩ := by
  refine snoc_ind (P := fun l => allD l → rn l = ⟨capN (val l), l.length, 0, false, ld l, nz l, false⟩) ?_ ?_ l
  · intro _; rfl
  · intro l c ih h
    obtain ⟨h1, h2⟩ := allD_snoc h
    rw [rn_snoc, ih h1, take_digit _ c h2, val_snoc, nz_snoc, ld_snoc l c h1, ← cap_step]
    simp [Sc.digit]
/-- the scan of digits, a point, and digits -/
theorem rn_point (A : List UInt8) (hA : allD A) (B : List UInt8) : allD B → rn (A ++ 46 :: B) = ⟨capN (val (A ++ B)), A.length, B.length, true, ld A, nz (A ++ B), false⟩ := by
  refine snoc_ind (P := fun B => allD B → rn (A ++ 46 :: B) = ⟨capN (val (A ++ B)), A.length, B.length, true, ld A, nz (A ++ B), false⟩) ?_ ?_ B
  · intro _
    rw [List.append_nil, show A ++ 46 :: [] = A ++ [46] from rfl, rn_snoc, rn_digits A hA]
    show Sc.take _ 46 = _
    unfold Sc.take
    simp
  · intro l c ih h
    obtain ⟨h1, h2⟩ := allD_snoc h
    rw [show A ++ 46 :: (l ++ [c]) = (A ++ 46 :: l) ++ [c] by simp, rn_snoc, ih h1, take_digit _ c h2, ← List.append_assoc, val_snoc, nz_snoc, ← cap_step]
    simp [Sc.digit]
theorem take_wrong (S : Sc) (c : Nat) (h : S.wrong = true) : (S.take c).wrong = true := by
  unfold Sc.take
  split
  · unfold Sc.digit; split <;> exact h
  · split
    · unfold Sc.digit; split <;> exact h
    · split
      · exact h
      · rfl
/-- what is not refused for a sign that does not belong there -/
theorem rn_shape (l : List UInt8) : (rn l).wrong = false → allD l ∨ ∃ A B, l = A ++ 46 :: B ∧ allD A ∧ allD B := by
  refine snoc_ind (P := fun l => (rn l).wrong = false → allD l ∨ ∃ A B, l = A ++ 46 :: B ∧ allD A ∧ allD B) ?_ ?_ l
  · intro _; exact .inl (by simp [allD])
  · intro l c ih h
    rw [rn_snoc] at h
    have hw : (rn l).wrong = false := by
      rcases hx : (rn l).wrong
      · rfl
      · have := take_wrong _ c.toNat hx; rw [this] at h; cases h
    have hc : isD c ∨ (c = 46 ∧ (rn l).point = false) := by
      rcases Nat.lt_or_ge c.toNat 48 with h1 | h1
      · by_cases h2 : c.toNat = 46 ∧ (rn l).point = false
        · exact .inr ⟨UInt8.toNat_inj.1 (by simpa using h2.1), h2.2⟩
        · unfold Sc.take at h
          rw [if_neg (by omega), if_neg (by omega), if_neg h2] at h
          cases h
      · rcases Nat.lt_or_ge 57 c.toNat with h2 | h2
        · unfold Sc.take at h
          rw [if_neg (by omega), if_neg (by omega), if_neg (by omega)] at h
          cases h
        · exact .inl ⟨h1, h2⟩
    rcases ih hw with hd | ⟨A, B, rfl, hA, hB⟩
    · rcases hc with hc | ⟨rfl, _⟩
      · exact .inl (fun x hx => by
          rcases List.mem_append.1 hx with h' | h'
          · exact hd x h'
          · simp at h'; subst h'; exact hc)
      · exact .inr ⟨l, [], rfl, hd, by simp [allD]⟩
    · rcases hc with hc | ⟨_, hp⟩
      · refine .inr ⟨A, B ++ [c], by simp, hA, fun x hx => ?_⟩
        rcases List.mem_append.1 hx with h' | h'
        · exact hB x h'
        · simp at h'; subst h'; exact hc
      · rw [rn_point A hA B hB] at hp; cases hp
/-- the digits of a number -/
theorem dec_small {u : Nat} (h : u < 10) : decDigits u = [UInt8.ofNat (48 + u)] := by rw [decDigits, dif_pos h]
theorem dec_big {u : Nat} (h : ¬ u < 10) : decDigits u = decDigits (u / 10) ++ [UInt8.ofNat (48 + u % 10)] := by rw [decDigits, dif_neg h]
theorem dec_facts (u : Nat) : allD (decDigits u) ∧ val (decDigits u) = u ∧ nz (decDigits u) = decide (1 ≤ u) ∧ (1 ≤ u → ∀ c, (decDigits u).head? = some c → c ≠ 48) := by
  induction u using Nat.strongRecOn with
  | _ u ih =>
    by_cases h : u < 10
    · rw [dec_small h]
      have e := u8_of h
      refine ⟨?_, ?_, ?_, ?_⟩
      · intro c hc; rw [List.mem_singleton.1 hc]; unfold isD; omega
      · simp only [val, List.foldl_cons, List.foldl_nil]; omega
      · simp only [nz, List.any_cons, List.any_nil, Bool.or_false]
        rcases Nat.eq_zero_or_pos u with h0 | h0
        · subst h0; rfl
        · rw [decide_eq_true (by omega : 1 ≤ u), bne_iff_ne]
          intro e2; rw [e2] at e; have : (48 : UInt8).toNat = 48 := rfl; omega
      · intro h1 c hc e2
        injection hc with hc
        rw [hc, e2] at e
        have : (48 : UInt8).toNat = 48 := rfl
        omega
    · rw [dec_big h]
      obtain ⟨a, b, c, d⟩ := ih (u / 10) (by omega)
      have e := u8_of (show u % 10 < 10 by omega)
      refine ⟨?_, ?_, ?_, ?_⟩
      · intro x hx
        rcases List.mem_append.1 hx with h' | h'
        · exact a x h'
        · rw [List.mem_singleton.1 h']; unfold isD; omega
      · rw [val_snoc, b, e]; omega
      · rw [nz_snoc, c, decide_eq_true (by omega : 1 ≤ u / 10), decide_eq_true (by omega : 1 ≤ u)]; rfl
      · intro h1 x hx
        refine d (by omega) x ?_
        have hl : 0 < (decDigits (u / 10)).length := by rw [decDigits_length]; exact nDigits_pos _
        rcases hd : decDigits (u / 10) with _ | ⟨y, t⟩
        · rw [hd] at hl; simp at hl
        · rw [hd] at hx; simpa using hx
/-- a list of digits is the digits of its number behind zeros -/
theorem digits_form (D : List UInt8) : allD D → D ≠ [] → D = List.replicate (D.length - nDigits (val D)) 48 ++ decDigits (val D) ∧ nDigits (val D) ≤ D.length := by
  refine snoc_ind (P := fun D => allD D → D ≠ [] → D = List.replicate (D.length - nDigits (val D)) 48 ++ decDigits (val D) ∧ nDigits (val D) ≤ D.length) ?_ ?_ D
  · intro _ h; exact absurd rfl h
  · intro l c ih h _
    obtain ⟨h1, h2⟩ := allD_snoc h
    have hcb : c.toNat - 48 < 10 := by unfold isD at h2; omega
    have hc : UInt8.ofNat (48 + (c.toNat - 48)) = c := by
      apply UInt8.toNat_inj.1
      rw [u8_of hcb]; unfold isD at h2; omega
    rw [val_snoc, List.length_append]
    by_cases hl : l = []
    · subst hl
      have e0 : val [] = 0 := rfl
      rw [e0, Nat.mul_zero, Nat.zero_add, nDigits_small hcb, dec_small hcb, hc]
      exact ⟨rfl, by simp⟩
    · obtain ⟨e, hle⟩ := ih h1 hl
      have hlen : 0 < l.length := List.length_pos_iff.2 hl
      rcases Nat.eq_zero_or_pos (val l) with h0 | h0
      · rw [h0] at e ⊢
        have e1 : decDigits 0 = [48] := by rw [dec_small (by omega)]; rfl
        rw [e1, nDigits_small (by omega)] at e
        rw [Nat.mul_zero, Nat.zero_add, nDigits_small hcb, dec_small hcb, hc]
        refine ⟨?_, by simp⟩
        have : l = List.replicate l.length 48 := by
          conv => lhs; rw [e]
          have : l.length = (l.length - 1) + 1 := by omega
          conv => rhs; rw [this, List.replicate_succ']
        conv => lhs; rw [this]
        simp
      · have hb : ¬ 10 * val l + (c.toNat - 48) < 10 := by omega
        rw [nDigits_big hb, dec_big hb, show (10 * val l + (c.toNat - 48)) / 10 = val l by omega, show (10 * val l + (c.toNat - 48)) % 10 = c.toNat - 48 by omega, hc]
        refine ⟨?_, by simp; omega⟩
        rw [show l.length + [c].length - (nDigits (val l) + 1) = l.length - nDigits (val l) by simp, ← List.append_assoc, ← e]
end Go.Proofs.YtnjojdmmalmhaaaGreatDoor.Un
namespace Go.Proofs.YtnjojdmmalmhaaaGreatDoor.Un
open Go.Lib
set_option linter.unusedVariables false
/-- the digits, with zeros ahead of them so that one stands ahead of the places -/
def pad (n p : Nat) : List UInt8 := List.replicate (p + 1 - nDigits n) 48 ++ decDigits n
def fb (n p : Nat) : List UInt8 := if p = 0 then pad n p else (pad n p).take ((pad n p).length - p) ++ 46 :: (pad n p).drop ((pad n p).length - p)
def fm (x : Int) (p : Nat) : List UInt8 := if x < 0 then 45 :: fb x.natAbs p else fb x.natAbs p
theorem pad_len (n p : Nat) : (pad n p).length = max (p + 1) (nDigits n) := by
  have := nDigits_pos n
  simp only [pad, List.length_append, List.length_replicate, decDigits_length]; omega
theorem val_zeros (k : Nat) (l : List UInt8) : val (List.replicate k 48 ++ l) = val l := by
  have : ∀ k, (List.replicate k (48 : UInt8)).foldl (fun v c => 10 * v + (c.toNat - 48)) 0 = 0 := by
    intro k
    induction k with
    | zero => rfl
    | succ k ih => rw [List.replicate_succ', List.foldl_append, ih]; rfl
  unfold val
  rw [List.foldl_append, this]
theorem nz_zeros (k : Nat) (l : List UInt8) : nz (List.replicate k 48 ++ l) = nz l := by
  unfold nz
  rw [List.any_append]
  have : (List.replicate k (48 : UInt8)).any (fun c => c != 48) = false := by
    induction k with
    | zero => rfl
    | succ k ih => rw [List.replicate_succ, List.any_cons, ih]; rfl
  rw [this, Bool.false_or]
theorem pad_facts (n p : Nat) : allD (pad n p) ∧ val (pad n p) = n ∧ nz (pad n p) = decide (1 ≤ n) ∧ (p + 2 ≤ (pad n p).length → (pad n p).head? ≠ some 48) := by
  obtain ⟨a, b, c, d⟩ := dec_facts n
  refine ⟨?_, ?_, ?_, ?_⟩
  · intro x hx
    rcases List.mem_append.1 hx with h | h
    · rw [(List.mem_replicate.1 h).2]; exact ⟨by decide, by decide⟩
    · exact a x h
  · unfold pad; rw [val_zeros, b]
  · unfold pad; rw [nz_zeros, c]
  · intro h
    rw [pad_len] at h
    have h2 : p + 1 - nDigits n = 0 := by omega
    have h3 : 1 ≤ n := by
      rcases Nat.eq_zero_or_pos n with h0 | h0
      · subst h0; rw [nDigits_small (by omega)] at h; omega
      · exact h0
    unfold pad
    rw [h2]
    intro e
    exact d h3 48 e rfl
theorem allD_take {l : List UInt8} (h : allD l) (k : Nat) : allD (l.take k) := fun x hx => h x (List.mem_of_mem_take hx)
theorem allD_drop {l : List UInt8} (h : allD l) (k : Nat) : allD (l.drop k) := fun x hx => h x (List.mem_of_mem_drop hx)
theorem allD_head {l : List UInt8} (h : allD l) {c : UInt8} (hc : l.head? = some c) : c ≠ 45 := by
  rintro rfl
  have := h 45 (List.mem_of_mem_head? hc)
  unfold isD at this
  have e : (45 : UInt8).toNat = 45 := rfl
  omega
theorem head_app {l r : List UInt8} (h : l ≠ []) : (l ++ r).head? = l.head? := by
  rcases l with _ | ⟨c, t⟩
  · exact absurd rfl h
  · rfl
theorem fb_head (n p : Nat) {c : UInt8} (hc : (fb n p).head? = some c) : c ≠ 45 := by
  unfold fb at hc
  split at hc
  · exact allD_head (pad_facts n p).1 hc
  · have hl := pad_len n p
    have hne : (pad n p).take ((pad n p).length - p) ≠ [] := by
      intro e
      have := congrArg List.length e
      simp at this
      omega
    rw [head_app hne] at hc
    exact allD_head (allD_take (pad_facts n p).1 _) hc
theorem capN_le {n : Nat} (h : n ≤ 1000000000) : capN n = n := by unfold capN cap; rw [if_pos (by omega)]
/-- the text of a decimal is read as this decimal -/
theorem fm_back (x : Int) (p : Nat) (h0 : -1000000000 ≤ x) (h1 : x ≤ 1000000000) (hp : p ≤ 6) :
    prs (rn (fb x.natAbs p)) (decide (x < 0)) = .tuple #[.agg #[.int .i64 x, .int .i64 (p : Int)], .int .i64 0] := by
  obtain ⟨a, b, c, d⟩ := pad_facts x.natAbs p
  have hl := pad_len x.natAbs p
  have hn : x.natAbs ≤ 1000000000 := by omega
  have fin : ∀ (wh : Int) (pt : Bool), 1 ≤ wh → (pt = true → 1 ≤ p) → (pt = false → p = 0) →
      prs ⟨capN x.natAbs, wh, (p : Int), pt, false, decide (1 ≤ x.natAbs), false⟩ (decide (x < 0)) = .tuple #[.agg #[.int .i64 x, .int .i64 (p : Int)], .int .i64 0] := by
    intro wh pt g1 g2 g3
    unfold prs
    rw [if_neg, capN_le hn, if_neg (by simp only []; omega)]
    · have hval : (if decide (x < 0) = true then -((x.natAbs : Nat) : Int) else ((x.natAbs : Nat) : Int)) = x := by
        rcases Int.lt_or_le x 0 with hx | hx
        · rw [if_pos (decide_eq_true hx)]; omega
        · rw [if_neg (by rw [decide_eq_false (by omega)]; decide)]; omega
      simp only [hval]
    · simp only [rej, Bool.false_or, Bool.or_eq_true, Bool.and_eq_true, beq_iff_eq, decide_eq_true_eq, Bool.not_eq_true', decide_eq_false_iff_not]
      rintro (h | ⟨h, h'⟩ | h | ⟨h, h'⟩)
      · omega
      · have := g2 h; omega
      · omega
      · omega
  unfold fb
  split
  · rename_i e
    subst e
    rw [rn_digits _ a, b, c]
    have hld : ld (pad x.natAbs 0) = false := by
      unfold ld
      rcases Nat.lt_or_ge (pad x.natAbs 0).length 2 with h | h
      · rw [decide_eq_false (by omega)]; rfl
      · rw [Bool.and_eq_false_iff]; right
        exact beq_eq_false_iff_ne.2 (d h)
    rw [hld]
    exact fin _ false (by omega) (by simp) (fun _ => rfl)
  · rename_i e
    have hA := allD_take a ((pad x.natAbs p).length - p)
    have hB := allD_drop a ((pad x.natAbs p).length - p)
    rw [rn_point _ hA _ hB, List.take_append_drop, b, c]
    have hld : ld ((pad x.natAbs p).take ((pad x.natAbs p).length - p)) = false := by
      unfold ld
      rcases Nat.lt_or_ge (pad x.natAbs p).length (p + 2) with h | h
      · rw [decide_eq_false (by simp; omega)]; rfl
      · rw [Bool.and_eq_false_iff]; right
        refine beq_eq_false_iff_ne.2 ?_
        rw [List.head?_take, if_neg (by omega)]
        exact d h
    rw [hld, show (((pad x.natAbs p).drop ((pad x.natAbs p).length - p)).length : Int) = (p : Int) by simp; omega]
    exact fin _ true (by simp; omega) (fun _ => by omega) (by simp)
/-- what is read has the text that it was read from -/
theorem fm_again (l : List UInt8) (m : Bool) (X P : Int) (h : prs (rn l) m = .tuple #[.agg #[.int .i64 X, .int .i64 P], .int .i64 0]) :
    ∃ p : Nat, P = (p : Int) ∧ p ≤ 6 ∧ -1000000000 ≤ X ∧ X ≤ 1000000000 ∧ fb X.natAbs p = l ∧ decide (X < 0) = m := by
  unfold prs at h
  split at h
  · simp at h
  · rename_i hr
    split at h
    · simp at h
    · rename_i hd
      have hr' : rej (rn l) m = false := by simpa using hr
      simp only [rej, Bool.or_eq_false_iff] at hr'
      obtain ⟨r1, r2, r3, r4, r5, r6⟩ := hr'
      simp only [Value.tuple.injEq, Array.mk.injEq, List.cons.injEq, Value.agg.injEq, Value.int.injEq, true_and, and_true] at h
      obtain ⟨hX, hP⟩ := h
      have key : ∀ (n : Nat), (rn l).digits = capN n → (rn l).some = decide (1 ≤ n) → -1000000000 ≤ X ∧ X ≤ 1000000000 ∧ X.natAbs = n ∧ decide (X < 0) = m := by
        intro n e1 e2
        have hle : n ≤ 1000000000 := by
          rw [e1] at hd
          unfold capN cap at hd
          split at hd <;> omega
        rw [e1, capN_le hle] at hX
        rcases m
        · simp only [Bool.false_eq_true, if_false] at hX
          exact ⟨by omega, by omega, by omega, decide_eq_false (by omega)⟩
        · simp only [if_true] at hX
          rw [e2] at r6
          have h1 : 1 ≤ n := by simpa using r6
          exact ⟨by omega, by omega, by omega, decide_eq_true (by omega)⟩
      rcases rn_shape l r1 with hD | ⟨A, B, rfl, hA, hB⟩
      · have E := rn_digits l hD
        have e1 : (rn l).digits = capN (val l) := by rw [E]
        have e2 : (rn l).leading = ld l := by rw [E]
        have e3 : (rn l).whole = (l.length : Int) := by rw [E]
        have e4 : (rn l).places = 0 := by rw [E]
        have e5 : (rn l).some = nz l := by rw [E]
        rw [e2] at r2
        rw [e3] at r3
        rw [e4] at hP
        clear E
        have hne : l ≠ [] := by rintro rfl; simp at r3
        obtain ⟨hf, hle⟩ := digits_form l hD hne
        have hnz : nz l = decide (1 ≤ val l) := by
          conv => lhs; rw [hf]
          rw [nz_zeros, (dec_facts _).2.2.1]
        obtain ⟨k1, k2, k3, k4⟩ := key (val l) e1 (e5.trans hnz)
        refine ⟨0, hP.symm, by omega, k1, k2, ?_, k4⟩
        rw [k3]
        have hk : l.length - nDigits (val l) = 0 := by
          rcases Nat.eq_zero_or_pos (l.length - nDigits (val l)) with h0 | h0
          · exact h0
          · exfalso
            have hp := nDigits_pos (val l)
            simp only [ld] at r2
            rw [decide_eq_true (by omega : 2 ≤ l.length), Bool.true_and] at r2
            have : l.head? = some 48 := by
              rw [hf]
              obtain ⟨k, hk⟩ : ∃ k, l.length - nDigits (val l) = k + 1 := ⟨_, (Nat.sub_add_cancel h0).symm⟩
              rw [hk, List.replicate_succ]; rfl
            rw [this] at r2
            simp at r2
        rw [hk] at hf
        simp only [fb, if_true, pad]
        rw [show 0 + 1 - nDigits (val l) = 0 by have := nDigits_pos (val l); omega]
        exact hf.symm
      · have E := rn_point A hA B hB
        have e1 : (rn (A ++ 46 :: B)).digits = capN (val (A ++ B)) := by rw [E]
        have e2 : (rn (A ++ 46 :: B)).leading = ld A := by rw [E]
        have e3 : (rn (A ++ 46 :: B)).whole = (A.length : Int) := by rw [E]
        have e4 : (rn (A ++ 46 :: B)).places = (B.length : Int) := by rw [E]
        have e5 : (rn (A ++ 46 :: B)).some = nz (A ++ B) := by rw [E]
        have e6 : (rn (A ++ 46 :: B)).point = true := by rw [E]
        rw [e2] at r2
        rw [e3] at r3
        rw [e4, e6] at r4
        rw [e4] at r5 hP
        clear E
        have hAB : allD (A ++ B) := fun x hx => by
          rcases List.mem_append.1 hx with h' | h'
          · exact hA x h'
          · exact hB x h'
        have hA0 : 1 ≤ A.length := by
          rcases Nat.eq_zero_or_pos A.length with h0 | h0
          · simp [h0] at r3
          · exact h0
        have hB0 : 1 ≤ B.length := by
          rcases Nat.eq_zero_or_pos B.length with h0 | h0
          · simp [h0] at r4
          · exact h0
        have hB6 : B.length ≤ 6 := by have := of_decide_eq_false r5; omega
        have hne : A ++ B ≠ [] := by
          intro e; have := congrArg List.length e; rw [List.length_append, List.length_nil] at this; omega
        obtain ⟨hf, hle⟩ := digits_form (A ++ B) hAB hne
        have hnz : nz (A ++ B) = decide (1 ≤ val (A ++ B)) := by
          conv => lhs; rw [hf]
          rw [nz_zeros, (dec_facts _).2.2.1]
        obtain ⟨k1, k2, k3, k4⟩ := key (val (A ++ B)) e1 (e5.trans hnz)
        refine ⟨B.length, hP.symm, hB6, k1, k2, ?_, k4⟩
        rw [k3]
        have hlen : (A ++ B).length = A.length + B.length := List.length_append
        have hk : (A ++ B).length - nDigits (val (A ++ B)) = B.length + 1 - nDigits (val (A ++ B)) := by
          rcases Nat.lt_or_ge A.length 2 with h2 | h2
          · omega
          · rcases Nat.eq_zero_or_pos ((A ++ B).length - nDigits (val (A ++ B))) with h0 | h0
            · omega
            · exfalso
              simp only [ld] at r2
              rw [decide_eq_true h2, Bool.true_and] at r2
              have h48 : (A ++ B).head? = some 48 := by
                rw [hf]
                obtain ⟨k, hk⟩ : ∃ k, (A ++ B).length - nDigits (val (A ++ B)) = k + 1 := ⟨_, (Nat.sub_add_cancel h0).symm⟩
                rw [hk, List.replicate_succ]; rfl
              rw [head_app (by rintro rfl; simp at hA0)] at h48
              rw [h48] at r2
              simp at r2
        have hpad : pad (val (A ++ B)) B.length = A ++ B := by
          unfold pad
          rw [← hk]
          exact hf.symm
        simp only [fb, hpad]
        rw [if_neg (by omega), show (A ++ B).length - B.length = A.length by omega, List.take_left, List.drop_left]
theorem pre_of (l : List UInt8) (h : hasPrefix l [45] = true) : l = 45 :: trimPrefix l [45] := by
  unfold trimPrefix
  rw [if_pos h]
  unfold hasPrefix at h
  rcases l with _ | ⟨c, t⟩
  · simp at h
  · simp at h; rw [← h]; rfl
theorem pre_no (l : List UInt8) (h : hasPrefix l [45] = false) : trimPrefix l [45] = l := by
  unfold trimPrefix
  rw [if_neg (by rw [h]; decide)]
theorem fm_pre (x : Int) (p : Nat) : hasPrefix (fm x p) [45] = decide (x < 0) ∧ trimPrefix (fm x p) [45] = fb x.natAbs p := by
  unfold fm
  split
  · rename_i h
    have e : hasPrefix (45 :: fb x.natAbs p) [45] = true := by simp [hasPrefix]
    refine ⟨e.trans (decide_eq_true h).symm, ?_⟩
    have := pre_of _ e
    exact (List.cons.inj this).2.symm
  · rename_i h
    have e : hasPrefix (fb x.natAbs p) [45] = false := by
      unfold hasPrefix
      rcases hb : fb x.natAbs p with _ | ⟨c, t⟩
      · rfl
      · have := fb_head x.natAbs p (c := c) (by rw [hb]; rfl)
        simp [List.isPrefixOf]
        exact fun e => this e.symm
    exact ⟨by rw [e, decide_eq_false h], pre_no _ e⟩
end Go.Proofs.YtnjojdmmalmhaaaGreatDoor.Un
namespace Go.Proofs.YtnjojdmmalmhaaaGreatDoor.Sr
open Go.ChangeShapes Go.WideShapes Go.RowKit Wo
set_option linter.unusedVariables false
def SomePick (g : Nat) (L : List Int) (w : World) (e : Ending) (w' : World) : Prop := ∃ x : Int, e = .returned (.int .i64 x) ∧ x ∈ L ∧ Ok w' g ∧ Ch g w w'
/-- the block holds the numbers of a list -/
def Lst (w : World) (b : Nat) (L : List Int) : Prop := b < w.heap.size ∧ ∀ i, i < L.length → w.cell? ⟨b, i, none⟩ = some (.int .i64 (L.getD i 0))
theorem lst_new (w : World) (L : List Int) (t : TypeId) (cs : Array Value) (hc : cs = (L.map (Value.int .i64)).toArray) (b : Nat) (hb : w.heap.size = b) : Lst (w.alloc (.cells cs t)) b L := by
  subst hb hc
  refine ⟨by simp, fun i hi => ?_⟩
  rw [cell_of_row _ _ i _ t (0, 0) (heap_alloc_new w _)]
  simp [List.getD_eq_getElem?_getD, hi]
theorem pick_any (g b : Nat) (L : List Int) (m : Nat) (hm : m = L.length) (h1 : 1 ≤ m) (h2 : m ≤ 1000000) (hbg : b ≠ g) (w : World) (h : Ok w g) (hl : Lst w b L) :
    Calls Tryz.prog 20 #[.pointer (some ⟨g, 0, none⟩), .slice (some ⟨b, 0, none⟩) m m] w (SomePick g L w) := by
  have HO := Lib.hid h
  have HLs := Lib.hid hl
  have HM := Lib.hid hm
  clear h hl hm
  go_enter Tryz.func20, Tryz.ntmps20
  go_wp2_with fail
  go_at_call 23
  refine (n_any g (m : Int) (by omega) (by omega) _ HO.out).mono ?_
  rintro e w1 ⟨x, rfl, hx0, hx1, ho, hc⟩
  obtain ⟨k, rfl⟩ := Int.eq_ofNat_of_zero_le hx0
  have hk : k < m := by omega
  have hcell : w1.cell? ⟨b, k, none⟩ = some (.int .i64 (L.getD k 0)) := hc.kp (HLs.out.2 k (by have := HM.out; omega)) hbg
  have hmem : Hid (L.getD k 0 ∈ L) := by
    have hkl : k < L.length := by have := HM.out; omega
    show L.getD k 0 ∈ L
    rw [List.getD_eq_getElem?_getD, List.getElem?_eq_getElem hkl]
    exact List.getElem_mem hkl
  have HOK := Lib.hid ho
  have HCH := Lib.hid hc
  clear ho hc
  generalize L.getD k 0 = v at *
  go_wp2
  go_ret
  exact ⟨v, rfl, hmem.out, HOK.out, HCH.out⟩
end Go.Proofs.YtnjojdmmalmhaaaGreatDoor.Sr
namespace Go.Proofs.YtnjojdmmalmhaaaGreatDoor.Sr
open Go.ChangeShapes Go.WideShapes Go.RowKit Wo
set_option linter.unusedVariables false
def SomeRange (g : Nat) (lo hi : Int) (w : World) (e : Ending) (w' : World) : Prop := ∃ x : Int, e = .returned (.int .i64 x) ∧ lo ≤ x ∧ x ≤ hi ∧ Ok w' g ∧ Ch g w w'
theorem range_any (g : Nat) (lo hi : Int) (h0 : -2305843009213693952 ≤ lo) (h1 : lo ≤ hi) (h2 : hi ≤ 2305843009213693952) (w : World) (h : Ok w g) :
    Calls Tryz.prog 21 #[.pointer (some ⟨g, 0, none⟩), .int .i64 lo, .int .i64 hi] w (SomeRange g lo hi w) := by
  have HN : Hid (∀ W, Ok W g → Calls Tryz.prog 23 #[.pointer (some ⟨g, 0, none⟩), .int .i64 (hi - lo + 1)] W (SomeN g (hi - lo + 1) W)) := fun W hW => n_any g _ (by omega) (by omega) W hW
  have HO := Lib.hid h
  clear h
  go_enter Tryz.func21, Tryz.ntmps21
  go_wp2_with fail
  go_at_call 23
  refine (HN.out _ HO.out).mono ?_
  rintro e w1 ⟨x, rfl, hx0, hx1, ho, hc⟩
  have HOK := Lib.hid ho
  have HCH := Lib.hid hc
  clear ho hc
  go_wp2
  go_ret
  exact ⟨lo + x, rfl, by omega, by omega, HOK.out, HCH.out⟩
end Go.Proofs.YtnjojdmmalmhaaaGreatDoor.Sr
namespace Go.Proofs.YtnjojdmmalmhaaaGreatDoor.Wi
set_option linter.unusedVariables false
def su (f : Int → Int) : List Int → Int
  | [] => 0
  | x :: L => f x + su f L
def sq (x : Int) : Int := x * x
def ix (x : Int) : Int := x
theorem su_append (f : Int → Int) (A B : List Int) : su f (A ++ B) = su f A + su f B := by
  induction A with
  | nil => simp [su]
  | cons x A ih => simp only [List.cons_append, su, ih]; omega
theorem su_snoc (f : Int → Int) (A : List Int) (x : Int) : su f (A ++ [x]) = su f A + f x := by
  rw [su_append]; simp [su]
/-- the samples are in their range -/
def Sam (L : List Int) : Prop := ∀ x ∈ L, -1000 ≤ x ∧ x ≤ 1000
theorem Sam.take {L : List Int} (h : Sam L) (n : Nat) : Sam (L.take n) := fun x hx => h x (List.mem_of_mem_take hx)
theorem Sam.drop {L : List Int} (h : Sam L) (n : Nat) : Sam (L.drop n) := fun x hx => h x (List.mem_of_mem_drop hx)
theorem Sam.at {L : List Int} (h : Sam L) (i : Nat) : -1000 ≤ L.getD i 0 ∧ L.getD i 0 ≤ 1000 := by
  rw [List.getD_eq_getElem?_getD]
  rcases Nat.lt_or_ge i L.length with hi | hi
  · rw [List.getElem?_eq_getElem hi]; exact h _ (List.getElem_mem hi)
  · rw [List.getElem?_eq_none hi]; decide
theorem sq_in {x : Int} (h1 : -1000 ≤ x) (h2 : x ≤ 1000) : 0 ≤ x * x ∧ x * x ≤ 1000000 := by
  have a : 0 ≤ (1000 - x) * (1000 + x) := Int.mul_nonneg (by omega) (by omega)
  have e : (1000 - x) * (1000 + x) = 1000000 - x * x := by grind
  have b : 0 ≤ x * x := by
    rcases Int.lt_or_le x 0 with h | h
    · have := Int.mul_nonneg (show 0 ≤ -x by omega) (show 0 ≤ -x by omega); rwa [Int.neg_mul_neg] at this
    · exact Int.mul_nonneg h h
  omega
theorem sq_nn (x : Int) : 0 ≤ x * x := by
  rcases Int.lt_or_le x 0 with h | h
  · have := Int.mul_nonneg (show 0 ≤ -x by omega) (show 0 ≤ -x by omega); rwa [Int.neg_mul_neg] at this
  · exact Int.mul_nonneg h h
theorem su_in {L : List Int} (h : Sam L) : -(1000 * (L.length : Int)) ≤ su ix L ∧ su ix L ≤ 1000 * (L.length : Int) := by
  induction L with
  | nil => simp [su]
  | cons x L ih =>
    have := ih (fun y hy => h y (by simp [hy]))
    have := h x (by simp)
    simp only [su, ix, List.length_cons]
    omega
theorem sq_su_in {L : List Int} (h : Sam L) : 0 ≤ su sq L ∧ su sq L ≤ 1000000 * (L.length : Int) := by
  induction L with
  | nil => simp [su]
  | cons x L ih =>
    have := ih (fun y hy => h y (by simp [hy]))
    have hx := h x (by simp)
    have := sq_in hx.1 hx.2
    simp only [su, sq, List.length_cons]
    omega
theorem take_snoc (L : List Int) (k : Nat) (h : k < L.length) : L.take (k + 1) = L.take k ++ [L.getD k 0] := by
  rw [List.take_succ_eq_append_getElem h, List.getD_eq_getElem?_getD, List.getElem?_eq_getElem h]; rfl
theorem su_next (f : Int → Int) (L : List Int) (k : Nat) (h : k < L.length) : su f (L.take (k + 1)) = su f (L.take k) + f (L.getD k 0) := by
  rw [take_snoc L k h, su_snoc]
/-- the sums of the beginnings -/
def begs (f : Int → Int) (L : List Int) : List Int := (List.range (L.length + 1)).map fun i => su f (L.take i)
theorem begs_len (f : Int → Int) (L : List Int) : (begs f L).length = L.length + 1 := by simp [begs]
theorem begs_at (f : Int → Int) (L : List Int) (i : Nat) (h : i ≤ L.length) : (begs f L).getD i 0 = su f (L.take i) := by
  rw [List.getD_eq_getElem?_getD, begs, List.getElem?_map, List.getElem?_range (by omega)]; rfl
/-- the sum over a part -/
theorem su_part (f : Int → Int) (L : List Int) (i k : Nat) : su f (L.take (i + k)) - su f (L.take i) = su f ((L.drop i).take k) := by
  rw [List.take_add, su_append]; omega
/-- the sum of the squares of the differences to a number -/
theorem dif_nn (L : List Int) (x : Int) : 0 ≤ (L.length : Int) * (x * x) - 2 * x * su ix L + su sq L := by
  induction L with
  | nil => simp [su]
  | cons y L ih =>
    simp only [su, ix, sq, List.length_cons] at *
    have h := sq_nn (x - y)
    have e : ((L.length + 1 : Nat) : Int) * (x * x) - 2 * x * (y + su ix L) + (y * y + su sq L) = ((L.length : Int) * (x * x) - 2 * x * su ix L + su sq L) + (x - y) * (x - y) := by
      rw [show ((L.length + 1 : Nat) : Int) = (L.length : Int) + 1 by omega]; grind
    have e2 : su (fun x => x) L = su ix L := rfl
    have e3 : su (fun x => x * x) L = su sq L := rfl
    rw [e]
    omega
theorem pair_nn (A B : List Int) : 0 ≤ (B.length : Int) * su sq A - 2 * su ix A * su ix B + (A.length : Int) * su sq B := by
  induction A with
  | nil => simp [su]
  | cons x A ih =>
    have h := dif_nn B x
    have e : (B.length : Int) * su sq (x :: A) - 2 * su ix (x :: A) * su ix B + ((x :: A).length : Int) * su sq B =
        ((B.length : Int) * su sq A - 2 * su ix A * su ix B + (A.length : Int) * su sq B) + ((B.length : Int) * (x * x) - 2 * x * su ix B + su sq B) := by
      rw [show ((x :: A).length : Int) = (A.length : Int) + 1 by simp, show su sq (x :: A) = x * x + su sq A from rfl, show su ix (x :: A) = x + su ix A from rfl]; grind
    rw [e]
    omega
/-- the variance -/
def vr (L : List Int) : Int := (L.length : Int) * su sq L - su ix L * su ix L
theorem vr_nn (L : List Int) : 0 ≤ vr L := by
  have := pair_nn L L
  have e : (L.length : Int) * su sq L - 2 * su ix L * su ix L + (L.length : Int) * su sq L = 2 * vr L := by unfold vr; grind
  omega
theorem vr_parts (A B : List Int) : vr A + vr B ≤ vr (A ++ B) := by
  have := pair_nn A B
  have e : vr (A ++ B) = vr A + vr B + ((B.length : Int) * su sq A - 2 * su ix A * su ix B + (A.length : Int) * su sq B) := by
    unfold vr
    rw [su_append, su_append, List.length_append, show ((A.length + B.length : Nat) : Int) = (A.length : Int) + (B.length : Int) by omega]
    grind
  omega
/-- the squares of the differences of a number and those ahead of it -/
def difs (x : Int) : List Int → Int
  | [] => 0
  | y :: L => (x - y) * (x - y) + difs x L
theorem difs_snoc (x : Int) (L : List Int) (y : Int) : difs x (L ++ [y]) = difs x L + (x - y) * (x - y) := by
  induction L with
  | nil => simp [difs]
  | cons z L ih => simp only [List.cons_append, difs, ih]; omega
theorem difs_eq (x : Int) (L : List Int) : difs x L = (L.length : Int) * (x * x) - 2 * x * su ix L + su sq L := by
  induction L with
  | nil => simp [difs, su]
  | cons y L ih =>
    rw [show difs x (y :: L) = (x - y) * (x - y) + difs x L from rfl, ih, show su sq (y :: L) = y * y + su sq L from rfl, show su ix (y :: L) = y + su ix L from rfl, show ((y :: L).length : Int) = (L.length : Int) + 1 by simp]
    grind
theorem vr_snoc (L : List Int) (x : Int) : vr (L ++ [x]) = vr L + difs x L := by
  rw [difs_eq]
  unfold vr
  rw [su_snoc, su_snoc, List.length_append, show ((L.length + [x].length : Nat) : Int) = (L.length : Int) + 1 by simp]
  unfold ix sq
  grind
theorem difs_in {L : List Int} (h : Sam L) {x : Int} (h1 : -1000 ≤ x) (h2 : x ≤ 1000) : 0 ≤ difs x L ∧ difs x L ≤ 4000000 * (L.length : Int) := by
  induction L with
  | nil => simp [difs]
  | cons y L ih =>
    have := ih (fun z hz => h z (by simp [hz]))
    have hy := h y (by simp)
    have a : 0 ≤ (x - y) * (x - y) := sq_nn _
    have b : 0 ≤ (2000 - (x - y)) * (2000 + (x - y)) := Int.mul_nonneg (by omega) (by omega)
    have e : (2000 - (x - y)) * (2000 + (x - y)) = 4000000 - (x - y) * (x - y) := by grind
    simp only [difs, List.length_cons]
    omega
/-- shifted lists -/
theorem su_shift (L : List Int) (b : Int) : su ix (L.map (· + b)) = su ix L + (L.length : Int) * b := by
  induction L with
  | nil => simp [su]
  | cons x L ih =>
    simp only [List.map_cons, su, ih, ix, List.length_cons]
    rw [show ((L.length + 1 : Nat) : Int) = (L.length : Int) + 1 by omega]; grind
theorem sq_shift (L : List Int) (b : Int) : su sq (L.map (· + b)) = su sq L + 2 * b * su ix L + (L.length : Int) * (b * b) := by
  induction L with
  | nil => simp [su]
  | cons x L ih =>
    rw [List.map_cons, show su sq ((x + b) :: L.map (· + b)) = (x + b) * (x + b) + su sq (L.map (· + b)) from rfl, ih, show su sq (x :: L) = x * x + su sq L from rfl, show su ix (x :: L) = x + su ix L from rfl,
      show ((x :: L).length : Int) = (L.length : Int) + 1 by simp]
    grind
theorem vr_shift (L : List Int) (b : Int) : vr (L.map (· + b)) = vr L := by
  unfold vr
  rw [sq_shift, su_shift, List.length_map]
  grind
theorem mul_le2 {n : Int} {a c : Int} (h0 : 0 ≤ n) (h : n ≤ a) (c0 : 0 ≤ c) : n * c ≤ a * c := Int.mul_le_mul_of_nonneg_right h c0
end Go.Proofs.YtnjojdmmalmhaaaGreatDoor.Wi
namespace Go.Proofs.YtnjojdmmalmhaaaGreatDoor.Sr
open Go.ChangeShapes Go.WideShapes Go.RowKit Wo Wi
set_option linter.unusedVariables false
/-- numbers as values -/
def zs (L : List Int) : List Value := L.map (Value.int .i64)
theorem zs_len (L : List Int) : (zs L).length = L.length := by simp [zs]
theorem zs_app (L M : List Int) : zs (L ++ M) = zs L ++ zs M := by simp [zs]
theorem zs_at {L : List Int} {j : Nat} (h : j < L.length) : (zs L)[j]? = some (.int .i64 (L.getD j 0)) := by simp [zs, List.getD_eq_getElem?_getD, h]
theorem info_int : (Tryz.prog.info? 3).map (fun i => (i.zero, i.size, i.bytes)) = some (some (.int .i64 0), 1, 8) := by kernel_rfl
theorem ok_grown {w w' : World} {g : Nat} {row : Option Nat} (h : Ok w g) (hg : w.grownBy w' row) (hr : ∀ b, row = some b → g < b) : Ok w' g := by
  obtain ⟨A, n, c, k, zs, h1, h2, h3, h4, h5⟩ := h
  refine ⟨A, n, c, k, zs, (hg.block g h1.lt (fun e => by have := hr _ e.symm; omega)).trans h1, h2, h3, h4, fun hn => ?_⟩
  obtain ⟨x, e, hx, hc⟩ := h5 hn
  exact ⟨x, e, hx, fun i hi => World.grownBy.cell hg (hc i hi) (fun e => by have := hr _ e.symm; rw [add_block] at this; omega)⟩
theorem ch_grown {a b c : World} {g : Nat} {row : Option Nat} (h : Ch g a b) (hg : b.grownBy c row) (hr : ∀ q, row = some q → a.heap.size ≤ q) : Ch g a c :=
  ⟨hg.os.trans h.os, hg.tape.trans h.tape, hg.output.trans h.output, Nat.le_trans h.size hg.size, fun i hi hn => (hg.block i (Nat.lt_of_lt_of_le hi h.size) (fun e => by have := hr _ e.symm; omega)).trans (h.block i hi hn)⟩
theorem sam_snoc {L : List Int} (h : Sam L) {y : Int} (h1 : -1000 ≤ y) (h2 : y ≤ 1000) : Sam (L ++ [y]) := by
  intro p hp
  rcases List.mem_append.1 hp with h' | h'
  · exact h p h'
  · simp at h'; subst h'; exact ⟨h1, h2⟩
/-- k samples have been appended -/
def LI (n : Int) (g base : Nat) (w : World) (s7 s8 s9 : Value) (wr : World) : Prop := ∃ (k : Nat) (L : List Int) (x : Int) (V : World) (u : Value), V = wr ∧ u = s8 ∧ (k : Int) ≤ n ∧ s9 = .int .i64 (k : Int) ∧ s7 = .int .i64 x ∧ (-1000 ≤ x ∧ x ≤ 1000) ∧
  wr.ownsRow base 3 1 s8 k (zs L) ∧ L.length = k ∧ Sam L ∧ Ok wr g ∧ Ch g w wr ∧ base ≤ wr.heap.size
theorem li_step {n : Int} {g k h cap : Nat} {w wr w1 w2 : World} {s8 : Value} {L : List Int} {x y : Int} (hgb : g < w.heap.size) (hk : (k : Int) < n) (hL : L.length = k) (hv : Sam L) (hy0 : -1000 ≤ y) (hy1 : y ≤ 1000)
    (hown : wr.ownsRow w.heap.size 3 1 s8 k (zs L)) (hx : -1000 ≤ x ∧ x ≤ 1000) (ho1 : Ok w1 g) (hc1 : Ch g wr w1) (hb : Ch g w wr) (hbase : w.heap.size ≤ wr.heap.size)
    (hown2 : w2.ownsRow w.heap.size 3 1 (.slice (some ⟨h, 0, none⟩) (k + 1) cap) (k + 1) (zs L ++ [.int .i64 y])) (hgr : (w1.alloc (.cells #[.int .i64 y] 3)).grownBy w2 s8.ownBlock) :
    LI n g w.heap.size w (.int .i64 x) (.slice (some ⟨h, 0, none⟩) (k + 1) cap) (.int .i64 ((k : Int) + 1)) w2 := by
  have hrow : ∀ b, s8.ownBlock = some b → w.heap.size ≤ b := fun b e => (hown.lt b e).1
  refine ⟨k + 1, L ++ [y], x, _, _, rfl, rfl, by omega, by congr 1, rfl, hx, by rw [zs_app]; exact hown2, by simp [hL], sam_snoc hv hy0 hy1, ?_, ?_, ?_⟩
  · exact ok_grown (ho1.bel (Bel.rf.al _)) hgr (fun b e => by have := hrow b e; omega)
  · exact ch_grown ((hb.tr hc1).al _) hgr hrow
  · have := hgr.size
    have := hc1.sz
    simp at *
    omega
theorem clip_any (n : Int) (h0 : -4000 ≤ n) (h1 : n ≤ 4000) (w : World) : Calls Tryz.prog 39 #[.int .i64 n] w fun e w' => (∃ y, e = .returned (.int .i64 y) ∧ -1000 ≤ y ∧ y ≤ 1000) ∧ w = w' := by
  rcases Int.lt_trichotomy n (-1000) with h | rfl | h
  · go_enter Tryz.func39, Tryz.ntmps39
    go_wp2
    go_ret
    exact ⟨⟨_, rfl, by omega, by omega⟩, rfl⟩
  · go_enter Tryz.func39, Tryz.ntmps39
    go_wp2
    go_ret
    exact ⟨⟨_, rfl, by omega, by omega⟩, rfl⟩
  · rcases Int.lt_trichotomy n 1000 with h' | rfl | h'
    all_goals
      go_enter Tryz.func39, Tryz.ntmps39
      go_wp2
      go_ret
      exact ⟨⟨_, rfl, by omega, by omega⟩, rfl⟩
def SomeList (g n : Nat) (w : World) (e : Ending) (w' : World) : Prop := ∃ (v : Value) (L : List Int), e = .returned v ∧ w'.ownsRow w.heap.size 3 1 v n (zs L) ∧ L.length = n ∧ Sam L ∧ Ok w' g ∧ Ch g w w'
set_option maxHeartbeats 16000000 in
set_option maxRecDepth 100000 in
theorem list_any (g n0 : Nat) (hn : n0 ≤ 1000) (w : World) (h : Ok w g) :
    Calls Tryz.prog 22 #[.pointer (some ⟨g, 0, none⟩), .int .i64 (n0 : Int)] w (SomeList g n0 w) := by
  obtain ⟨i0, hi0, hz0, hz1, hz2⟩ := info_parts info_int
  have HI := Lib.hid (And.intro hi0 (And.intro hz0 (And.intro hz1 hz2)))
  clear hi0 hz0 hz1 hz2
  obtain ⟨n, hnn⟩ : ∃ n, (n0 : Int) = n := ⟨_, rfl⟩
  have n1 : 0 ≤ n := by omega
  have n2 : n ≤ 1000 := by omega
  rw [hnn]
  have HNN := Lib.hid hnn
  have HGB := Lib.hid h.lt
  have HO0 := Lib.hid h
  clear h hnn hn
  go_enter Tryz.func22, Tryz.ntmps22
  go_wp2_with fail
  go_at_call 23
  refine (n_any g 6 (by decide) (by decide) _ HO0.out).mono ?_
  rintro e w1 ⟨kd, rfl, kd0, kd1, ho, hc⟩
  have HO1 := Lib.hid ho
  have HC1 := Lib.hid hc
  clear ho hc
  go_wp2_with fail
  go_at_call 20
  refine (pick_any g w1.heap.size [1, 3, 10, 100, 1000] 5 (by rfl) (by decide) (by decide) (by have := HGB.out; have := HC1.out.sz; omega) _ (HO1.out.bel (Bel.rf.al _)) (lst_new _ _ _ _ (by rfl) _ rfl)).mono ?_
  rintro e w2 ⟨sz, rfl, hsz, ho, hc⟩
  have hs1 : 1 ≤ sz ∧ sz ≤ 1000 := by simp at hsz; omega
  obtain ⟨sz0, sz1⟩ := hs1
  have HO2 := Lib.hid ho
  have HC2 : Hid (Ch g w w2) := (HC1.out.al _).tr hc
  clear ho hc hsz
  go_wp2_with fail
  go_at_call 23
  refine (n_any g 3 (by decide) (by decide) _ HO2.out).mono ?_
  rintro e w3 ⟨b, rfl, bd0, bd1, ho, hc⟩
  have HO3 := Lib.hid ho
  have HC3 : Hid (Ch g w w3) := HC2.out.tr hc
  clear ho hc
  have HB : (∃ x, -1000 ≤ x ∧ x ≤ 1000) := ⟨0, by decide, by decide⟩
  rcases (show b = 0 ∨ b ≠ 0 by omega) with rfl | hb
  · go_wp2_with fail
    go_at_call 21
    refine (range_any g (-1000) 1000 (by decide) (by decide) (by decide) _ HO3.out).mono ?_
    rintro e w4 ⟨x0, rfl, x00, x01, ho, hc⟩
    have HO4 := Lib.hid ho
    have HC4 : Hid (Ch g w w4) := HC3.out.tr hc
    clear ho hc
    go_wp2
    have HR0 : Hid (LI n g w.heap.size w (.int .i64 x0) (.slice none 0 0) (.int .i64 0) w4) :=
      ⟨0, [], x0, _, _, rfl, rfl, by omega, rfl, rfl, ⟨x00, x01⟩, World.ownsRow_nil _ _ _ _, rfl, by simp [Sam], HO4.out, HC4.out, HC4.out.sz⟩
    go_loopw [7, 8, 9] (fun s7 s8 s9 wr => LI n g w.heap.size w s7 s8 s9 wr) (fun _ _ s9 _ => n.toNat - (intOf s9).toNat)
    case atStart => exact HR0.out
    case round =>
      clear HR0
      obtain ⟨k, L, x, wr, u8, hwr, hu8, hk, rfl, rfl, hx, hown, hL, hv, hog, hcw, hbase⟩ := hrel
      subst hwr hu8
      have HO := Lib.hid hown
      have HL := Lib.hid hL
      have HV := Lib.hid hv
      have HG := Lib.hid hog
      have HCW := Lib.hid hcw
      have HX := Lib.hid hx
      obtain ⟨x0', x1'⟩ := hx
      clear hown hL hv hog hcw
      rcases Int.lt_or_le (k : Int) n with hki | hneg
      · rcases (show (kd = 0 ∨ kd = 1) ∨ (kd = 2 ∨ kd = 3) ∨ kd = 4 ∨ kd = 5 by omega) with (rfl | rfl) | (rfl | rfl) | rfl | rfl
        · skip
          go_wp2_with fail
          go_at_call 21
          refine (range_any g (-sz) sz (by omega) (by omega) (by omega) _ HG.out).mono ?_
          rintro e w6 ⟨y, rfl, y0, y1, ho, hc⟩
          have HOK := Lib.hid ho
          have HCK : Hid (Ch g wr w6) := hc
          clear ho hc
          have hown1 := HO.out.kept (HCK.out) (by
            rcases hob : u8.ownBlock with _ | q
            · exact .inl rfl
            · exact .inr (fun e => by injection e with e; have := (HO.out.lt q hob).1; have := HGB.out; omega))
          have hsz := Ch.sz (HCK.out)
          have hgb := HGB.out
          have HOW := Lib.hid hown1
          clear hown1
          go_wp2_with (at_builtin; refine wpList_append_lies _ (by rfl) _ _ 22 (by rfl) w.heap.size 3 i0 _ 1 8 Tryz.underlying22 HI.out.1 HI.out.2.1 HI.out.2.2.1 HI.out.2.2.2 (by rfl) (by omega) u8 k (zs L) (by rfl) (HOW.out.alloc _) ⟨w6.heap.size, 0, none⟩ 1 1 [.int .i64 (y)] (by rfl) (by rfl) (World.news_of_block (cs := #[.int .i64 (y)]) (t := 3) (fr := (0, 0)) (heap_alloc_new w6 _)) (by simp [Value.oneCell']) (by omega) (by unfold maxLen; omega) (by omega) (by simp; omega) (w6.heap.size + 1) (by simp) ?_; intro h cap w5 hown4 hgrow hat hlt4)
          have hstep := li_step (n := n) (y := y) hgb hki HL.out HV.out (by omega) (by omega) HO.out HX.out (HOK.out) (HCK.out) HCW.out hbase hown4 hgrow
          have HST := Lib.hid hstep
          clear hstep hown4 hgrow hat
          go_wp2
          go_roundw
          case rel => exact HST.out
          case measure => simp [intOf]; omega
        · skip
          go_wp2_with fail
          go_at_call 21
          refine (range_any g (-sz) sz (by omega) (by omega) (by omega) _ HG.out).mono ?_
          rintro e w6 ⟨y, rfl, y0, y1, ho, hc⟩
          have HOK := Lib.hid ho
          have HCK : Hid (Ch g wr w6) := hc
          clear ho hc
          have hown1 := HO.out.kept (HCK.out) (by
            rcases hob : u8.ownBlock with _ | q
            · exact .inl rfl
            · exact .inr (fun e => by injection e with e; have := (HO.out.lt q hob).1; have := HGB.out; omega))
          have hsz := Ch.sz (HCK.out)
          have hgb := HGB.out
          have HOW := Lib.hid hown1
          clear hown1
          go_wp2_with (at_builtin; refine wpList_append_lies _ (by rfl) _ _ 22 (by rfl) w.heap.size 3 i0 _ 1 8 Tryz.underlying22 HI.out.1 HI.out.2.1 HI.out.2.2.1 HI.out.2.2.2 (by rfl) (by omega) u8 k (zs L) (by rfl) (HOW.out.alloc _) ⟨w6.heap.size, 0, none⟩ 1 1 [.int .i64 (y)] (by rfl) (by rfl) (World.news_of_block (cs := #[.int .i64 (y)]) (t := 3) (fr := (0, 0)) (heap_alloc_new w6 _)) (by simp [Value.oneCell']) (by omega) (by unfold maxLen; omega) (by omega) (by simp; omega) (w6.heap.size + 1) (by simp) ?_; intro h cap w5 hown4 hgrow hat hlt4)
          have hstep := li_step (n := n) (y := y) hgb hki HL.out HV.out (by omega) (by omega) HO.out HX.out (HOK.out) (HCK.out) HCW.out hbase hown4 hgrow
          have HST := Lib.hid hstep
          clear hstep hown4 hgrow hat
          go_wp2
          go_roundw
          case rel => exact HST.out
          case measure => simp [intOf]; omega
        · skip
          go_wp2_with fail
          go_at_call 21
          refine (range_any g (-sz) sz (by omega) (by omega) (by omega) _ HG.out).mono ?_
          rintro e w6 ⟨y, rfl, y0, y1, ho, hc⟩
          have HOK := Lib.hid ho
          have HCK : Hid (Ch g wr w6) := hc
          clear ho hc
          go_wp2_with fail
          go_at_call 39
          refine (clip_any (x + y) (by omega) (by omega) _).mono ?_
          rintro e w7 ⟨⟨z, rfl, z0, z1⟩, rfl⟩
          have HX := Lib.hid (And.intro z0 z1)
          have hown1 := HO.out.kept (HCK.out) (by
            rcases hob : u8.ownBlock with _ | q
            · exact .inl rfl
            · exact .inr (fun e => by injection e with e; have := (HO.out.lt q hob).1; have := HGB.out; omega))
          have hsz := Ch.sz (HCK.out)
          have hgb := HGB.out
          have HOW := Lib.hid hown1
          clear hown1
          go_wp2_with (at_builtin; refine wpList_append_lies _ (by rfl) _ _ 22 (by rfl) w.heap.size 3 i0 _ 1 8 Tryz.underlying22 HI.out.1 HI.out.2.1 HI.out.2.2.1 HI.out.2.2.2 (by rfl) (by omega) u8 k (zs L) (by rfl) (HOW.out.alloc _) ⟨w6.heap.size, 0, none⟩ 1 1 [.int .i64 (z)] (by rfl) (by rfl) (World.news_of_block (cs := #[.int .i64 (z)]) (t := 3) (fr := (0, 0)) (heap_alloc_new w6 _)) (by simp [Value.oneCell']) (by omega) (by unfold maxLen; omega) (by omega) (by simp; omega) (w6.heap.size + 1) (by simp) ?_; intro h cap w5 hown4 hgrow hat hlt4)
          have hstep := li_step (n := n) (y := z) hgb hki HL.out HV.out (by omega) (by omega) HO.out HX.out (HOK.out) (HCK.out) HCW.out hbase hown4 hgrow
          have HST := Lib.hid hstep
          clear hstep hown4 hgrow hat
          go_wp2
          go_roundw
          case rel => exact HST.out
          case measure => simp [intOf]; omega
        · skip
          go_wp2_with fail
          go_at_call 21
          refine (range_any g (-sz) sz (by omega) (by omega) (by omega) _ HG.out).mono ?_
          rintro e w6 ⟨y, rfl, y0, y1, ho, hc⟩
          have HOK := Lib.hid ho
          have HCK : Hid (Ch g wr w6) := hc
          clear ho hc
          go_wp2_with fail
          go_at_call 39
          refine (clip_any (x + y) (by omega) (by omega) _).mono ?_
          rintro e w7 ⟨⟨z, rfl, z0, z1⟩, rfl⟩
          have HX := Lib.hid (And.intro z0 z1)
          have hown1 := HO.out.kept (HCK.out) (by
            rcases hob : u8.ownBlock with _ | q
            · exact .inl rfl
            · exact .inr (fun e => by injection e with e; have := (HO.out.lt q hob).1; have := HGB.out; omega))
          have hsz := Ch.sz (HCK.out)
          have hgb := HGB.out
          have HOW := Lib.hid hown1
          clear hown1
          go_wp2_with (at_builtin; refine wpList_append_lies _ (by rfl) _ _ 22 (by rfl) w.heap.size 3 i0 _ 1 8 Tryz.underlying22 HI.out.1 HI.out.2.1 HI.out.2.2.1 HI.out.2.2.2 (by rfl) (by omega) u8 k (zs L) (by rfl) (HOW.out.alloc _) ⟨w6.heap.size, 0, none⟩ 1 1 [.int .i64 (z)] (by rfl) (by rfl) (World.news_of_block (cs := #[.int .i64 (z)]) (t := 3) (fr := (0, 0)) (heap_alloc_new w6 _)) (by simp [Value.oneCell']) (by omega) (by unfold maxLen; omega) (by omega) (by simp; omega) (w6.heap.size + 1) (by simp) ?_; intro h cap w5 hown4 hgrow hat hlt4)
          have hstep := li_step (n := n) (y := z) hgb hki HL.out HV.out (by omega) (by omega) HO.out HX.out (HOK.out) (HCK.out) HCW.out hbase hown4 hgrow
          have HST := Lib.hid hstep
          clear hstep hown4 hgrow hat
          go_wp2
          go_roundw
          case rel => exact HST.out
          case measure => simp [intOf]; omega
        · skip
          go_wp2_with fail
          go_at_call 23
          refine (n_any g 4 (by decide) (by decide) _ HG.out).mono ?_
          rintro e w6 ⟨b4, rfl, b40, b41, ho, hc⟩
          have HOK := Lib.hid ho
          have HCK := Lib.hid hc
          clear ho hc
          rcases (show b4 = 0 ∨ b4 ≠ 0 by omega) with rfl | hb4
          · skip
            go_wp2_with fail
            go_at_call 21
            refine (range_any g (-sz) sz (by omega) (by omega) (by omega) _ HOK.out).mono ?_
            rintro e w7 ⟨y, rfl, y0, y1, ho, hc⟩
            have HOK := Lib.hid ho
            have HCK : Hid (Ch g wr w7) := HCK.out.tr hc
            clear ho hc
            have HX : Hid (-1000 ≤ y ∧ y ≤ 1000) := ⟨by omega, by omega⟩
            have hown1 := HO.out.kept (HCK.out) (by
              rcases hob : u8.ownBlock with _ | q
              · exact .inl rfl
              · exact .inr (fun e => by injection e with e; have := (HO.out.lt q hob).1; have := HGB.out; omega))
            have hsz := Ch.sz (HCK.out)
            have hgb := HGB.out
            have HOW := Lib.hid hown1
            clear hown1
            go_wp2_with (at_builtin; refine wpList_append_lies _ (by rfl) _ _ 22 (by rfl) w.heap.size 3 i0 _ 1 8 Tryz.underlying22 HI.out.1 HI.out.2.1 HI.out.2.2.1 HI.out.2.2.2 (by rfl) (by omega) u8 k (zs L) (by rfl) (HOW.out.alloc _) ⟨w7.heap.size, 0, none⟩ 1 1 [.int .i64 (y)] (by rfl) (by rfl) (World.news_of_block (cs := #[.int .i64 (y)]) (t := 3) (fr := (0, 0)) (heap_alloc_new w7 _)) (by simp [Value.oneCell']) (by omega) (by unfold maxLen; omega) (by omega) (by simp; omega) (w7.heap.size + 1) (by simp) ?_; intro h cap w5 hown4 hgrow hat hlt4)
            have hstep := li_step (n := n) (y := y) hgb hki HL.out HV.out (by omega) (by omega) HO.out HX.out (HOK.out) (HCK.out) HCW.out hbase hown4 hgrow
            have HST := Lib.hid hstep
            clear hstep hown4 hgrow hat
            go_wp2
            go_roundw
            case rel => exact HST.out
            case measure => simp [intOf]; omega
          · skip
            have hown1 := HO.out.kept (HCK.out) (by
              rcases hob : u8.ownBlock with _ | q
              · exact .inl rfl
              · exact .inr (fun e => by injection e with e; have := (HO.out.lt q hob).1; have := HGB.out; omega))
            have hsz := Ch.sz (HCK.out)
            have hgb := HGB.out
            have HOW := Lib.hid hown1
            clear hown1
            go_wp2_with (at_builtin; refine wpList_append_lies _ (by rfl) _ _ 22 (by rfl) w.heap.size 3 i0 _ 1 8 Tryz.underlying22 HI.out.1 HI.out.2.1 HI.out.2.2.1 HI.out.2.2.2 (by rfl) (by omega) u8 k (zs L) (by rfl) (HOW.out.alloc _) ⟨w6.heap.size, 0, none⟩ 1 1 [.int .i64 (x)] (by rfl) (by rfl) (World.news_of_block (cs := #[.int .i64 (x)]) (t := 3) (fr := (0, 0)) (heap_alloc_new w6 _)) (by simp [Value.oneCell']) (by omega) (by unfold maxLen; omega) (by omega) (by simp; omega) (w6.heap.size + 1) (by simp) ?_; intro h cap w5 hown4 hgrow hat hlt4)
            have hstep := li_step (n := n) (y := x) hgb hki HL.out HV.out (by omega) (by omega) HO.out HX.out (HOK.out) (HCK.out) HCW.out hbase hown4 hgrow
            have HST := Lib.hid hstep
            clear hstep hown4 hgrow hat
            go_wp2
            go_roundw
            case rel => exact HST.out
            case measure => simp [intOf]; omega
        · skip
          go_wp2_with fail
          go_at_call 20
          refine (pick_any g wr.heap.size [-1000, 1000, 1000, 0] 4 (by rfl) (by decide) (by decide) (by have := HGB.out; have := HCW.out.sz; omega) _ (HG.out.bel (Bel.rf.al _)) (lst_new _ _ _ _ (by rfl) _ rfl)).mono ?_
          rintro e w6 ⟨y, rfl, hy, ho, hc⟩
          have hy1 : -1000 ≤ y ∧ y ≤ 1000 := by simp at hy; omega
          obtain ⟨y0, y1⟩ := hy1
          have HOK := Lib.hid ho
          have HCK : Hid (Ch g wr w6) := (Ch.rf.al _).tr hc
          clear ho hc hy
          have hown1 := HO.out.kept (HCK.out) (by
            rcases hob : u8.ownBlock with _ | q
            · exact .inl rfl
            · exact .inr (fun e => by injection e with e; have := (HO.out.lt q hob).1; have := HGB.out; omega))
          have hsz := Ch.sz (HCK.out)
          have hgb := HGB.out
          have HOW := Lib.hid hown1
          clear hown1
          go_wp2_with (at_builtin; refine wpList_append_lies _ (by rfl) _ _ 22 (by rfl) w.heap.size 3 i0 _ 1 8 Tryz.underlying22 HI.out.1 HI.out.2.1 HI.out.2.2.1 HI.out.2.2.2 (by rfl) (by omega) u8 k (zs L) (by rfl) (HOW.out.alloc _) ⟨w6.heap.size, 0, none⟩ 1 1 [.int .i64 (y)] (by rfl) (by rfl) (World.news_of_block (cs := #[.int .i64 (y)]) (t := 3) (fr := (0, 0)) (heap_alloc_new w6 _)) (by simp [Value.oneCell']) (by omega) (by unfold maxLen; omega) (by omega) (by simp; omega) (w6.heap.size + 1) (by simp) ?_; intro h cap w5 hown4 hgrow hat hlt4)
          have hstep := li_step (n := n) (y := y) hgb hki HL.out HV.out (by omega) (by omega) HO.out HX.out (HOK.out) (HCK.out) HCW.out hbase hown4 hgrow
          have HST := Lib.hid hstep
          clear hstep hown4 hgrow hat
          go_wp2
          go_roundw
          case rel => exact HST.out
          case measure => simp [intOf]; omega
      · obtain rfl : n = (k : Int) := by omega
        have hnk : n0 = k := by have := HNN.out; omega
        subst hnk
        go_wp2
        go_ret
        exact ⟨_, L, rfl, HO.out, HL.out, HV.out, HG.out, HCW.out⟩
  · have bz : (b == 0) = false := by simpa using hb
    go_wp2
    have HR0 : Hid (LI n g w.heap.size w (.int .i64 0) (.slice none 0 0) (.int .i64 0) w3) :=
      ⟨0, [], 0, _, _, rfl, rfl, by omega, rfl, rfl, ⟨by decide, by decide⟩, World.ownsRow_nil _ _ _ _, rfl, by simp [Sam], HO3.out, HC3.out, HC3.out.sz⟩
    go_loopw [7, 8, 9] (fun s7 s8 s9 wr => LI n g w.heap.size w s7 s8 s9 wr) (fun _ _ s9 _ => n.toNat - (intOf s9).toNat)
    case atStart => exact HR0.out
    case round =>
      clear HR0
      obtain ⟨k, L, x, wr, u8, hwr, hu8, hk, rfl, rfl, hx, hown, hL, hv, hog, hcw, hbase⟩ := hrel
      subst hwr hu8
      have HO := Lib.hid hown
      have HL := Lib.hid hL
      have HV := Lib.hid hv
      have HG := Lib.hid hog
      have HCW := Lib.hid hcw
      have HX := Lib.hid hx
      obtain ⟨x0', x1'⟩ := hx
      clear hown hL hv hog hcw
      rcases Int.lt_or_le (k : Int) n with hki | hneg
      · rcases (show (kd = 0 ∨ kd = 1) ∨ (kd = 2 ∨ kd = 3) ∨ kd = 4 ∨ kd = 5 by omega) with (rfl | rfl) | (rfl | rfl) | rfl | rfl
        · skip
          go_wp2_with fail
          go_at_call 21
          refine (range_any g (-sz) sz (by omega) (by omega) (by omega) _ HG.out).mono ?_
          rintro e w6 ⟨y, rfl, y0, y1, ho, hc⟩
          have HOK := Lib.hid ho
          have HCK : Hid (Ch g wr w6) := hc
          clear ho hc
          have hown1 := HO.out.kept (HCK.out) (by
            rcases hob : u8.ownBlock with _ | q
            · exact .inl rfl
            · exact .inr (fun e => by injection e with e; have := (HO.out.lt q hob).1; have := HGB.out; omega))
          have hsz := Ch.sz (HCK.out)
          have hgb := HGB.out
          have HOW := Lib.hid hown1
          clear hown1
          go_wp2_with (at_builtin; refine wpList_append_lies _ (by rfl) _ _ 22 (by rfl) w.heap.size 3 i0 _ 1 8 Tryz.underlying22 HI.out.1 HI.out.2.1 HI.out.2.2.1 HI.out.2.2.2 (by rfl) (by omega) u8 k (zs L) (by rfl) (HOW.out.alloc _) ⟨w6.heap.size, 0, none⟩ 1 1 [.int .i64 (y)] (by rfl) (by rfl) (World.news_of_block (cs := #[.int .i64 (y)]) (t := 3) (fr := (0, 0)) (heap_alloc_new w6 _)) (by simp [Value.oneCell']) (by omega) (by unfold maxLen; omega) (by omega) (by simp; omega) (w6.heap.size + 1) (by simp) ?_; intro h cap w5 hown4 hgrow hat hlt4)
          have hstep := li_step (n := n) (y := y) hgb hki HL.out HV.out (by omega) (by omega) HO.out HX.out (HOK.out) (HCK.out) HCW.out hbase hown4 hgrow
          have HST := Lib.hid hstep
          clear hstep hown4 hgrow hat
          go_wp2
          go_roundw
          case rel => exact HST.out
          case measure => simp [intOf]; omega
        · skip
          go_wp2_with fail
          go_at_call 21
          refine (range_any g (-sz) sz (by omega) (by omega) (by omega) _ HG.out).mono ?_
          rintro e w6 ⟨y, rfl, y0, y1, ho, hc⟩
          have HOK := Lib.hid ho
          have HCK : Hid (Ch g wr w6) := hc
          clear ho hc
          have hown1 := HO.out.kept (HCK.out) (by
            rcases hob : u8.ownBlock with _ | q
            · exact .inl rfl
            · exact .inr (fun e => by injection e with e; have := (HO.out.lt q hob).1; have := HGB.out; omega))
          have hsz := Ch.sz (HCK.out)
          have hgb := HGB.out
          have HOW := Lib.hid hown1
          clear hown1
          go_wp2_with (at_builtin; refine wpList_append_lies _ (by rfl) _ _ 22 (by rfl) w.heap.size 3 i0 _ 1 8 Tryz.underlying22 HI.out.1 HI.out.2.1 HI.out.2.2.1 HI.out.2.2.2 (by rfl) (by omega) u8 k (zs L) (by rfl) (HOW.out.alloc _) ⟨w6.heap.size, 0, none⟩ 1 1 [.int .i64 (y)] (by rfl) (by rfl) (World.news_of_block (cs := #[.int .i64 (y)]) (t := 3) (fr := (0, 0)) (heap_alloc_new w6 _)) (by simp [Value.oneCell']) (by omega) (by unfold maxLen; omega) (by omega) (by simp; omega) (w6.heap.size + 1) (by simp) ?_; intro h cap w5 hown4 hgrow hat hlt4)
          have hstep := li_step (n := n) (y := y) hgb hki HL.out HV.out (by omega) (by omega) HO.out HX.out (HOK.out) (HCK.out) HCW.out hbase hown4 hgrow
          have HST := Lib.hid hstep
          clear hstep hown4 hgrow hat
          go_wp2
          go_roundw
          case rel => exact HST.out
          case measure => simp [intOf]; omega
        · skip
          go_wp2_with fail
          go_at_call 21
          refine (range_any g (-sz) sz (by omega) (by omega) (by omega) _ HG.out).mono ?_
          rintro e w6 ⟨y, rfl, y0, y1, ho, hc⟩
          have HOK := Lib.hid ho
          have HCK : Hid (Ch g wr w6) := hc
          clear ho hc
          go_wp2_with fail
          go_at_call 39
          refine (clip_any (x + y) (by omega) (by omega) _).mono ?_
          rintro e w7 ⟨⟨z, rfl, z0, z1⟩, rfl⟩
          have HX := Lib.hid (And.intro z0 z1)
          have hown1 := HO.out.kept (HCK.out) (by
            rcases hob : u8.ownBlock with _ | q
            · exact .inl rfl
            · exact .inr (fun e => by injection e with e; have := (HO.out.lt q hob).1; have := HGB.out; omega))
          have hsz := Ch.sz (HCK.out)
          have hgb := HGB.out
          have HOW := Lib.hid hown1
          clear hown1
          go_wp2_with (at_builtin; refine wpList_append_lies _ (by rfl) _ _ 22 (by rfl) w.heap.size 3 i0 _ 1 8 Tryz.underlying22 HI.out.1 HI.out.2.1 HI.out.2.2.1 HI.out.2.2.2 (by rfl) (by omega) u8 k (zs L) (by rfl) (HOW.out.alloc _) ⟨w6.heap.size, 0, none⟩ 1 1 [.int .i64 (z)] (by rfl) (by rfl) (World.news_of_block (cs := #[.int .i64 (z)]) (t := 3) (fr := (0, 0)) (heap_alloc_new w6 _)) (by simp [Value.oneCell']) (by omega) (by unfold maxLen; omega) (by omega) (by simp; omega) (w6.heap.size + 1) (by simp) ?_; intro h cap w5 hown4 hgrow hat hlt4)
          have hstep := li_step (n := n) (y := z) hgb hki HL.out HV.out (by omega) (by omega) HO.out HX.out (HOK.out) (HCK.out) HCW.out hbase hown4 hgrow
          have HST := Lib.hid hstep
          clear hstep hown4 hgrow hat
          go_wp2
          go_roundw
          case rel => exact HST.out
          case measure => simp [intOf]; omega
        · skip
          go_wp2_with fail
          go_at_call 21
          refine (range_any g (-sz) sz (by omega) (by omega) (by omega) _ HG.out).mono ?_
          rintro e w6 ⟨y, rfl, y0, y1, ho, hc⟩
          have HOK := Lib.hid ho
          have HCK : Hid (Ch g wr w6) := hc
          clear ho hc
          go_wp2_with fail
          go_at_call 39
          refine (clip_any (x + y) (by omega) (by omega) _).mono ?_
          rintro e w7 ⟨⟨z, rfl, z0, z1⟩, rfl⟩
          have HX := Lib.hid (And.intro z0 z1)
          have hown1 := HO.out.kept (HCK.out) (by
            rcases hob : u8.ownBlock with _ | q
            · exact .inl rfl
            · exact .inr (fun e => by injection e with e; have := (HO.out.lt q hob).1; have := HGB.out; omega))
          have hsz := Ch.sz (HCK.out)
          have hgb := HGB.out
          have HOW := Lib.hid hown1
          clear hown1
          go_wp2_with (at_builtin; refine wpList_append_lies _ (by rfl) _ _ 22 (by rfl) w.heap.size 3 i0 _ 1 8 Tryz.underlying22 HI.out.1 HI.out.2.1 HI.out.2.2.1 HI.out.2.2.2 (by rfl) (by omega) u8 k (zs L) (by rfl) (HOW.out.alloc _) ⟨w6.heap.size, 0, none⟩ 1 1 [.int .i64 (z)] (by rfl) (by rfl) (World.news_of_block (cs := #[.int .i64 (z)]) (t := 3) (fr := (0, 0)) (heap_alloc_new w6 _)) (by simp [Value.oneCell']) (by omega) (by unfold maxLen; omega) (by omega) (by simp; omega) (w6.heap.size + 1) (by simp) ?_; intro h cap w5 hown4 hgrow hat hlt4)
          have hstep := li_step (n := n) (y := z) hgb hki HL.out HV.out (by omega) (by omega) HO.out HX.out (HOK.out) (HCK.out) HCW.out hbase hown4 hgrow
          have HST := Lib.hid hstep
          clear hstep hown4 hgrow hat
          go_wp2
          go_roundw
          case rel => exact HST.out
          case measure => simp [intOf]; omega
        · skip
          go_wp2_with fail
          go_at_call 23
          refine (n_any g 4 (by decide) (by decide) _ HG.out).mono ?_
          rintro e w6 ⟨b4, rfl, b40, b41, ho, hc⟩
          have HOK := Lib.hid ho
          have HCK := Lib.hid hc
          clear ho hc
          rcases (show b4 = 0 ∨ b4 ≠ 0 by omega) with rfl | hb4
          · skip
            go_wp2_with fail
            go_at_call 21
            refine (range_any g (-sz) sz (by omega) (by omega) (by omega) _ HOK.out).mono ?_
            rintro e w7 ⟨y, rfl, y0, y1, ho, hc⟩
            have HOK := Lib.hid ho
            have HCK : Hid (Ch g wr w7) := HCK.out.tr hc
            clear ho hc
            have HX : Hid (-1000 ≤ y ∧ y ≤ 1000) := ⟨by omega, by omega⟩
            have hown1 := HO.out.kept (HCK.out) (by
              rcases hob : u8.ownBlock with _ | q
              · exact .inl rfl
              · exact .inr (fun e => by injection e with e; have := (HO.out.lt q hob).1; have := HGB.out; omega))
            have hsz := Ch.sz (HCK.out)
            have hgb := HGB.out
            have HOW := Lib.hid hown1
            clear hown1
            go_wp2_with (at_builtin; refine wpList_append_lies _ (by rfl) _ _ 22 (by rfl) w.heap.size 3 i0 _ 1 8 Tryz.underlying22 HI.out.1 HI.out.2.1 HI.out.2.2.1 HI.out.2.2.2 (by rfl) (by omega) u8 k (zs L) (by rfl) (HOW.out.alloc _) ⟨w7.heap.size, 0, none⟩ 1 1 [.int .i64 (y)] (by rfl) (by rfl) (World.news_of_block (cs := #[.int .i64 (y)]) (t := 3) (fr := (0, 0)) (heap_alloc_new w7 _)) (by simp [Value.oneCell']) (by omega) (by unfold maxLen; omega) (by omega) (by simp; omega) (w7.heap.size + 1) (by simp) ?_; intro h cap w5 hown4 hgrow hat hlt4)
            have hstep := li_step (n := n) (y := y) hgb hki HL.out HV.out (by omega) (by omega) HO.out HX.out (HOK.out) (HCK.out) HCW.out hbase hown4 hgrow
            have HST := Lib.hid hstep
            clear hstep hown4 hgrow hat
            go_wp2
            go_roundw
            case rel => exact HST.out
            case measure => simp [intOf]; omega
          · skip
            have hown1 := HO.out.kept (HCK.out) (by
              rcases hob : u8.ownBlock with _ | q
              · exact .inl rfl
              · exact .inr (fun e => by injection e with e; have := (HO.out.lt q hob).1; have := HGB.out; omega))
            have hsz := Ch.sz (HCK.out)
            have hgb := HGB.out
            have HOW := Lib.hid hown1
            clear hown1
            go_wp2_with (at_builtin; refine wpList_append_lies _ (by rfl) _ _ 22 (by rfl) w.heap.size 3 i0 _ 1 8 Tryz.underlying22 HI.out.1 HI.out.2.1 HI.out.2.2.1 HI.out.2.2.2 (by rfl) (by omega) u8 k (zs L) (by rfl) (HOW.out.alloc _) ⟨w6.heap.size, 0, none⟩ 1 1 [.int .i64 (x)] (by rfl) (by rfl) (World.news_of_block (cs := #[.int .i64 (x)]) (t := 3) (fr := (0, 0)) (heap_alloc_new w6 _)) (by simp [Value.oneCell']) (by omega) (by unfold maxLen; omega) (by omega) (by simp; omega) (w6.heap.size + 1) (by simp) ?_; intro h cap w5 hown4 hgrow hat hlt4)
            have hstep := li_step (n := n) (y := x) hgb hki HL.out HV.out (by omega) (by omega) HO.out HX.out (HOK.out) (HCK.out) HCW.out hbase hown4 hgrow
            have HST := Lib.hid hstep
            clear hstep hown4 hgrow hat
            go_wp2
            go_roundw
            case rel => exact HST.out
            case measure => simp [intOf]; omega
        · skip
          go_wp2_with fail
          go_at_call 20
          refine (pick_any g wr.heap.size [-1000, 1000, 1000, 0] 4 (by rfl) (by decide) (by decide) (by have := HGB.out; have := HCW.out.sz; omega) _ (HG.out.bel (Bel.rf.al _)) (lst_new _ _ _ _ (by rfl) _ rfl)).mono ?_
          rintro e w6 ⟨y, rfl, hy, ho, hc⟩
          have hy1 : -1000 ≤ y ∧ y ≤ 1000 := by simp at hy; omega
          obtain ⟨y0, y1⟩ := hy1
          have HOK := Lib.hid ho
          have HCK : Hid (Ch g wr w6) := (Ch.rf.al _).tr hc
          clear ho hc hy
          have hown1 := HO.out.kept (HCK.out) (by
            rcases hob : u8.ownBlock with _ | q
            · exact .inl rfl
            · exact .inr (fun e => by injection e with e; have := (HO.out.lt q hob).1; have := HGB.out; omega))
          have hsz := Ch.sz (HCK.out)
          have hgb := HGB.out
          have HOW := Lib.hid hown1
          clear hown1
          go_wp2_with (at_builtin; refine wpList_append_lies _ (by rfl) _ _ 22 (by rfl) w.heap.size 3 i0 _ 1 8 Tryz.underlying22 HI.out.1 HI.out.2.1 HI.out.2.2.1 HI.out.2.2.2 (by rfl) (by omega) u8 k (zs L) (by rfl) (HOW.out.alloc _) ⟨w6.heap.size, 0, none⟩ 1 1 [.int .i64 (y)] (by rfl) (by rfl) (World.news_of_block (cs := #[.int .i64 (y)]) (t := 3) (fr := (0, 0)) (heap_alloc_new w6 _)) (by simp [Value.oneCell']) (by omega) (by unfold maxLen; omega) (by omega) (by simp; omega) (w6.heap.size + 1) (by simp) ?_; intro h cap w5 hown4 hgrow hat hlt4)
          have hstep := li_step (n := n) (y := y) hgb hki HL.out HV.out (by omega) (by omega) HO.out HX.out (HOK.out) (HCK.out) HCW.out hbase hown4 hgrow
          have HST := Lib.hid hstep
          clear hstep hown4 hgrow hat
          go_wp2
          go_roundw
          case rel => exact HST.out
          case measure => simp [intOf]; omega
      · obtain rfl : n = (k : Int) := by omega
        have hnk : n0 = k := by have := HNN.out; omega
        subst hnk
        go_wp2
        go_ret
        exact ⟨_, L, rfl, HO.out, HL.out, HV.out, HG.out, HCW.out⟩
end Go.Proofs.YtnjojdmmalmhaaaGreatDoor.Sr
namespace Go.Proofs.YtnjojdmmalmhaaaGreatDoor.Wi
open Go.ChangeShapes Go.WideShapes Go.RowKit Wo Sr
set_option linter.unusedVariables false
/-- a slice that reads as these numbers -/
def Zi (w : World) (A : Option Addr) (n : Nat) (L : List Int) : Prop := L.length = n ∧ (0 < n → ∃ ad : Addr, A = some ad ∧ ad.block < w.heap.size ∧ ∀ j, j < n → w.cell? (ad.add j) = some (.int .i64 (L.getD j 0)))
theorem Zi.bel {w w' : World} {A : Option Addr} {n : Nat} {L : List Int} (h : Zi w A n L) (hb : Bel w w') : Zi w' A n L :=
  ⟨h.1, fun hn => by
    obtain ⟨ad, e, hx, hc⟩ := h.2 hn
    exact ⟨ad, e, by have := hb.size; omega, fun j hj => hb.kp (hc j hj)⟩⟩
theorem row_zi {w : World} {base k : Nat} {v : Value} {L : List Int} (h : w.ownsRow base 3 1 v k (zs L)) (hk : L.length = k) : ∃ A c, v = .slice A k c ∧ Zi w A k L ∧ (A = none → c = 0) := by
  rcases Nat.eq_zero_or_pos k with h0 | h0
  · subst h0
    have hL : L = [] := List.eq_nil_of_length_eq_zero hk
    subst hL
    rcases h.2 with ⟨rfl, _⟩ | ⟨g, cap, cur, rfl, _⟩
    · exact ⟨none, 0, rfl, ⟨rfl, fun h => by omega⟩, fun _ => rfl⟩
    · exact ⟨some ⟨g, 0, none⟩, cap, rfl, ⟨rfl, fun h => by omega⟩, fun h => by cases h⟩
  · obtain ⟨g, cap, rfl, hb, hlt⟩ := h.form h0
    refine ⟨some ⟨g, 0, none⟩, cap, rfl, ⟨hk, fun _ => ⟨_, rfl, hlt, fun j hj => ?_⟩⟩, fun h => by cases h⟩
    exact h.cells (g := g) rfl j _ (zs_at (by omega))
theorem own_zi {w : World} {base k h c : Nat} {L : List Int} (hr : w.ownsRow base 3 1 (.slice (some ⟨h, 0, none⟩) k c) k (zs L)) (hk : L.length = k) : Zi w (some ⟨h, 0, none⟩) k L := by
  obtain ⟨A, c', e, hz, _⟩ := row_zi hr hk
  injection e with e1 e2 e3
  subst e1
  exact hz
theorem sample_ok (n : Int) (h0 : -1000 ≤ n) (h1 : n ≤ 1000) (w : World) : Calls Tryz.prog 68 #[.int .i64 n] w fun e w' => e = .returned (.bool true) ∧ w = w' := by
  go_enter Tryz.func68, Tryz.ntmps68
  go_wp2
  go_ret
  exact ⟨rfl, rfl⟩
set_option maxHeartbeats 4000000 in
theorem samples_ok (A : Option Addr) (c n : Nat) (L : List Int) (hn : n ≤ 1000000) (hs : Sam L) (w : World) (h : Zi w A n L) :
    Calls Tryz.prog 45 #[.slice A n c] w fun e w' => e = .returned (.bool true) ∧ Bel w w' := by
  have H1 := Lib.hid h
  have HS := Lib.hid hs
  have ni : (n : Int) ≤ 1000000 := by omega
  clear h hs
  go_enter Tryz.func45, Tryz.ntmps45
  go_wp2
  go_loopw [7] (fun s7 wr => ∃ (k : Nat) (V : World), V = wr ∧ k ≤ n ∧ s7 = .int .i64 (k : Int) ∧ Bel w wr) (fun s7 _ => n - (intOf s7).toNat)
  case atStart => exact ⟨0, _, rfl, by omega, rfl, Bel.rf⟩
  case round =>
    obtain ⟨k, wr, hwr, hk, rfl, hb⟩ := hrel
    subst hwr
    have HB := Lib.hid hb
    rcases Nat.lt_or_ge k n with hlt | hge
    · obtain ⟨ad, rfl, hab, hac⟩ := (H1.out.bel hb).2 (by omega)
      have c1 := hac k hlt
      have hx := HS.out.at k
      obtain ⟨x, hxe⟩ : ∃ x, L.getD k 0 = x := ⟨_, rfl⟩
      rw [hxe] at c1 hx
      obtain ⟨x0, x1⟩ := hx
      have ki : (k : Int) < (n : Int) := by omega
      clear hb hac hab hxe
      go_wp2_with (go_at_call 68; refine (sample_ok x x0 x1 _).mono ?_; rintro e w' ⟨rfl, rfl⟩)
      go_roundw
      case rel => exact ⟨k + 1, _, rfl, by omega, by go_num, by first | exact HB.out | exact HB.out.drwN _ | exact HB.out.drw⟩
      case measure => simp [intOf]; omega
    · obtain rfl : k = n := by omega
      clear hb
      go_wp2
      go_ret
      exact ⟨rfl, HB.out⟩
theorem made_i64 (n : Nat) : madeCells (Value.int .i64 0).cells (n * 1) = (zs (List.replicate n 0)).toArray := by
  apply Array.ext
  · simp [madeCells, zs]
  · intro i h1 h2
    simp [madeCells, zs, Nat.mod_one, Value.cells]
/-- 'make([]T, l, c)', the length and the capacity variables -/
theorem wpList_make_any {P : Program} (w : World) {ops : Array Oper} {rest : List Oper} {o : Oper} {a : Act} {Q : Exit → Act → World → Prop}
    (hg : o.guard = none) (l c : Operand) (t : TypeId) (hop : o.op = Op.makeSlice t l c)
    (e : TypeId) (i : TypeInfo) (z : Value) (size : Nat) (h1 : P.underlying t = some (.slice e)) (h2 : P.info? e = some i) (h3 : i.zero = some z) (h4 : i.size = size)
    (kl kc : IntKind) (L C : Int) (m n : Nat) (hl : a.eval l = .int kl L) (hc : a.eval c = .int kc C) (hL : L = (m : Int)) (hC : C = (n : Int)) (hmn : m ≤ n) (b2 : i.bytes * n ≤ 281474976710656) (b3 : n ≤ 4611686018427387904)
    (hK : wpList P ops Q rest (a.put o.dst (.slice (some ⟨w.heap.size, 0, none⟩) m n)) (w.alloc (.cells (madeCells z.cells (n * size)) e))) :
    wpList P ops Q (o :: rest) a w := by
  refine wpList_plain hg fun K hK' => ?_
  have hb' : (i.bytes : Int) * (n : Int) ≤ 281474976710656 := by
    have h : ((i.bytes * n : Nat) : Int) ≤ 281474976710656 := by omega
    rwa [Int.natCast_mul] at h
  have hr := run_make (P := P) w t e i z h1 h2 h3 kl kc m n (by omega) (by omega) hb' (by omega)
  simp only [Int.toNat_natCast] at hr
  subst hL
  subst hC
  subst h4
  unfold Oper.wp
  simp [execOp, hop, hl, hc, hr, Result.andThen]
  exact hK' _ _ hK
theorem add_row (h j : Nat) : (⟨h, 0, none⟩ : Addr).add j = ⟨h, j, none⟩ := by unfold Addr.add; split <;> simp_all
/-- the numbers at their cells -/
theorem Zi.at {w : World} {g n : Nat} {L : List Int} (h : Zi w (some ⟨g, 0, none⟩) n L) (j : Nat) (hj : j < n) : w.cell? ⟨g, j, none⟩ = some (.int .i64 (L.getD j 0)) := by
  obtain ⟨ad, e, _, hc⟩ := h.2 (by omega)
  cases e
  have := hc j hj
  rwa [add_row] at this
theorem zi_bk {w : World} {h : Nat} {t : TypeId} {L : List Int} (hb : Bk w h t (zs L).toArray) (n : Nat) (hn : L.length = n) : Zi w (some ⟨h, 0, none⟩) n L := by
  subst hn
  refine ⟨rfl, fun _ => ⟨_, rfl, hb.lt, fun j hj => ?_⟩⟩
  rw [add_row, hb.cell j]
  simpa using zs_at hj
/-- a store into a block that holds slices leaves the numbers as they are -/
theorem zi_st {w : World} {A : Option Addr} {n : Nat} {L : List Int} (h : Zi w A n L) {p : Addr} {a : Option Addr} {x y : Nat} (hp : w.cell? p = some (.slice a x y)) (u : Value) : Zi (w.setCell p u) A n L :=
  ⟨h.1, fun hn => by
    obtain ⟨ad, e, hx, hcc⟩ := h.2 hn
    refine ⟨ad, e, by simpa [World.setCell] using hx, fun j hj => ?_⟩
    have h1 := hcc j hj
    refine (World.cell?_setCell_other _ _ _ _ (fun e => ?_)).trans h1
    rw [e] at hp
    rw [hp] at h1
    cases h1⟩
theorem row_form {w : World} {base n : Nat} {v : Value} {L : List Int} (h : w.ownsRow base 3 1 v n (zs L)) (hn : 0 < n) : ∃ g c, v = .slice (some ⟨g, 0, none⟩) n c ∧ n ≤ c ∧ base ≤ g := by
  rcases h.2 with ⟨_, h0⟩ | ⟨g, cap, cur, hv, hb, hg, h1, _⟩
  · omega
  · exact ⟨g, cap, hv, h1, hb⟩
theorem ne_self (x : Int) : (x != x) = false := by simp
set_option maxHeartbeats 4000000 in
theorem ints_same (A A' : Option Addr) (c c' n : Nat) (L : List Int) (hn : n ≤ 1000000) (w : World) (h1 : Zi w A n L) (h2 : Zi w A' n L) :
    Calls Tryz.prog 11 #[.slice A n c, .slice A' n c'] w fun e w' => e = .returned (.bool true) ∧ Bel w w' := by
  have H1 := Lib.hid h1
  have H2 := Lib.hid h2
  have ni : (n : Int) ≤ 1000000 := by omega
  clear h1 h2
  go_enter Tryz.func11, Tryz.ntmps11
  go_wp2
  go_loopw [13] (fun s13 wr => ∃ (k : Nat) (V : World), V = wr ∧ k ≤ n ∧ s13 = .int .i64 (k : Int) ∧ Bel w wr) (fun s13 _ => n - (intOf s13).toNat)
  case atStart => exact ⟨0, _, rfl, by omega, rfl, Bel.rf⟩
  case round =>
    obtain ⟨k, wr, hwr, hk, rfl, hb⟩ := hrel
    subst hwr
    have HB := Lib.hid hb
    rcases Nat.lt_or_ge k n with hlt | hge
    · obtain ⟨ad, rfl, hab, hac⟩ := (H1.out.bel hb).2 (by omega)
      obtain ⟨ad', rfl, hab', hac'⟩ := (H2.out.bel hb).2 (by omega)
      have c1 := hac k hlt
      have c2 := hac' k hlt
      obtain ⟨x, hx⟩ : ∃ x, L.getD k 0 = x := ⟨_, rfl⟩
      rw [hx] at c1 c2
      have ki : (k : Int) < (n : Int) := by omega
      have kn := ne_self x
      clear hb hac hac' hab hab' hx
      go_wp2
      go_quiet (fail)
      go_wp2
      go_roundw
      case rel => exact ⟨k + 1, _, rfl, by omega, by go_num, HB.out.drwN _⟩
      case measure => simp [intOf]; omega
    · obtain rfl : k = n := by omega
      clear hb
      go_wp2
      go_ret
      exact ⟨rfl, HB.out⟩
theorem length_ok (m : Int) (h0 : 2 ≤ m) (h1 : m ≤ 32) (w : World) : Calls Tryz.prog 82 #[.int .i64 m] w fun e w' => e = .returned (.bool true) ∧ w = w' := by
  go_enter Tryz.func82, Tryz.ntmps82
  go_wp2
  go_ret
  exact ⟨rfl, rfl⟩
theorem own_bel {w w' : World} {base : Nat} {e : TypeId} {size : Nat} {v : Value} {n : Nat} {xs : List Value} (h : w.ownsRow base e size v n xs) (hb : Bel w w') : w'.ownsRow base e size v n xs := by
  refine ⟨h.1, ?_⟩
  rcases h.2 with hn | ⟨g, cap, cur, rfl, hbb, hg, rest⟩
  · exact .inl hn
  · exact .inr ⟨g, cap, cur, rfl, hbb, (Below.block hb g (Array.getElem?_eq_some_iff.1 hg).1).trans hg, rest⟩
theorem own_set {w : World} {base h n c t : Nat} {L : List Int} {e : TypeId} (hown : w.ownsRow base e 1 (.slice (some ⟨h, 0, none⟩) n c) n (zs L)) (y : Int) : (w.setCell ⟨h, t, none⟩ (.int .i64 y)).ownsRow base e 1 (.slice (some ⟨h, 0, none⟩) n c) n (zs (L.set t y)) := by
  refine ⟨by have := hown.1; simp only [zs_len, List.length_set] at *; exact this, ?_⟩
  rcases hown.2 with ⟨h0, _⟩ | ⟨g, cap, cur, e1, hb, hg, h1, h2, h3, h4⟩
  · cases h0
  · injection e1 with e1 e2 e3
    injection e1 with e1
    cases e1
    subst e3
    refine .inr ⟨h, c, cur.setIfInBounds t (.int .i64 y), rfl, hb, Bk.st (t := e) hg t _, h1, h2, by simpa using h3, ?_⟩
    rw [Array.toList_setIfInBounds, List.take_set, h4]
    simp [zs, List.map_set]
theorem own_fr {w : World} {base h n c : Nat} {xs : List Value} {e : TypeId} (hown : w.ownsRow base e 1 (.slice (some ⟨h, 0, none⟩) n c) n xs) (t : Nat) : w.frozen? ⟨h, t, none⟩ = false := by
  rcases hown.2 with ⟨h0, _⟩ | ⟨g, cap, cur, e1, hb, hg, _⟩
  · cases h0
  · injection e1 with e1 e2 e3
    injection e1 with e1
    cases e1
    exact Bk.fr (t := e) hg t
theorem own_any {w : World} {base k size : Nat} {e : TypeId} {v : Value} {xs : List Value} (h : w.ownsRow base e size v k xs) : ∃ A c, v = .slice A k c ∧ (0 < k → ∃ g, A = some ⟨g, 0, none⟩) := by
  rcases h.2 with ⟨rfl, rfl⟩ | ⟨g, cap, cur, rfl, _⟩
  · exact ⟨none, 0, rfl, fun h => by omega⟩
  · exact ⟨some ⟨g, 0, none⟩, cap, rfl, fun _ => ⟨g, rfl⟩⟩
theorem Zi.ch {w w' : World} {A : Option Addr} {n g : Nat} {L : List Int} (h : Zi w A n L) (hc : Ch g w w') (hn : ∀ ad, A = some ad → ad.block ≠ g) : Zi w' A n L :=
  ⟨h.1, fun h0 => by
    obtain ⟨ad, e, hx, hcc⟩ := h.2 h0
    exact ⟨ad, e, by have := hc.sz; omega, fun j hj => hc.kp (hcc j hj) (by rw [add_block]; exact hn ad e)⟩⟩
theorem own_ch {w w' : World} {base g : Nat} {e : TypeId} {size : Nat} {v : Value} {n : Nat} {xs : List Value} (h : w.ownsRow base e size v n xs) (hc : Ch g w w') (hg : g < base) : w'.ownsRow base e size v n xs :=
  h.kept hc (by
    rcases hob : v.ownBlock with _ | q
    · exact .inl rfl
    · exact .inr (fun e => by injection e with e; have := (h.lt q hob).1; omega))
end Go.Proofs.YtnjojdmmalmhaaaGreatDoor.Wi
