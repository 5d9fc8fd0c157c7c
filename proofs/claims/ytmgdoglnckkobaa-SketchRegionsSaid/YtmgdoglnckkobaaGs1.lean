/- Merged: Words Src SrcN0 SrcNew0 SrcR0 SrcLen WinMath EucMath RatioMath SumMath PieMath NorMath PieM2 RootMath SkM SrcP0 SrcList Zi RegionInvIn. -/
import Derived.Test.YtmgdoglnckkobaaRows
import Derived.WalkKit
import Derived.WalkSmall
import Derived.Lib.Hide
import Derived.Deep.Draws
import Derived.Deep.QuietTactic
import Derived.ChangeSame
import Derived.WalkLawsBesides
import Derived.WalkSpells
import Derived.Outline
import Derived.IntWalk
import Derived.BigQuiet
import Derived.RegionTactic
import Derived.Laws.ResultCell
import Derived.OpenShut
import Derived.Below
import Derived.Deep.AppendLies
import Derived.Deep.RegionHeld3
import Derived.Deep.Onto
import Derived.OrdersIn
import Derived.TacticsIn
namespace Go.Proofs.Ytmgdoglnckkobaa.Wo
open Go.RowKit
/-- of what was there nothing has changed -/
def Bel (w w' : World) : Prop := Below w.heap.size w w'
section
variable {a b c : World}
theorem Bel.rf : Bel a a := Below.refl _ _
theorem Bel.size (h : Bel a b) : a.heap.size ≤ b.heap.size := Below.size h
theorem Bel.tr (h : Bel a b) (k : Bel b c) : Bel a c := Below.trans h (Below.mono k h.size)
theorem Bel.al (h : Bel a b) (o : Obj) : Bel a (b.alloc o) := Below.alloc h h.size o
theorem Bel.drw (h : Bel a b) : Bel a b.drew := Below.drew h
theorem Bel.drwN (h : Bel a b) (n : Nat) : Bel a (b.drewN n) := below_drewN h n
theorem Bel.st (h : Bel a b) {p : Addr} (hp : a.heap.size ≤ p.block) (u : Value) : Bel a (b.setCell p u) := Below.setCell h hp u
theorem Bel.st2 {p : Addr} (hp : a.heap.size ≤ p.block) (h : Bel a b) (u : Value) : Bel a (b.setCell p u) := Below.setCell h hp u
theorem Bel.cells (h : Bel a b) : (∀ k o, k < a.heap.size → b.cell? ⟨k, o, none⟩ = a.cell? ⟨k, o, none⟩) ∧ (∀ k o, k < a.heap.size → b.frozen? ⟨k, o, none⟩ = a.frozen? ⟨k, o, none⟩) :=
  ⟨fun k o hk => Below.cell (p := ⟨k, o, none⟩) h hk, fun k o hk => Below.frozen (p := ⟨k, o, none⟩) h hk⟩
theorem Bel.kp (h : Bel a b) {p : Addr} {v : Value} (hc : a.cell? p = some v) : b.cell? p = some v := (Below.cell h (World.block_lt_of_cell? a p hc)).trans hc
theorem Bel.bl (h : Bel a b) : Below a.heap.size a b := h
end
/-- block g is just these cells, none of them frozen -/
def Bk (w : World) (g : Nat) (t : TypeId) (cs : Array Value) : Prop := w.heap[g]? = some (.cells cs t (0, 0))
section
variable {w w' : World} {g : Nat} {t : TypeId} {cs : Array Value}
theorem Bk.lt (h : Bk w g t cs) : g < w.heap.size := by
  rcases Nat.lt_or_ge g w.heap.size with hlt | hge
  · exact hlt
  · unfold Bk at h; rw [Array.getElem?_eq_none hge] at h; cases h
theorem Bk.cell (h : Bk w g t cs) (i : Nat) : w.cell? ⟨g, i, none⟩ = cs[i]? := cell_of_row w g i cs t (0, 0) h
theorem Bk.fr (h : Bk w g t cs) (i : Nat) : w.frozen? ⟨g, i, none⟩ = false := by
  unfold Bk at h
  simp [World.frozen?, h]
theorem Bk.nw (w : World) (t : TypeId) (cs : Array Value) : Bk (w.alloc (.cells cs t)) w.heap.size t cs := heap_alloc_new w _
theorem Bk.nq (w : World) (t : TypeId) (cs : Array Value) {g : Nat} (hg : w.heap.size = g) : Bk (w.alloc (.cells cs t)) g t cs := hg ▸ Bk.nw w t cs
theorem Bk.drw (h : Bk w g t cs) : Bk w.drew g t cs := h
theorem Bk.drwN (h : Bk w g t cs) (n : Nat) : Bk (w.drewN n) g t cs := h
theorem Bk.al (h : Bk w g t cs) (o : Obj) : Bk (w.alloc o) g t cs := (Below.heap_alloc w o g h.lt).trans h
theorem Bk.st (h : Bk w g t cs) (i : Nat) (u : Value) : Bk (w.setCell ⟨g, i, none⟩ u) g t (cs.setIfInBounds i u) := by
  unfold Bk at h ⊢
  simp [World.setCell, Array.getElem?_modify, h]
theorem Bk.far (h : Bk w g t cs) {p : Addr} (hp : g ≠ p.block) (u : Value) : Bk (w.setCell p u) g t cs := (Below.heap_setCell w p u g hp).trans h
theorem Bk.bel (h : Bk w g t cs) (hb : Bel w w') : Bk w' g t cs := (Below.block hb g h.lt).trans h
end
theorem kp_al {w : World} {p : Addr} {v : Value} (h : w.cell? p = some v) (o : Obj) : (w.alloc o).cell? p = some v :=
  (World.cell?_alloc_lt w o p (World.block_lt_of_cell? w p h)).trans h
theorem kp_drw {w : World} {p : Addr} {v : Value} (h : w.cell? p = some v) : w.drew.cell? p = some v := h
theorem kp_drwN {w : World} {p : Addr} {v : Value} (h : w.cell? p = some v) (n : Nat) : (w.drewN n).cell? p = some v := h
theorem ret_int {k : IntKind} {a b : Int} (h : a = b) : Ending.returned (.int k a) = .returned (.int k b) := by rw [h]
theorem ret_bool {a b : Bool} (h : a = b) : Ending.returned (.bool a) = .returned (.bool b) := by rw [h]
theorem ret_int2 {k : IntKind} {a b c : Int} (h : a = b) : Ending.returned (.tuple #[.int k a, .int k c]) = .returned (.tuple #[.int k b, .int k c]) := by rw [h]
theorem quiet_same {P : Program} {f : FuncId} {args : Array Value} {w : World} {n : Nat} {v : Value}
    (h : Calls P f args (w.drewN n) fun e w' => e = .returned v ∧ w.drewN n = w') : Calls P f args (w.drewN n) fun e w'' => e = .returned v ∧ ∃ m, w'' = w.drewN m :=
  h.mono fun _ _ ⟨he, hm⟩ => ⟨he, n, hm.symm⟩
section
open Go.WideShapes Go.ChangeShapes
variable {H : Type} {enc : TypeId × Value → H} {P : Program}
/-- the step of a row whose call has changed nothing that was there, and makes memory of any kind -/
theorem post_below {f : Func} {s : ChangeSpec} {apart fresh handsOn again : Bool} {W W' : World} {args : Array Value} {v : Value} {ds gs : List (DataW H)} {before pa pv : List MemPlace}
    (hW : DataW.Whole enc P f.params.toList s.vars apart W args.toList ds gs before)
    (hres : ∀ (b : Nat) (sp : Nat → Bool) (hd : Bool), DataW.TrodAll enc P W' b sp hd f.resultTypes.toList (v.resultList f.resultTypes.size) (s.fn H (ds ++ gs)).results [])
    (hargs : ∀ sp : Nat → Bool, (∀ p ∈ before, sp p.block = true) → DataW.TrodAll enc P W' 0 sp true f.params.toList args.toList (s.fn H (ds ++ gs)).args pa)
    (hvars : ∀ sp : Nat → Bool, (∀ p ∈ before, sp p.block = true) → DataW.TrodVars enc P W' sp s.vars (s.fn H (ds ++ gs)).vars pv)
    (hps : before = pa ++ pv) (hb : Below W.heap.size W W')
    (hok : ∀ (j : Nat) (t : TypeId) (r : Value), f.resultTypes[j]? = some t → (v.resultList f.resultTypes.size)[j]? = some r → Value.okWide P W' .any 0 t r) :
    s.post enc P f apart fresh handsOn again W args v W' := by
  have hlt : ∀ p ∈ before, p.block < W.heap.size := fun p hp => hW.lt p hp
  have hold : ∀ p ∈ before, (fun b => decide (b < W.heap.size)) p.block = true := fun p hp => by simpa using hlt p hp
  refine ⟨ds, gs, before, [], pa, pv, hW, hres _ _ _, hargs _ hold, hvars _ hold, World.keptBut_mono (fun p hp => ⟨hp, ?_⟩) (hb.frame (· ∈ before)), fun _ => ?_⟩
  · rw [hps, List.mem_append] at hp
    exact Or.inr hp
  · obtain ⟨_, _, _, _, _, hz, hn⟩ := hW
    refine ⟨hok, _, _, ([] ++ pa) ++ pv, ⟨[] ++ pa, pv, trodAll_append (hargs _ (fun _ _ => rfl)) (hres _ _ _), hvars _ (fun _ _ => rfl), rfl, ?_, ?_⟩, ?_⟩
    · intro b off hp
      have hin : MemPlace.cell b off ∈ before := by rw [hps]; simpa using hp
      rw [hb.frozen (hlt _ hin)]
      exact hz b off hin
    · intro ha
      have := hn ha
      rw [hps] at this
      simpa using this
    · intro p hp _
      rw [hps]
      simpa using hp
end
end Go.Proofs.Ytmgdoglnckkobaa.Wo
namespace Go.Proofs.Ytmgdoglnckkobaa.Sr
open Go.ChangeShapes Go.WideShapes Go.RowKit Wo
set_option linter.unusedVariables false
/-- only block g has changed, and what is new -/
def Ch (g : Nat) (w w' : World) : Prop := w.grownBy w' (some g)
section
variable {g : Nat} {a b c : World}
theorem Ch.rf : Ch g a a := World.grownBy.refl _ _
theorem Ch.tr (h : Ch g a b) (k : Ch g b c) : Ch g a c :=
  ⟨k.os.trans h.os, k.tape.trans h.tape, k.output.trans h.output, Nat.le_trans h.size k.size, fun i hi hn => (k.block i (Nat.lt_of_lt_of_le hi h.size) hn).trans (h.block i hi hn)⟩
theorem Ch.al (h : Ch g a b) (o : Obj) : Ch g a (b.alloc o) := h.tr (World.grownBy_alloc _ _ _)
theorem Ch.drwN (h : Ch g a b) (n : Nat) : Ch g a (b.drewN n) := ⟨h.os, h.tape, h.output, h.size, h.block⟩
theorem Ch.drw (h : Ch g a b) : Ch g a b.drew := ⟨h.os, h.tape, h.output, h.size, h.block⟩
theorem Ch.st (h : Ch g a b) (i : Nat) (u : Value) : Ch g a (b.setCell ⟨g, i, none⟩ u) :=
  ⟨h.os, h.tape, h.output, by simpa [World.setCell] using h.size, fun k hk hn => (Below.heap_setCell b ⟨g, i, none⟩ u k (fun e => hn (by rw [e]))).trans (h.block k hk hn)⟩
theorem Ch.st2 (h : Ch g a b) {p : Addr} (hp : a.heap.size ≤ p.block) (u : Value) : Ch g a (b.setCell p u) :=
  ⟨h.os, h.tape, h.output, by simpa [World.setCell] using h.size, fun k hk hn => (Below.heap_setCell b p u k (by omega)).trans (h.block k hk hn)⟩
theorem Ch.of_bel (h : Bel a b) : Ch g a b := ⟨h.bl.os, h.bl.tape, h.bl.output, h.size, fun k hk _ => h.bl.block k hk⟩
theorem Ch.sz (h : Ch g a b) : a.heap.size ≤ b.heap.size := h.size
/-- seen from before the reader was made, nothing has changed -/
theorem Bel.ch (h : Bel a b) (k : Ch g b c) (hg : a.heap.size ≤ g) : Bel a c :=
  ⟨k.os.trans h.bl.os, k.tape.trans h.bl.tape, k.output.trans h.bl.output, Nat.le_trans h.size k.size, fun i hi => (k.block i (Nat.lt_of_lt_of_le hi h.size) (fun e => by injection e with e; omega)).trans (h.bl.block i hi)⟩
theorem Ch.kp (h : Ch g a b) {p : Addr} {v : Value} (hc : a.cell? p = some v) (hn : p.block ≠ g) : b.cell? p = some v :=
  World.grownBy.cell h hc (fun e => hn (by injection e))
theorem Ch.bk {k : Nat} {t : TypeId} {cs : Array Value} (h : Ch g a b) (hc : Bk a k t cs) (hn : k ≠ g) : Bk b k t cs := (h.block k hc.lt (fun e => hn (by injection e))).trans hc
end
/-- block g is a reader -/
def Ok (w : World) (g : Nat) : Prop := ∃ (A : Option Addr) (n c k : Nat) (zs : List Int), Bk w g 75 #[.slice A n c, .int .i64 (k : Int)] ∧ k ≤ n ∧ n ≤ 2000 ∧
  (∀ j, -9223372036854775808 ≤ zs.getD j 0 ∧ zs.getD j 0 ≤ 9223372036854775807) ∧ (0 < n → ∃ x : Addr, A = some x ∧ x.block < g ∧ ∀ i, i < n → w.cell? (x.add i) = some (.int .i64 (zs.getD i 0)))
theorem add_block (a : Addr) (n : Nat) : (a.add n).block = a.block := by unfold Addr.add; split <;> rfl
theorem Ok.lt {w : World} {g : Nat} (h : Ok w g) : g < w.heap.size := by
  obtain ⟨A, n, c, k, zs, hb, _⟩ := h
  exact hb.lt
theorem Ok.bel {w w' : World} {g : Nat} (h : Ok w g) (hb : Bel w w') : Ok w' g := by
  obtain ⟨A, n, c, k, zs, h1, h2, h3, h4, h5⟩ := h
  refine ⟨A, n, c, k, zs, h1.bel hb, h2, h3, h4, fun hn => ?_⟩
  obtain ⟨x, e, hx, hc⟩ := h5 hn
  exact ⟨x, e, hx, fun i hi => hb.kp (hc i hi)⟩
theorem Ok.st {w : World} {g : Nat} (h : Ok w g) {p : Addr} (hp : g < p.block) (u : Value) : Ok (w.setCell p u) g := by
  obtain ⟨A, n, c, k, zs, h1, h2, h3, h4, h5⟩ := h
  refine ⟨A, n, c, k, zs, h1.far (by omega) u, h2, h3, h4, fun hn => ?_⟩
  obtain ⟨x, e, hx, hc⟩ := h5 hn
  exact ⟨x, e, hx, fun i hi => (World.cell?_setCell_other _ _ _ _ (fun e => by have := congrArg Addr.block e; rw [add_block] at this; omega)).trans (hc i hi)⟩
theorem Ok.drwN {w : World} {g : Nat} (h : Ok w g) (m : Nat) : Ok (w.drewN m) g := h.bel (Bel.rf.drwN m)
theorem mod_eq (x n : Int) (h1 : 1 ≤ n) : (x < 0 → x.tmod n < 0 → x.tmod n + n = x % n) ∧ (0 ≤ x.tmod n → x.tmod n = x % n) ∧ (-n < x.tmod n ∧ x.tmod n < n) := by
  have e := Int.emod_nonneg x (b := n) (by omega)
  have e2 := Int.emod_lt_of_pos x (b := n) (by omega)
  rcases Int.lt_or_le x 0 with hx | hx
  · have hy : x.tmod n = -((-x) % n) := by
      have := Int.neg_tmod (a := -x) (b := n)
      rw [Int.neg_neg] at this
      rw [this, Int.tmod_eq_emod_of_nonneg (by omega)]
    have a := Int.emod_nonneg (-x) (b := n) (by omega)
    have b := Int.emod_lt_of_pos (-x) (b := n) (by omega)
    have d1 := Int.emod_add_mul_ediv x n
    have d2 := Int.emod_add_mul_ediv (-x) n
    have hs : ∃ q : Int, x % n = -((-x) % n) + n * q := ⟨-((-x) / n) - x / n, by grind⟩
    obtain ⟨q, hq⟩ := hs
    rw [hy]
    refine ⟨fun _ h => ?_, fun h => ?_, by omega⟩
    · have hq1 : q = 1 := by
        rcases Int.lt_or_le q 1 with h' | h'
        · have := Int.mul_le_mul_of_nonneg_left (show q ≤ 0 by omega) (show 0 ≤ n by omega); simp at this; omega
        · rcases Int.lt_or_le 1 q with h2 | h2
          · have := Int.mul_le_mul_of_nonneg_left (show 2 ≤ q by omega) (show 0 ≤ n by omega); omega
          · omega
      subst hq1
      omega
    · have hz : (-x) % n = 0 := by omega
      have hq0 : q = 0 := by
        rcases Int.lt_or_le q 0 with h' | h'
        · have := Int.mul_le_mul_of_nonneg_left (show q ≤ -1 by omega) (show 0 ≤ n by omega); omega
        · rcases Int.lt_or_le 0 q with h2 | h2
          · have := Int.mul_le_mul_of_nonneg_left (show 1 ≤ q by omega) (show 0 ≤ n by omega); omega
          · omega
      subst hq0
      omega
  · rw [Int.tmod_eq_emod_of_nonneg hx]
    refine ⟨fun h => by omega, fun _ => rfl, by omega⟩
theorem mod_any (x n : Int) (h1 : 1 ≤ n) (h2 : n ≤ 9223372036854775807) (hx : -9223372036854775808 ≤ x) (hx2 : x ≤ 9223372036854775807) (w : World) :
    Calls Try.prog 23 #[.int .i64 x, .int .i64 n] w fun e w' => e = .returned (.int .i64 (x % n)) ∧ w = w' := by
  have m := mod_eq x n h1
  have hne : n ≠ 0 := by omega
  have e1 := m.2.2.1
  have e2 := m.2.2.2
  rcases Int.lt_or_le (x.tmod n) 0 with h | h
  · have hx0 : x < 0 := by
      rcases Int.lt_or_le x 0 with h' | h'
      · exact h'
      · have := Int.tmod_nonneg n h'; omega
    have HE := Lib.hid (m.1 hx0 h)
    clear m
    go_enter Try.func23, Try.ntmps23
    go_wp2
    go_ret
    exact ⟨ret_int HE.out, rfl⟩
  · have HE := Lib.hid (m.2.1 h)
    clear m
    go_enter Try.func23, Try.ntmps23
    go_wp2
    go_ret
    exact ⟨ret_int HE.out, rfl⟩
def SomeRaw (g : Nat) (w : World) (e : Ending) (w' : World) : Prop := ∃ x : Int, e = .returned (.int .i64 x) ∧ -9223372036854775808 ≤ x ∧ x ≤ 9223372036854775807 ∧ Ok w' g ∧ Ch g w w'
theorem raw_any (g : Nat) (w : World) (h : Ok w g) :
    Calls Try.prog 49 #[.pointer (some ⟨g, 0, none⟩)] w (SomeRaw g w) := by
  obtain ⟨A, n, c, k, zs, hb, h2, h3, h4, h5⟩ := id h
  have k0 : w.cell? ⟨g, 0, none⟩ = some (.slice A n c) := hb.cell 0
  have k1 : w.cell? ⟨g, 1, none⟩ = some (.int .i64 (k : Int)) := hb.cell 1
  rcases Nat.lt_or_ge k n with hk | hk
  · obtain ⟨x, rfl, hx, hc⟩ := h5 (by omega)
    have hcell := hc k hk
    have hxk := h4 k
    have HOK : Hid (Ok w g) := h
    have f1 : w.frozen? ⟨g, 1, none⟩ = false := hb.fr 1
    have bk : decide ((n : Int) ≤ (k : Int)) = false := by simp; omega
    have hk1 : (k : Int) < (n : Int) := by omega
    have hk0 : (0 : Int) ≤ (k : Int) := by omega
    have hn : (n : Int) ≤ 2000 := by omega
    have sm : IntKind.i64.wrap ((k : Int) + 1 - 1) = (k : Int) := by rw [show (k : Int) + 1 - 1 = k by omega]; exact IntWalk.i64_in _ (by omega)
    have hne : (x.add k).block ≠ g := by rw [add_block]; omega
    have HH5 := Lib.hid h5
    have HB := Lib.hid hb
    clear h h5 hc hb
    go_enter Try.func49, Try.ntmps49
    have hc2 : ∀ (m : Nat) (v : Value), ((w.drewN m).setCell ⟨g, 1, none⟩ v).cell? (x.add k) = some (.int .i64 (zs.getD k 0)) := fun m v => by
      rw [World.cell?_setCell_other _ _ _ _ (fun e => hne (by rw [← e]))]
      exact hcell
    have sm2 : IntKind.i64.wrap (k : Int) = (k : Int) := IntWalk.i64_in _ (by omega)
    go_wp2
    go_quiet (fail)
    go_wp2
    go_quiet (fail)
    go_wp2
    go_ret
    have h6 : ∀ p q : Nat, Ok (((w.drewN p).setCell ⟨g, 1, none⟩ (.int .i64 ((k : Int) + 1))).drewN q) g := fun p q => by
      refine ⟨some x, n, c, k + 1, zs, HB.out.st 1 _, by omega, h3, h4, fun hn => ?_⟩
      refine ⟨x, rfl, hx, fun i hi => ?_⟩
      obtain ⟨x', e, _, hcc⟩ := HH5.out hn
      injection e with e
      subst e
      exact (World.cell?_setCell_other _ _ _ _ (fun e => by have := congrArg Addr.block e; rw [add_block] at this; simp at this; omega)).trans (hcc i hi)
    exact ⟨_, rfl, hxk.1, hxk.2, h6 _ _, ((Ch.rf.drwN _).st 1 _).drwN _⟩
  · have HOK : Hid (Ok w g) := h
    have bk : decide ((n : Int) ≤ (k : Int)) = true := by simp; omega
    clear h h5 hb
    go_enter Try.func49, Try.ntmps49
    go_wp2
    go_quiet (fail)
    go_wp2
    go_ret
    exact ⟨0, rfl, by decide, by decide, HOK.out, Ch.rf.drwN _⟩
end Go.Proofs.Ytmgdoglnckkobaa.Sr
namespace Go.Proofs.Ytmgdoglnckkobaa.Sr
open Go.ChangeShapes Go.WideShapes Go.RowKit Wo
set_option linter.unusedVariables false
def SomeN (g : Nat) (n : Int) (w : World) (e : Ending) (w' : World) : Prop := ∃ x : Int, e = .returned (.int .i64 x) ∧ 0 ≤ x ∧ x < n ∧ Ok w' g ∧ Ch g w w'
theorem n_any (g : Nat) (n : Int) (h1 : 1 ≤ n) (h2 : n ≤ 9223372036854775807) (w : World) (h : Ok w g) :
    Calls Try.prog 10 #[.pointer (some ⟨g, 0, none⟩), .int .i64 n] w (SomeN g n w) := by
  have HO := Lib.hid h
  clear h
  go_enter Try.func10, Try.ntmps10
  go_wp2_with fail
  go_at_call 49
  refine (raw_any g _ HO.out).mono ?_
  rintro e w1 ⟨x, rfl, hx0, hx1, ho, hc⟩
  have HOK := Lib.hid ho
  have HCH := Lib.hid hc
  clear ho hc
  have e0 := Int.emod_nonneg x (b := n) (by omega)
  have e1 := Int.emod_lt_of_pos x (b := n) (by omega)
  go_wp2_with (go_at_call 23; refine (mod_any x n h1 h2 hx0 hx1 _).mono ?_; rintro e w' ⟨rfl, rfl⟩)
  go_ret
  exact ⟨x % n, rfl, e0, e1, HOK.out, HCH.out⟩
end Go.Proofs.Ytmgdoglnckkobaa.Sr
namespace Go.Proofs.Ytmgdoglnckkobaa.Sr
open Go.ChangeShapes Go.WideShapes Go.RowKit Wo
set_option linter.unusedVariables false
def SomeNew (w : World) (e : Ending) (w' : World) : Prop := ∃ g : Nat, e = .returned (.pointer (some ⟨g, 0, none⟩)) ∧ w.heap.size ≤ g ∧ Ok w' g ∧ Bel w w'
theorem wf_range {zs : List Int} (h : ∀ n ∈ zs, (Lit.int .i64 n).wf = true) (j : Nat) : -9223372036854775808 ≤ zs.getD j 0 ∧ zs.getD j 0 ≤ 9223372036854775807 := by
  rw [List.getD_eq_getElem?_getD]
  exact range_i64 h j
set_option maxHeartbeats 1000000 in
theorem new_any (A : Option Addr) (len cap : Nat) (zs : List Int) (w : World)
    (h : (A = none ∧ len = 0 ∧ cap = 0 ∧ zs = []) ∨ ∃ x, A = some x ∧ len ≤ cap ∧ cap ≤ maxLen ∧ zs.length = cap ∧ (∀ i, i < zs.length → w.cell? (x.add i) = some (.int .i64 (zs.getD i 0))) ∧ ∀ n ∈ zs, (Lit.int .i64 n).wf = true) :
    Calls Try.prog 7 #[.slice A len cap] w (SomeNew w) := by
  rcases h with ⟨rfl, rfl, rfl, rfl⟩ | ⟨x, rfl, hl, hm, hz, hc, hw⟩
  · go_enter Try.func7, Try.ntmps7
    go_wp2
    go_ret
    exact ⟨_, rfl, Nat.le_refl _, ⟨none, 0, 0, 0, [], Bk.nw _ _ _, by omega, by omega, by simp, fun hn => by omega⟩, Bel.rf.al _⟩
  · unfold maxLen at hm
    have HW := Lib.hid hw
    have HC := Lib.hid hc
    have HZ := Lib.hid hz
    clear hw hc hz
    have hx : 0 < cap → x.block < w.heap.size := fun h0 => by
      have := World.block_lt_of_cell? w _ (HC.out 0 (by rw [HZ.out]; exact h0))
      rwa [add_block] at this
    have HX := Lib.hid hx
    clear hx
    have fin : ∀ n : Nat, n ≤ len → n ≤ 2000 → Ok (w.alloc (.cells #[.slice (some x) n cap, .int .i64 0] 75)) w.heap.size := fun n h1 h2 =>
      ⟨some x, n, cap, 0, zs, Bk.nw _ _ _, by omega, h2, wf_range HW.out, fun hn => ⟨x, rfl, HX.out (by omega), fun i hi => kp_al (HC.out i (by rw [HZ.out]; omega)) _⟩⟩
    have HF := Lib.hid fin
    clear fin
    rcases Nat.lt_or_ge 2000 len with h2 | h2
    · have bm : decide ((2000 : Int) < (len : Int)) = true := by simp; omega
      go_enter Try.func7, Try.ntmps7
      go_wp2
      go_ret
      exact ⟨_, rfl, Nat.le_refl _, HF.out 2000 (by omega) (by omega), Bel.rf.al _⟩
    · have bm : decide ((2000 : Int) < (len : Int)) = false := by simp; omega
      go_enter Try.func7, Try.ntmps7
      go_wp2
      go_ret
      exact ⟨_, rfl, Nat.le_refl _, HF.out len (by omega) (by omega), Bel.rf.al _⟩
end Go.Proofs.Ytmgdoglnckkobaa.Sr
namespace Go.Proofs.Ytmgdoglnckkobaa.Sr
open Go.ChangeShapes Go.WideShapes Go.RowKit Wo
set_option linter.unusedVariables false
def SomeRange (g : Nat) (lo hi : Int) (w : World) (e : Ending) (w' : World) : Prop := ∃ x : Int, e = .returned (.int .i64 x) ∧ lo ≤ x ∧ x ≤ hi ∧ Ok w' g ∧ Ch g w w'
theorem range_any (g : Nat) (lo hi : Int) (h0 : -2305843009213693952 ≤ lo) (h1 : lo ≤ hi) (h2 : hi ≤ 2305843009213693952) (w : World) (h : Ok w g) :
    Calls Try.prog 47 #[.pointer (some ⟨g, 0, none⟩), .int .i64 lo, .int .i64 hi] w (SomeRange g lo hi w) := by
  have HN : Hid (∀ W, Ok W g → Calls Try.prog 10 #[.pointer (some ⟨g, 0, none⟩), .int .i64 (hi - lo + 1)] W (SomeN g (hi - lo + 1) W)) := fun W hW => n_any g _ (by omega) (by omega) W hW
  have HO := Lib.hid h
  clear h
  go_enter Try.func47, Try.ntmps47
  go_wp2_with fail
  go_at_call 10
  refine (HN.out _ HO.out).mono ?_
  rintro e w1 ⟨x, rfl, hx0, hx1, ho, hc⟩
  have HOK := Lib.hid ho
  have HCH := Lib.hid hc
  clear ho hc
  go_wp2
  go_ret
  exact ⟨lo + x, rfl, by omega, by omega, HOK.out, HCH.out⟩
end Go.Proofs.Ytmgdoglnckkobaa.Sr
namespace Go.Proofs.Ytmgdoglnckkobaa.Sr
open Go.ChangeShapes Go.WideShapes Go.RowKit Wo
set_option linter.unusedVariables false
theorem length_any (g : Nat) (w : World) (h : Ok w g) : Calls Try.prog 45 #[.pointer (some ⟨g, 0, none⟩)] w (SomeRange g 2 32 w) := by
  have HO := Lib.hid h
  clear h
  go_enter Try.func45, Try.ntmps45
  go_wp2_with fail
  go_at_call 10
  refine (n_any g 8 (by decide) (by decide) _ HO.out).mono ?_
  rintro e w1 ⟨x, rfl, x0, x1, ho, hc⟩
  have HO1 := Lib.hid ho
  have HC1 := Lib.hid hc
  clear ho hc
  rcases (show x = 7 ∨ x ≠ 7 by omega) with rfl | hx
  · go_wp2_with (go_at_call 47; refine (range_any g 13 32 (by decide) (by decide) (by decide) _ HO1.out).mono ?_; rintro e w2 ⟨y, rfl, y0, y1, ho, hc⟩)
    go_ret
    exact ⟨y, rfl, by omega, by omega, ho, HC1.out.tr hc⟩
  · go_wp2_with (go_at_call 47; refine (range_any g 2 12 (by decide) (by decide) (by decide) _ HO1.out).mono ?_; rintro e w2 ⟨y, rfl, y0, y1, ho, hc⟩)
    go_ret
    exact ⟨y, rfl, by omega, by omega, ho, HC1.out.tr hc⟩
end Go.Proofs.Ytmgdoglnckkobaa.Sr
namespace Go.Proofs.Ytmgdoglnckkobaa.Wi
set_option linter.unusedVariables false
def su (f : Int → Int) : List Int → Int
  | [] => 0
  | x :: L => f x + su f L
def sq (x : Int) : Int := x * x
def ix (x : Int) : Int := x
theorem su_append (f : Int → Int) (A B : List Int) : su f (A ++ B) = su f A + su f B := by
  induction A with
  | nil => simp [su]
  | cons x A ih => simp only [List.cons_append, su, ih]; omega
theorem su_snoc (f : Int → Int) (A : List Int) (x : Int) : su f (A ++ [x]) = su f A + f x := by
  rw [su_append]; simp [su]
/-- the samples are in their range -/
def Sam (L : List Int) : Prop := ∀ x ∈ L, -1000 ≤ x ∧ x ≤ 1000
theorem Sam.take {L : List Int} (h : Sam L) (n : Nat) : Sam (L.take n) := fun x hx => h x (List.mem_of_mem_take hx)
theorem Sam.drop {L : List Int} (h : Sam L) (n : Nat) : Sam (L.drop n) := fun x hx => h x (List.mem_of_mem_drop hx)
theorem Sam.at {L : List Int} (h : Sam L) (i : Nat) : -1000 ≤ L.getD i 0 ∧ L.getD i 0 ≤ 1000 := by
  rw [List.getD_eq_getElem?_getD]
  rcases Nat.lt_or_ge i L.length with hi | hi
  · rw [List.getElem?_eq_getElem hi]; exact h _ (List.getElem_mem hi)
  · rw [List.getElem?_eq_none hi]; decide
theorem sq_in {x : Int} (h1 : -1000 ≤ x) (h2 : x ≤ 1000) : 0 ≤ x * x ∧ x * x ≤ 1000000 := by
  have a : 0 ≤ (1000 - x) * (1000 + x) := Int.mul_nonneg (by omega) (by omega)
  have e : (1000 - x) * (1000 + x) = 1000000 - x * x := by grind
  have b : 0 ≤ x * x := by
    rcases Int.lt_or_le x 0 with h | h
    · have := Int.mul_nonneg (show 0 ≤ -x by omega) (show 0 ≤ -x by omega); rwa [Int.neg_mul_neg] at this
    · exact Int.mul_nonneg h h
  omega
theorem sq_nn (x : Int) : 0 ≤ x * x := by
  rcases Int.lt_or_le x 0 with h | h
  · have := Int.mul_nonneg (show 0 ≤ -x by omega) (show 0 ≤ -x by omega); rwa [Int.neg_mul_neg] at this
  · exact Int.mul_nonneg h h
theorem su_in {L : List Int} (h : Sam L) : -(1000 * (L.length : Int)) ≤ su ix L ∧ su ix L ≤ 1000 * (L.length : Int) := by
  induction L with
  | nil => simp [su]
  | cons x L ih =>
    have := ih (fun y hy => h y (by simp [hy]))
    have := h x (by simp)
    simp only [su, ix, List.length_cons]
    omega
theorem sq_su_in {L : List Int} (h : Sam L) : 0 ≤ su sq L ∧ su sq L ≤ 1000000 * (L.length : Int) := by
  induction L with
  | nil => simp [su]
  | cons x L ih =>
    have := ih (fun y hy => h y (by simp [hy]))
    have hx := h x (by simp)
    have := sq_in hx.1 hx.2
    simp only [su, sq, List.length_cons]
    omega
theorem take_snoc (L : List Int) (k : Nat) (h : k < L.length) : L.take (k + 1) = L.take k ++ [L.getD k 0] := by
  rw [List.take_succ_eq_append_getElem h, List.getD_eq_getElem?_getD, List.getElem?_eq_getElem h]; rfl
theorem su_next (f : Int → Int) (L : List Int) (k : Nat) (h : k < L.length) : su f (L.take (k + 1)) = su f (L.take k) + f (L.getD k 0) := by
  rw [take_snoc L k h, su_snoc]
/-- the sums of the beginnings -/
def begs (f : Int → Int) (L : List Int) : List Int := (List.range (L.length + 1)).map fun i => su f (L.take i)
theorem begs_len (f : Int → Int) (L : List Int) : (begs f L).length = L.length + 1 := by simp [begs]
theorem begs_at (f : Int → Int) (L : List Int) (i : Nat) (h : i ≤ L.length) : (begs f L).getD i 0 = su f (L.take i) := by
  rw [List.getD_eq_getElem?_getD, begs, List.getElem?_map, List.getElem?_range (by omega)]; rfl
/-- the sum over a part -/
theorem su_part (f : Int → Int) (L : List Int) (i k : Nat) : su f (L.take (i + k)) - su f (L.take i) = su f ((L.drop i).take k) := by
  rw [List.take_add, su_append]; omega
/-- the sum of the squares of the differences to a number -/
theorem dif_nn (L : List Int) (x : Int) : 0 ≤ (L.length : Int) * (x * x) - 2 * x * su ix L + su sq L := by
  induction L with
  | nil => simp [su]
  | cons y L ih =>
    simp only [su, ix, sq, List.length_cons] at *
    have h := sq_nn (x - y)
    have e : ((L.length + 1 : Nat) : Int) * (x * x) - 2 * x * (y + su ix L) + (y * y + su sq L) = ((L.length : Int) * (x * x) - 2 * x * su ix L + su sq L) + (x - y) * (x - y) := by
      rw [show ((L.length + 1 : Nat) : Int) = (L.length : Int) + 1 by omega]; grind
    have e2 : su (fun x => x) L = su ix L := rfl
    have e3 : su (fun x => x * x) L = su sq L := rfl
    rw [e]
    omega
theorem pair_nn (A B : List Int) : 0 ≤ (B.length : Int) * su sq A - 2 * su ix A * su ix B + (A.length : Int) * su sq B := by
  induction A with
  | nil => simp [su]
  | cons x A ih =>
    have h := dif_nn B x
    have e : (B.length : Int) * su sq (x :: A) - 2 * su ix (x :: A) * su ix B + ((x :: A).length : Int) * su sq B =
        ((B.length : Int) * su sq A - 2 * su ix A * su ix B + (A.length : Int) * su sq B) + ((B.length : Int) * (x * x) - 2 * x * su ix B + su sq B) := by
      rw [show ((x :: A).length : Int) = (A.length : Int) + 1 by simp, show su sq (x :: A) = x * x + su sq A from rfl, show su ix (x :: A) = x + su ix A from rfl]; grind
    rw [e]
    omega
/-- the variance -/
def vr (L : List Int) : Int := (L.length : Int) * su sq L - su ix L * su ix L
theorem vr_nn (L : List Int) : 0 ≤ vr L := by
  have := pair_nn L L
  have e : (L.length : Int) * su sq L - 2 * su ix L * su ix L + (L.length : Int) * su sq L = 2 * vr L := by unfold vr; grind
  omega
theorem vr_parts (A B : List Int) : vr A + vr B ≤ vr (A ++ B) := by
  have := pair_nn A B
  have e : vr (A ++ B) = vr A + vr B + ((B.length : Int) * su sq A - 2 * su ix A * su ix B + (A.length : Int) * su sq B) := by
    unfold vr
    rw [su_append, su_append, List.length_append, show ((A.length + B.length : Nat) : Int) = (A.length : Int) + (B.length : Int) by omega]
    grind
  omega
/-- the squares of the differences of a number and those ahead of it -/
def difs (x : Int) : List Int → Int
  | [] => 0
  | y :: L => (x - y) * (x - y) + difs x L
theorem difs_snoc (x : Int) (L : List Int) (y : Int) : difs x (L ++ [y]) = difs x L + (x - y) * (x - y) := by
  induction L with
  | nil => simp [difs]
  | cons z L ih => simp only [List.cons_append, difs, ih]; omega
theorem difs_eq (x : Int) (L : List Int) : difs x L = (L.length : Int) * (x * x) - 2 * x * su ix L + su sq L := by
  induction L with
  | nil => simp [difs, su]
  | cons y L ih =>
    rw [show difs x (y :: L) = (x - y) * (x - y) + difs x L from rfl, ih, show su sq (y :: L) = y * y + su sq L from rfl, show su ix (y :: L) = y + su ix L from rfl, show ((y :: L).length : Int) = (L.length : Int) + 1 by simp]
    grind
theorem vr_snoc (L : List Int) (x : Int) : vr (L ++ [x]) = vr L + difs x L := by
  rw [difs_eq]
  unfold vr
  rw [su_snoc, su_snoc, List.length_append, show ((L.length + [x].length : Nat) : Int) = (L.length : Int) + 1 by simp]
  unfold ix sq
  grind
theorem difs_in {L : List Int} (h : Sam L) {x : Int} (h1 : -1000 ≤ x) (h2 : x ≤ 1000) : 0 ≤ difs x L ∧ difs x L ≤ 4000000 * (L.length : Int) := by
  induction L with
  | nil => simp [difs]
  | cons y L ih =>
    have := ih (fun z hz => h z (by simp [hz]))
    have hy := h y (by simp)
    have a : 0 ≤ (x - y) * (x - y) := sq_nn _
    have b : 0 ≤ (2000 - (x - y)) * (2000 + (x - y)) := Int.mul_nonneg (by omega) (by omega)
    have e : (2000 - (x - y)) * (2000 + (x - y)) = 4000000 - (x - y) * (x - y) := by grind
    simp only [difs, List.length_cons]
    omega
/-- shifted lists -/
theorem su_shift (L : List Int) (b : Int) : su ix (L.map (· + b)) = su ix L + (L.length : Int) * b := by
  induction L with
  | nil => simp [su]
  | cons x L ih =>
    simp only [List.map_cons, su, ih, ix, List.length_cons]
    rw [show ((L.length + 1 : Nat) : Int) = (L.length : Int) + 1 by omega]; grind
theorem sq_shift (L : List Int) (b : Int) : su sq (L.map (· + b)) = su sq L + 2 * b * su ix L + (L.length : Int) * (b * b) := by
  induction L with
  | nil => simp [su]
  | cons x L ih =>
    rw [List.map_cons, show su sq ((x + b) :: L.map (· + b)) = (x + b) * (x + b) + su sq (L.map (· + b)) from rfl, ih, show su sq (x :: L) = x * x + su sq L from rfl, show su ix (x :: L) = x + su ix L from rfl,
      show ((x :: L).length : Int) = (L.length : Int) + 1 by simp]
    grind
theorem vr_shift (L : List Int) (b : Int) : vr (L.map (· + b)) = vr L := by
  unfold vr
  rw [sq_shift, su_shift, List.length_map]
  grind
theorem mul_le2 {n : Int} {a c : Int} (h0 : 0 ≤ n) (h : n ≤ a) (c0 : 0 ≤ c) : n * c ≤ a * c := Int.mul_le_mul_of_nonneg_right h c0
end Go.Proofs.Ytmgdoglnckkobaa.Wi
namespace Go.Proofs.Ytmgdoglnckkobaa.Wi
set_option linter.unusedVariables false
def df (X Y : List Int) : List Int := List.zipWith (fun a b => a - b) X Y
theorem df_len {X Y : List Int} (h : X.length = Y.length) : (df X Y).length = X.length := by simp [df, h]
theorem df_at {X Y : List Int} (h : X.length = Y.length) (i : Nat) (hi : i < X.length) : (df X Y).getD i 0 = X.getD i 0 - Y.getD i 0 := by
  have hj : i < Y.length := by omega
  rw [List.getD_eq_getElem?_getD, List.getD_eq_getElem?_getD, List.getD_eq_getElem?_getD, df, List.getElem?_zipWith, List.getElem?_eq_getElem hi, List.getElem?_eq_getElem hj]
  rfl
theorem df_take (X Y : List Int) (k : Nat) : df (X.take k) (Y.take k) = (df X Y).take k := by simp [df, List.take_zipWith]
theorem df_drop (X Y : List Int) (k : Nat) : df (X.drop k) (Y.drop k) = (df X Y).drop k := by simp [df, List.drop_zipWith]
/-- all numbers are at most B from 0 -/
def Bd (B : Int) (L : List Int) : Prop := ∀ x ∈ L, -B ≤ x ∧ x ≤ B
theorem Bd.take {B : Int} {L : List Int} (h : Bd B L) (n : Nat) : Bd B (L.take n) := fun x hx => h x (List.mem_of_mem_take hx)
theorem sam_bd {L : List Int} (h : Sam L) : Bd 1000 L := h
theorem df_bd {A B : Int} {X Y : List Int} (h1 : Bd A X) (h2 : Bd B Y) : Bd (A + B) (df X Y) := by
  induction X generalizing Y with
  | nil => intro x hx; simp [df] at hx
  | cons a X ih =>
    rcases Y with _ | ⟨b, Y⟩
    · intro x hx; simp [df] at hx
    · intro x hx
      rcases List.mem_cons.1 (show x ∈ (a - b) :: df X Y from hx) with rfl | hx
      · have := h1 a (by simp)
        have := h2 b (by simp)
        omega
      · exact ih (fun y hy => h1 y (by simp [hy])) (fun y hy => h2 y (by simp [hy])) x hx
theorem sq_bd {B x : Int} (h1 : -B ≤ x) (h2 : x ≤ B) : 0 ≤ x * x ∧ x * x ≤ B * B := by
  have a : 0 ≤ (B - x) * (B + x) := Int.mul_nonneg (by omega) (by omega)
  have e : (B - x) * (B + x) = B * B - x * x := by grind
  have b := sq_nn x
  omega
theorem su_bd {B : Int} {L : List Int} (h : Bd B L) : -(B * (L.length : Int)) ≤ su ix L ∧ su ix L ≤ B * (L.length : Int) := by
  induction L with
  | nil => simp [su]
  | cons x L ih =>
    have h1 := ih (fun y hy => h y (by simp [hy]))
    have h2 := h x (by simp)
    have e : B * ((L.length + 1 : Nat) : Int) = B * (L.length : Int) + B := by rw [show ((L.length + 1 : Nat) : Int) = (L.length : Int) + 1 by omega]; grind
    simp only [su, ix, List.length_cons, e]
    omega
theorem susq_bd {B : Int} {L : List Int} (h : Bd B L) : 0 ≤ su sq L ∧ su sq L ≤ B * B * (L.length : Int) := by
  induction L with
  | nil => simp [su]
  | cons x L ih =>
    have h1 := ih (fun y hy => h y (by simp [hy]))
    have h2 := h x (by simp)
    have h3 := sq_bd h2.1 h2.2
    have e : B * B * ((L.length + 1 : Nat) : Int) = B * B * (L.length : Int) + B * B := by rw [show ((L.length + 1 : Nat) : Int) = (L.length : Int) + 1 by omega]; grind
    simp only [su, sq, List.length_cons, e]
    omega
theorem df_zero (X Y : List Int) (h : X.length = Y.length) : su sq (df X Y) = 0 ↔ X = Y := by
  induction X generalizing Y with
  | nil =>
    rcases Y with _ | ⟨b, Y⟩
    · simp [df, su]
    · simp at h
  | cons a X ih =>
    rcases Y with _ | ⟨b, Y⟩
    · simp at h
    · have e : su sq (df (a :: X) (b :: Y)) = (a - b) * (a - b) + su sq (df X Y) := rfl
      have n1 := sq_nn (a - b)
      have n2 : 0 ≤ su sq (df X Y) := by
        have : ∀ L, 0 ≤ su sq L := fun L => by
          induction L with
          | nil => simp [su]
          | cons x L ih2 => have := sq_nn x; simp only [su, sq]; omega
        exact this _
      rw [e]
      have i := ih Y (by simpa using h)
      constructor
      · intro h0
        have h1 : (a - b) * (a - b) = 0 := by omega
        have h2 : su sq (df X Y) = 0 := by omega
        have h3 : a - b = 0 := by rcases Int.mul_eq_zero.1 h1 with h | h <;> exact h
        rw [i.1 h2, show a = b by omega]
      · intro h0
        injection h0 with h1 h2
        subst h1
        rw [i.2 h2]
        simp
def dot : List Int → List Int → Int
  | x :: X, y :: Y => x * y + dot X Y
  | _, _ => 0
def lc (s t : Int) (X Y : List Int) : List Int := List.zipWith (fun a b => s * a + t * b) X Y
theorem lc_len (s t : Int) {X Y : List Int} (h : X.length = Y.length) : (lc s t X Y).length = X.length := by simp [lc, h]
theorem lc_su (s t : Int) (X Y : List Int) (h : X.length = Y.length) : su ix (lc s t X Y) = s * su ix X + t * su ix Y := by
  induction X generalizing Y with
  | nil =>
    rcases Y with _ | ⟨b, Y⟩
    · simp [lc, su]
    · simp at h
  | cons a X ih =>
    rcases Y with _ | ⟨b, Y⟩
    · simp at h
    · have e : su ix (lc s t (a :: X) (b :: Y)) = (s * a + t * b) + su ix (lc s t X Y) := rfl
      rw [e, ih Y (by simpa using h), show su ix (a :: X) = a + su ix X from rfl, show su ix (b :: Y) = b + su ix Y from rfl]
      grind
theorem lc_sq (s t : Int) (X Y : List Int) (h : X.length = Y.length) : su sq (lc s t X Y) = s * s * su sq X + 2 * (s * t) * dot X Y + t * t * su sq Y := by
  induction X generalizing Y with
  | nil =>
    rcases Y with _ | ⟨b, Y⟩
    · simp [lc, su, dot]
    · simp at h
  | cons a X ih =>
    rcases Y with _ | ⟨b, Y⟩
    · simp at h
    · have e : su sq (lc s t (a :: X) (b :: Y)) = (s * a + t * b) * (s * a + t * b) + su sq (lc s t X Y) := rfl
      rw [e, ih Y (by simpa using h), show su sq (a :: X) = a * a + su sq X from rfl, show su sq (b :: Y) = b * b + su sq Y from rfl, show dot (a :: X) (b :: Y) = a * b + dot X Y from rfl]
      grind
theorem susq_nn (L : List Int) : 0 ≤ su sq L := by
  induction L with
  | nil => simp [su]
  | cons x L ih2 => have := sq_nn x; simp only [su, sq]; omega
/-- a quadratic form that is never below 0 -/
theorem quad_cs {A B D : Int} (h : ∀ s t : Int, 0 ≤ s * s * A + 2 * (s * t) * D + t * t * B) : D * D ≤ A * B := by
  have hA : 0 ≤ A := by have := h 1 0; simp at this; exact this
  have hB : 0 ≤ B := by have := h 0 1; simp at this; exact this
  rcases Int.lt_or_le 0 B with hb | hb
  · have h1 := h B (-D)
    have e : B * B * A + 2 * (B * -D) * D + -D * -D * B = B * (A * B - D * D) := by grind
    rw [e] at h1
    rcases Int.lt_or_le (A * B - D * D) 0 with h2 | h2
    · have h3 : 0 < B * -(A * B - D * D) := Int.mul_pos hb (by omega)
      have e2 : B * -(A * B - D * D) = -(B * (A * B - D * D)) := by grind
      omega
    · omega
  · obtain rfl : B = 0 := by omega
    have h1 := h 1 (-((A + 1) * D))
    have e : 1 * 1 * A + 2 * (1 * -((A + 1) * D)) * D + -((A + 1) * D) * -((A + 1) * D) * 0 = A - 2 * ((A + 1) * (D * D)) := by grind
    rw [e] at h1
    have n := sq_nn D
    rcases Int.lt_or_le 0 (D * D) with h2 | h2
    · have h3 : (A + 1) * 1 ≤ (A + 1) * (D * D) := Int.mul_le_mul_of_nonneg_left (by omega) (by omega)
      omega
    · rw [Int.mul_zero]; omega
/-- the roots of sums of squares obey the triangle -/
theorem tri_of {a b c D : Int} (hc : c = a + b + 2 * D) (h : D * D ≤ a * b) : (c - a - b) * (c - a - b) ≤ 4 * (a * b) := by
  have e : (c - a - b) * (c - a - b) = 4 * (D * D) := by
    have : c - a - b = 2 * D := by omega
    rw [this]; grind
  omega
theorem df_lc (X Y Z : List Int) (h1 : X.length = Y.length) (h2 : Y.length = Z.length) : df X Z = lc 1 1 (df X Y) (df Y Z) := by
  induction X generalizing Y Z with
  | nil => simp [df, lc]
  | cons a X ih =>
    rcases Y with _ | ⟨b, Y⟩
    · simp at h1
    · rcases Z with _ | ⟨c, Z⟩
      · simp at h2
      · have e := ih Y Z (by simpa using h1) (by simpa using h2)
        show (a - c) :: df X Z = (1 * (a - b) + 1 * (b - c)) :: lc 1 1 (df X Y) (df Y Z)
        rw [e]
        congr 1
        omega
theorem dist_tri (X Y Z : List Int) (h1 : X.length = Y.length) (h2 : Y.length = Z.length) :
    (su sq (df X Z) - su sq (df X Y) - su sq (df Y Z)) * (su sq (df X Z) - su sq (df X Y) - su sq (df Y Z)) ≤ 4 * (su sq (df X Y) * su sq (df Y Z)) := by
  have hl : (df X Y).length = (df Y Z).length := by rw [df_len h1, df_len h2, h1]
  refine tri_of (D := dot (df X Y) (df Y Z)) ?_ (quad_cs fun s t => ?_)
  · rw [df_lc X Y Z h1 h2, lc_sq _ _ _ _ hl]; grind
  · rw [← lc_sq s t _ _ hl]; exact susq_nn _
theorem shift_tri (X Y Z : List Int) (h1 : X.length = Y.length) (h2 : Y.length = Z.length) :
    (vr (df X Z) - vr (df X Y) - vr (df Y Z)) * (vr (df X Z) - vr (df X Y) - vr (df Y Z)) ≤ 4 * (vr (df X Y) * vr (df Y Z)) := by
  have hl : (df X Y).length = (df Y Z).length := by rw [df_len h1, df_len h2, h1]
  have key : ∀ s t : Int, vr (lc s t (df X Y) (df Y Z)) = s * s * vr (df X Y) + 2 * (s * t) * (((df X Y).length : Int) * dot (df X Y) (df Y Z) - su ix (df X Y) * su ix (df Y Z)) + t * t * vr (df Y Z) := by
    intro s t
    unfold vr
    rw [lc_len s t hl, lc_sq _ _ _ _ hl, lc_su _ _ _ _ hl, ← hl]
    grind
  refine tri_of (D := ((df X Y).length : Int) * dot (df X Y) (df Y Z) - su ix (df X Y) * su ix (df Y Z)) ?_ (quad_cs fun s t => ?_)
  · rw [df_lc X Y Z h1 h2, key]; grind
  · rw [← key s t]; exact vr_nn _
theorem df_swap (X Y : List Int) : su sq (df Y X) = su sq (df X Y) ∧ su ix (df Y X) = -su ix (df X Y) := by
  induction X generalizing Y with
  | nil => rcases Y with _ | ⟨b, Y⟩ <;> simp [df, su]
  | cons a X ih =>
    rcases Y with _ | ⟨b, Y⟩
    · simp [df, su]
    · obtain ⟨i1, i2⟩ := ih Y
      refine ⟨?_, ?_⟩
      · show (b - a) * (b - a) + su sq (df Y X) = (a - b) * (a - b) + su sq (df X Y)
        rw [i1]; grind
      · show (b - a) + su ix (df Y X) = -((a - b) + su ix (df X Y))
        rw [i2]; omega
theorem vr_swap (X Y : List Int) (h : X.length = Y.length) : vr (df Y X) = vr (df X Y) := by
  obtain ⟨a, b⟩ := df_swap X Y
  unfold vr
  rw [a, b, df_len h, df_len h.symm, h, Int.neg_mul_neg]
end Go.Proofs.Ytmgdoglnckkobaa.Wi
namespace Go.Proofs.Ytmgdoglnckkobaa.Ra
/-- the greatest common divisor, as an integer -/
def gd (a b : Int) : Int := (Nat.gcd a.toNat b.toNat : Nat)
theorem gd_zero {a : Int} (h : 0 ≤ a) : gd a 0 = a := by
  unfold gd
  simp
  omega
theorem gd_step {a b : Int} (ha : 0 ≤ a) (hb : 0 < b) : gd b (a % b) = gd a b := by
  unfold gd
  have e : (a % b).toNat = a.toNat % b.toNat := by
    rw [Int.toNat_emod ha (by omega)]
  rw [e, Nat.gcd_comm a.toNat, Nat.gcd_rec b.toNat a.toNat, Nat.gcd_comm]
theorem gd_nonneg (a b : Int) : 0 ≤ gd a b := by unfold gd; omega
theorem gd_comm (a b : Int) : gd a b = gd b a := by unfold gd; rw [Nat.gcd_comm]
theorem gd_pos {a b : Int} (h : 0 < b) : 1 ≤ gd a b := by
  unfold gd
  have : 0 < Nat.gcd a.toNat b.toNat := Nat.gcd_pos_of_pos_right _ (by omega)
  omega
theorem gd_le_right {a b : Int} (h : 0 < b) : gd a b ≤ b := by
  unfold gd
  have : Nat.gcd a.toNat b.toNat ≤ b.toNat := Nat.gcd_le_right _ (by omega)
  omega
theorem gd_dvd_left {a b : Int} (h : 0 ≤ a) : gd a b ∣ a := by
  unfold gd
  have := Nat.gcd_dvd_left a.toNat b.toNat
  have e : a = (a.toNat : Int) := by omega
  rw [e]
  exact_mod_cast this
theorem gd_dvd_right {a b : Int} (h : 0 ≤ b) : gd a b ∣ b := by rw [gd_comm]; exact gd_dvd_left h
/-- the greatest common divisor of the quotients is 1 -/
theorem gd_quot {a b : Int} (ha : 0 ≤ a) (hb : 0 < b) : gd (a / gd a b) (b / gd a b) = 1 := by
  have hp := gd_pos (a := a) hb
  have dv : ∀ {x y : Int}, 0 ≤ x → 0 ≤ y → (x / y).toNat = x.toNat / y.toNat := by
    intro x y hx hy
    obtain ⟨u, rfl⟩ := Int.eq_ofNat_of_zero_le hx
    obtain ⟨v, rfl⟩ := Int.eq_ofNat_of_zero_le hy
    rfl
  have e1 : (a / gd a b).toNat = a.toNat / Nat.gcd a.toNat b.toNat := dv ha (by omega)
  have e2 : (b / gd a b).toNat = b.toNat / Nat.gcd a.toNat b.toNat := dv (by omega) (by omega)
  have := Nat.coprime_div_gcd_div_gcd (m := a.toNat) (n := b.toNat) (Nat.gcd_pos_of_pos_right _ (by omega))
  unfold Nat.Coprime at this
  show ((Nat.gcd (a / gd a b).toNat (b / gd a b).toNat : Nat) : Int) = 1
  rw [e1, e2, this]; rfl
theorem quot_mul {a d : Int} (h : d ∣ a) : a / d * d = a := Int.ediv_mul_cancel h
/-- within the limits -/
def RIn (n d : Int) : Prop := 0 ≤ n ∧ n ≤ 2305843009213693952 ∧ 1 ≤ d ∧ d ≤ 1152921504606846976
/-- a valid ratio -/
def RV (n d : Int) : Prop := RIn n d ∧ gd n d = 1
open Classical in
noncomputable def pb (p : Prop) : Bool := decide p
open Classical in
theorem pb_yes {p : Prop} (h : p) : pb p = true := by unfold pb; exact decide_eq_true h
open Classical in
theorem pb_no {p : Prop} (h : ¬ p) : pb p = false := by unfold pb; exact decide_eq_false h
open Classical in
theorem of_pb {p : Prop} (h : pb p = true) : p := by unfold pb at h; exact of_decide_eq_true h
open Classical in
theorem of_not_pb {p : Prop} (h : pb p = false) : ¬ p := by unfold pb at h; exact of_decide_eq_false h
/-- the answers of inRange and Valid -/
noncomputable def rin (n d : Int) : Bool := pb (RIn n d)
noncomputable def rv (n d : Int) : Bool := pb (RV n d)
theorem rin_yes {n d : Int} (h : RIn n d) : rin n d = true := pb_yes h
theorem rin_no {n d : Int} (h : ¬ RIn n d) : rin n d = false := pb_no h
theorem rv_yes {n d : Int} (h : RV n d) : rv n d = true := pb_yes h
theorem rv_no {n d : Int} (h : ¬ RV n d) : rv n d = false := pb_no h
theorem of_rin {n d : Int} (h : rin n d = true) : RIn n d := of_pb h
theorem of_rv {n d : Int} (h : rv n d = true) : RV n d := of_pb h
theorem of_not_rv {n d : Int} (h : rv n d = false) : ¬ RV n d := of_not_pb h
/-- the error of Make -/
def MOk (n d : Int) : Prop := 0 ≤ n ∧ 1 ≤ d ∧ RIn (n / gd n d) (d / gd n d)
theorem mok_rv {n d : Int} (h : MOk n d) : RV (n / gd n d) (d / gd n d) := ⟨h.2.2, gd_quot h.1 (by have := h.2.1; omega)⟩
/-- the order of valid ratios -/
def cmpI (a b : Int) : Int := if a < b then -1 else if b < a then 1 else 0
def rc (n d m e : Int) : Int := cmpI (n * e) (m * d)
def orI (x y : Int) : Int := if x = 0 then y else x
theorem cmp_wide {a b : Int} : orI (cmpI (a / 18446744073709551616) (b / 18446744073709551616)) (cmpI (a % 18446744073709551616) (b % 18446744073709551616)) = cmpI a b := by
  unfold orI cmpI
  repeat' split
  all_goals omega
theorem cmpI_lt {a b : Int} (h : a < b) : cmpI a b = -1 := by unfold cmpI; rw [if_pos h]
theorem cmpI_gt {a b : Int} (h : b < a) : cmpI a b = 1 := by unfold cmpI; rw [if_neg (by omega), if_pos h]
theorem cmpI_eq {a b : Int} (h : a = b) : cmpI a b = 0 := by unfold cmpI; rw [if_neg (by omega), if_neg (by omega)]
/-- what Cmp returns -/
noncomputable def rcmp (n d m e : Int) : Int := if rv n d = true ∧ rv m e = true then cmpI (n * e) (m * d) else 0
theorem rcmp_in {n d m e : Int} (h : rv n d = true) (k : rv m e = true) : rcmp n d m e = cmpI (n * e) (m * d) := by unfold rcmp; rw [if_pos ⟨h, k⟩]
theorem rcmp_out {n d m e : Int} (h : rv n d = false ∨ rv m e = false) : rcmp n d m e = 0 := by
  unfold rcmp
  rw [if_neg]
  rintro ⟨a, b⟩
  rcases h with h | h
  · rw [h] at a; cases a
  · rw [h] at b; cases b
theorem gd_mul {a b f : Int} (ha : 0 ≤ a) (hb : 0 ≤ b) (hf : 0 ≤ f) : gd (a * f) (b * f) = gd a b * f := by
  obtain ⟨x, rfl⟩ := Int.eq_ofNat_of_zero_le ha
  obtain ⟨y, rfl⟩ := Int.eq_ofNat_of_zero_le hb
  obtain ⟨z, rfl⟩ := Int.eq_ofNat_of_zero_le hf
  have e1 : ((x : Int) * z).toNat = x * z := by rw [← Int.natCast_mul, Int.toNat_natCast]
  have e2 : ((y : Int) * z).toNat = y * z := by rw [← Int.natCast_mul, Int.toNat_natCast]
  unfold gd
  rw [e1, e2, Nat.gcd_mul_right, Int.natCast_mul]
  simp
theorem quot_scale {a g f : Int} (hf : 0 < f) : a * f / (g * f) = a / g := Int.mul_ediv_mul_of_pos_left _ _ hf
theorem rv_eq {n d m e : Int} (h : RV n d) (k : RV m e) (he : n * e = m * d) : n = m ∧ d = e := by
  obtain ⟨⟨n0, _, d0, _⟩, hg⟩ := h
  obtain ⟨⟨m0, _, e0, _⟩, kg⟩ := k
  obtain ⟨x, rfl⟩ := Int.eq_ofNat_of_zero_le n0
  obtain ⟨y, rfl⟩ := Int.eq_ofNat_of_zero_le (show 0 ≤ d by omega)
  obtain ⟨u, rfl⟩ := Int.eq_ofNat_of_zero_le m0
  obtain ⟨v, rfl⟩ := Int.eq_ofNat_of_zero_le (show 0 ≤ e by omega)
  have hn : x * v = u * y := by exact_mod_cast he
  have g1 : Nat.gcd x y = 1 := by unfold gd at hg; simp at hg; exact_mod_cast hg
  have g2 : Nat.gcd u v = 1 := by unfold gd at kg; simp at kg; exact_mod_cast kg
  have d1 : y ∣ v := Nat.Coprime.dvd_of_dvd_mul_left (k := y) (m := x) (Nat.Coprime.symm g1) (by rw [hn]; exact Nat.dvd_mul_left _ _)
  have d2 : v ∣ y := Nat.Coprime.dvd_of_dvd_mul_left (k := v) (m := u) (Nat.Coprime.symm g2) (by rw [← hn]; exact Nat.dvd_mul_left _ _)
  have hv : y = v := Nat.dvd_antisymm d1 d2
  subst hv
  have : x = u := Nat.eq_of_mul_eq_mul_right (by omega) hn
  exact ⟨by rw [this], rfl⟩
/-- what Make returns for small numbers -/
theorem make_facts {n d : Int} (h0 : 0 ≤ n) (h1 : 1 ≤ d) (h2 : n ≤ 2305843009213693952) (h3 : d ≤ 1152921504606846976) :
    0 ≤ n / gd n d ∧ n / gd n d ≤ n ∧ 1 ≤ d / gd n d ∧ d / gd n d ≤ d ∧ n / gd n d * gd n d = n ∧ d / gd n d * gd n d = d ∧ RV (n / gd n d) (d / gd n d) ∧ n / gd n d * d = n * (d / gd n d) := by
  have g1 := gd_pos (a := n) (b := d) (by omega)
  have a1 := quot_mul (gd_dvd_left (b := d) h0)
  have a2 := quot_mul (gd_dvd_right (a := n) (b := d) (by omega))
  have b0 : 0 ≤ n / gd n d := Int.ediv_nonneg h0 (by omega)
  have b1 : n / gd n d ≤ n := Int.ediv_le_self _ h0
  have b2 : 0 ≤ d / gd n d := Int.ediv_nonneg (by omega) (by omega)
  have b3 : d / gd n d ≤ d := Int.ediv_le_self _ (by omega)
  have b4 : d / gd n d ≠ 0 := by intro h; rw [h] at a2; omega
  refine ⟨b0, b1, by omega, b3, a1, a2, ⟨⟨b0, by omega, by omega, by omega⟩, gd_quot h0 (by omega)⟩, ?_⟩
  have e1 : n / gd n d * d = n / gd n d * (d / gd n d * gd n d) := by rw [a2]
  have e2 : n * (d / gd n d) = n / gd n d * gd n d * (d / gd n d) := by rw [a1]
  rw [e1, e2]
  grind
theorem cross_eq {x0 x1 y0 y1 g h a b c d : Int} (e1 : x0 * g = a) (e2 : x1 * g = b) (e3 : y0 * h = c) (e4 : y1 * h = d) : a * d = x0 * y1 * (g * h) ∧ c * b = y0 * x1 * (g * h) := by
  subst e1 e2 e3 e4
  exact ⟨by grind, by grind⟩
theorem cross_lt {u v k a b : Int} (hk : 0 < k) (ha : a = u * k) (hb : b = v * k) : (a < b ↔ u < v) ∧ (a = b ↔ u = v) := by
  subst ha hb
  refine ⟨Int.mul_lt_mul_right hk, ?_⟩
  constructor
  · intro h; exact Int.eq_of_mul_eq_mul_right (by omega) h
  · intro h; rw [h]
theorem cmpI_ge {a b : Int} (h : b ≤ a) : decide (cmpI a b < 0) = false := by
  unfold cmpI
  rw [if_neg (by omega)]
  split <;> decide
theorem gd_one (a : Int) : gd a 1 = 1 := by unfold gd; simp
/-- the facts of Floor and Ceil: the integers below and above -/
theorem round_facts {n d : Int} (h : RV n d) : 0 ≤ n / d ∧ n / d ≤ n ∧ n / d * d ≤ n * 1 ∧ (d = 1 ∧ n % d = 0 ∧ n / d = n ∨ d ≠ 1 ∧ n % d ≠ 0 ∧ n * 1 ≤ (n / d + 1) * d ∧ n / d + 1 ≤ 2305843009213693952) := by
  obtain ⟨⟨n0, n1, d0, d1⟩, hg⟩ := h
  have e1 := Int.emod_add_mul_ediv n d
  have e2 := Int.emod_nonneg n (b := d) (by omega)
  have e3 := Int.emod_lt_of_pos n (b := d) (by omega)
  have e4 : d * (n / d) = n / d * d := Int.mul_comm _ _
  have q0 : 0 ≤ n / d := Int.ediv_nonneg n0 (by omega)
  have q1 : n / d ≤ n := Int.ediv_le_self _ n0
  refine ⟨q0, q1, by omega, ?_⟩
  rcases Classical.em (d = 1) with hd | hd
  · subst hd
    exact .inl ⟨rfl, by omega, by omega⟩
  · refine .inr ⟨hd, fun hz => hd ?_, ?_, ?_⟩
    · have hdv : d ∣ n := Int.dvd_of_emod_eq_zero hz
      have : gd n d = d := by
        obtain ⟨x, rfl⟩ := Int.eq_ofNat_of_zero_le n0
        obtain ⟨y, rfl⟩ := Int.eq_ofNat_of_zero_le (show 0 ≤ d by omega)
        unfold gd
        simp only [Int.toNat_natCast]
        rw [Nat.gcd_eq_right (by exact_mod_cast hdv)]
      omega
    · have : (n / d + 1) * d = n / d * d + d := by grind
      omega
    · have : 2 * (n / d) ≤ d * (n / d) := Int.mul_le_mul_of_nonneg_right (by omega) q0
      omega
theorem rcmp_three {n d m e : Int} (h : RV n d) (k : RV m e) : (rcmp n d m e = -1 ∧ n * e < m * d) ∨ (rcmp n d m e = 0 ∧ n * e = m * d) ∨ (rcmp n d m e = 1 ∧ m * d < n * e) := by
  rw [rcmp_in (rv_yes h) (rv_yes k)]
  rcases Int.lt_trichotomy (n * e) (m * d) with g | g | g
  · exact .inl ⟨cmpI_lt g, g⟩
  · exact .inr (.inl ⟨cmpI_eq g, g⟩)
  · exact .inr (.inr ⟨cmpI_gt g, g⟩)
theorem rcmp_turn {n d m e : Int} (h : RV n d) (k : RV m e) : rcmp m e n d = -rcmp n d m e := by
  rw [rcmp_in (rv_yes h) (rv_yes k), rcmp_in (rv_yes k) (rv_yes h)]
  rcases Int.lt_trichotomy (n * e) (m * d) with g | g | g
  · rw [cmpI_lt g, cmpI_gt g]; rfl
  · rw [cmpI_eq g, cmpI_eq g.symm]; rfl
  · rw [cmpI_gt g, cmpI_lt g]
theorem rcmp_self {n d : Int} (h : RV n d) : rcmp n d n d = 0 := by
  rw [rcmp_in (rv_yes h) (rv_yes h)]; exact cmpI_eq rfl
theorem le_trans_frac {n1 d1 n2 d2 n3 d3 : Int} (h1 : 1 ≤ d1) (h2 : 1 ≤ d2) (h3 : 1 ≤ d3) (a : n1 * d2 ≤ n2 * d1) (b : n2 * d3 ≤ n3 * d2) : n1 * d3 ≤ n3 * d1 := by
  have e1 := Int.mul_le_mul_of_nonneg_right a (show 0 ≤ d3 by omega)
  have e2 := Int.mul_le_mul_of_nonneg_right b (show 0 ≤ d1 by omega)
  have e3 : n2 * d1 * d3 = n2 * d3 * d1 := by grind
  have e4 : n1 * d2 * d3 = n1 * d3 * d2 := by grind
  have e5 : n3 * d2 * d1 = n3 * d1 * d2 := by grind
  exact Int.le_of_mul_le_mul_right (show n1 * d3 * d2 ≤ n3 * d1 * d2 by omega) (show 0 < d2 by omega)
theorem rcmp_le {n d m e : Int} (h : RV n d) (k : RV m e) : (rcmp n d m e ≤ 0 ↔ n * e ≤ m * d) ∧ (0 ≤ rcmp n d m e ↔ m * d ≤ n * e) := by
  rcases rcmp_three h k with ⟨e1, e2⟩ | ⟨e1, e2⟩ | ⟨e1, e2⟩ <;> rw [e1] <;> constructor <;> constructor <;> intro _ <;> omega
theorem rcmp_trans {n1 d1 n2 d2 n3 d3 : Int} (h1 : RV n1 d1) (h2 : RV n2 d2) (h3 : RV n3 d3) :
    (rcmp n1 d1 n2 d2 ≤ 0 → rcmp n2 d2 n3 d3 ≤ 0 → rcmp n1 d1 n3 d3 ≤ 0) ∧ (0 ≤ rcmp n1 d1 n2 d2 → 0 ≤ rcmp n2 d2 n3 d3 → 0 ≤ rcmp n1 d1 n3 d3) := by
  have p1 := h1.1.2.2.1
  have p2 := h2.1.2.2.1
  have p3 := h3.1.2.2.1
  constructor
  · intro a b
    exact (rcmp_le h1 h3).1.2 (le_trans_frac p1 p2 p3 ((rcmp_le h1 h2).1.1 a) ((rcmp_le h2 h3).1.1 b))
  · intro a b
    exact (rcmp_le h1 h3).2.2 (le_trans_frac p3 p2 p1 ((rcmp_le h2 h3).2.1 b) ((rcmp_le h1 h2).2.1 a))
theorem rcmp_same {n d m e : Int} (h : RV n d) (k : RV m e) : rcmp n d m e = 0 ↔ n = m ∧ d = e := by
  rcases rcmp_three h k with ⟨e1, e2⟩ | ⟨e1, e2⟩ | ⟨e1, e2⟩ <;> rw [e1]
  · constructor
    · intro x; omega
    · rintro ⟨rfl, rfl⟩; omega
  · exact ⟨fun _ => rv_eq h k e2, fun _ => rfl⟩
  · constructor
    · intro x; omega
    · rintro ⟨rfl, rfl⟩; omega
end Go.Proofs.Ytmgdoglnckkobaa.Ra
namespace Go.Proofs.Ytmgdoglnckkobaa.Ra
set_option linter.unusedVariables false
theorem add_nat (n d m e g x y s c k T : Nat) (hg : g = Nat.gcd d e) (hd : 0 < d) (he : 0 < e) (h1 : Nat.gcd n d = 1) (h2 : Nat.gcd m e = 1) (hy : d = g * y) (hx : e = g * x) (hs : s = n * x + m * y) (hc : c = Nat.gcd (s % g) g)
    (hk : g = c * k) (hT : s = c * T) : Nat.gcd T (y * (k * x)) = 1 ∧ T * (d * e) = (n * e + m * d) * (y * (k * x)) := by
  have hg0 : 0 < g := by rw [hg]; exact Nat.gcd_pos_of_pos_left _ hd
  have hc0 : 0 < c := by rcases Nat.eq_zero_or_pos c with h | h
                         · rw [h] at hk; omega
                         · exact h
  have cyx : Nat.gcd y x = 1 := by
    have := Nat.coprime_div_gcd_div_gcd (m := d) (n := e) (by rw [← hg]; exact hg0)
    rw [← hg] at this
    unfold Nat.Coprime at this
    rwa [show d / g = y by rw [hy]; exact Nat.mul_div_cancel_left _ hg0, show e / g = x by rw [hx]; exact Nat.mul_div_cancel_left _ hg0] at this
  have cny : Nat.Coprime n y := Nat.Coprime.coprime_dvd_right ⟨g, by rw [hy, Nat.mul_comm]⟩ h1
  have cmx : Nat.Coprime m x := Nat.Coprime.coprime_dvd_right ⟨g, by rw [hx, Nat.mul_comm]⟩ h2
  have csy : Nat.Coprime s y := by
    unfold Nat.Coprime
    rw [hs, Nat.gcd_add_mul_right_left]
    exact Nat.Coprime.mul_left cny (Nat.Coprime.symm cyx)
  have csx : Nat.Coprime s x := by
    unfold Nat.Coprime
    rw [hs, Nat.add_comm, Nat.gcd_add_mul_right_left]
    exact Nat.Coprime.mul_left cmx cyx
  have e1 : Nat.gcd s (y * e) = c := by
    rw [Nat.Coprime.gcd_mul_left_cancel_right e (Nat.Coprime.symm csy), hx, Nat.Coprime.gcd_mul_right_cancel_right g (Nat.Coprime.symm csx), hc, Nat.gcd_comm s g, Nat.gcd_rec g s]
  have e2 : y * e = c * (y * (k * x)) := by rw [hx, hk]; grind
  refine ⟨?_, ?_⟩
  · rw [e2, hT, Nat.gcd_mul_left] at e1
    have : c * Nat.gcd T (y * (k * x)) = c * 1 := by omega
    exact Nat.eq_of_mul_eq_mul_left hc0 this
  · have e3 : n * e + m * d = g * s := by rw [hs, hy, hx]; grind
    rw [e3, hT, hy, hx, hk]
    grind
theorem nat_div {a b : Int} (ha : 0 ≤ a) (hb : 0 ≤ b) : (a / b).toNat = a.toNat / b.toNat := by
  obtain ⟨u, rfl⟩ := Int.eq_ofNat_of_zero_le ha
  obtain ⟨v, rfl⟩ := Int.eq_ofNat_of_zero_le hb
  rfl
/-- t / u is the sum, in lowest terms -/
def RSum (n d m e t u : Int) : Prop := 0 ≤ t ∧ 1 ≤ u ∧ gd t u = 1 ∧ t * (d * e) = (n * e + m * d) * u
theorem add_facts {n d m e g s c : Int} (h : RV n d) (k : RV m e) (hg : gd d e = g) (hs : n * (e / g) + m * (d / g) = s) (hc : gd (s % g) g = c) : 1 ≤ g ∧ 1 ≤ c ∧ c ≤ g ∧ 0 ≤ s ∧ RSum n d m e (s / c) (d / g * (e / c)) := by
  obtain ⟨⟨n0, _, d0, _⟩, h1⟩ := h
  obtain ⟨⟨m0, _, e0, _⟩, h2⟩ := k
  obtain ⟨N, rfl⟩ := Int.eq_ofNat_of_zero_le n0
  obtain ⟨D, rfl⟩ := Int.eq_ofNat_of_zero_le (show 0 ≤ d by omega)
  obtain ⟨M, rfl⟩ := Int.eq_ofNat_of_zero_le m0
  obtain ⟨E, rfl⟩ := Int.eq_ofNat_of_zero_le (show 0 ≤ e by omega)
  have hD : 0 < D := by omega
  have hE : 0 < E := by omega
  obtain ⟨G, hG⟩ : ∃ G : Nat, G = Nat.gcd D E := ⟨_, rfl⟩
  have hgG : g = (G : Int) := by rw [← hg, hG]; rfl
  subst hgG
  have hG0 : 0 < G := by rw [hG]; exact Nat.gcd_pos_of_pos_left _ hD
  obtain ⟨y, hy⟩ : G ∣ D := by rw [hG]; exact Nat.gcd_dvd_left _ _
  obtain ⟨x, hx⟩ : G ∣ E := by rw [hG]; exact Nat.gcd_dvd_right _ _
  have ex : (E : Int) / (G : Int) = (x : Int) := by rw [hx, Int.natCast_mul, Int.mul_ediv_cancel_left _ (by omega)]
  have ey : (D : Int) / (G : Int) = (y : Int) := by rw [hy, Int.natCast_mul, Int.mul_ediv_cancel_left _ (by omega)]
  rw [ex, ey] at hs
  rw [ey]
  obtain ⟨S, hS⟩ : ∃ S : Nat, S = N * x + M * y := ⟨_, rfl⟩
  have hsS : s = (S : Int) := by rw [← hs, hS]; simp
  subst hsS
  obtain ⟨C, hC⟩ : ∃ C : Nat, C = Nat.gcd (S % G) G := ⟨_, rfl⟩
  have hcC : c = (C : Int) := by
    rw [← hc, hC]
    unfold gd
    rw [show ((S : Int) % (G : Int)).toNat = S % G by rw [← Int.natCast_emod, Int.toNat_natCast], Int.toNat_natCast]
  subst hcC
  have hC0 : 0 < C := by rw [hC]; exact Nat.gcd_pos_of_pos_right _ hG0
  obtain ⟨q, hq⟩ : C ∣ G := by rw [hC]; exact Nat.gcd_dvd_right _ _
  obtain ⟨T, hT⟩ : C ∣ S := by
    have h1 : C ∣ S % G := by rw [hC]; exact Nat.gcd_dvd_left _ _
    exact (Nat.dvd_mod_iff ⟨q, hq⟩).1 h1
  have key := add_nat N D M E G x y S C q T hG hD hE (by unfold gd at h1; simp at h1; exact_mod_cast h1) (by unfold gd at h2; simp at h2; exact_mod_cast h2) hy hx hS hC hq hT
  have eT : (S : Int) / (C : Int) = (T : Int) := by rw [hT, Int.natCast_mul, Int.mul_ediv_cancel_left _ (by omega)]
  have eE : (E : Int) / (C : Int) = ((q * x : Nat) : Int) := by
    rw [hx, hq, Nat.mul_assoc, Int.natCast_mul, Int.mul_ediv_cancel_left _ (by omega)]
  rw [eT, eE]
  have hy0 : 0 < y := by rcases Nat.eq_zero_or_pos y with h | h
                         · rw [h] at hy; omega
                         · exact h
  have hq0 : 0 < q * x := by
    rcases Nat.eq_zero_or_pos (q * x) with h | h
    · have : E = C * (q * x) := by rw [hx, hq, Nat.mul_assoc]
      rw [h] at this; omega
    · exact h
  have hU : 0 < y * (q * x) := Nat.mul_pos hy0 hq0
  refine ⟨by omega, by omega, by have := Nat.le_of_dvd hG0 ⟨q, hq⟩; omega, by omega, by omega, ?_, ?_, ?_⟩
  · rw [← Int.natCast_mul]; omega
  · unfold gd
    rw [← Int.natCast_mul, Int.toNat_natCast, Int.toNat_natCast, key.1]
    rfl
  · have := congrArg (fun n : Nat => (n : Int)) key.2
    simpa using this
/-- what Add returns -/
noncomputable def radd (n d m e : Int) : Int × Int × Int :=
  if rv n d = true ∧ rv m e = true then
    (if (n * (e / gd d e) + m * (d / gd d e)) / gd ((n * (e / gd d e) + m * (d / gd d e)) % gd d e) (gd d e) ≤ 2305843009213693952 ∧ d / gd d e * (e / gd ((n * (e / gd d e) + m * (d / gd d e)) % gd d e) (gd d e)) ≤ 1152921504606846976 then
      ((n * (e / gd d e) + m * (d / gd d e)) / gd ((n * (e / gd d e) + m * (d / gd d e)) % gd d e) (gd d e), d / gd d e * (e / gd ((n * (e / gd d e) + m * (d / gd d e)) % gd d e) (gd d e)), 0) else (0, 0, 4))
  else (0, 0, 1)
theorem rsum_same {n d m e t u t' u' : Int} (hd : 1 ≤ d) (he : 1 ≤ e) (h : RSum n d m e t u) (k : RSum n d m e t' u') : t = t' ∧ u = u' := by
  obtain ⟨t0, u0, hg, h1⟩ := h
  obtain ⟨t0', u0', hg', h2⟩ := k
  have hde : 0 < d * e := Int.mul_pos (by omega) (by omega)
  have hx : t * u' = t' * u := by
    apply Int.eq_of_mul_eq_mul_right (show d * e ≠ 0 by omega)
    have a1 : t * u' * (d * e) = t * (d * e) * u' := by grind
    have a2 : t' * u * (d * e) = t' * (d * e) * u := by grind
    rw [a1, a2, h1, h2]
    grind
  obtain ⟨x, rfl⟩ := Int.eq_ofNat_of_zero_le t0
  obtain ⟨y, rfl⟩ := Int.eq_ofNat_of_zero_le (show 0 ≤ u by omega)
  obtain ⟨x', rfl⟩ := Int.eq_ofNat_of_zero_le t0'
  obtain ⟨y', rfl⟩ := Int.eq_ofNat_of_zero_le (show 0 ≤ u' by omega)
  have hn : x * y' = x' * y := by exact_mod_cast hx
  have g1 : Nat.gcd x y = 1 := by unfold gd at hg; simp at hg; exact_mod_cast hg
  have g2 : Nat.gcd x' y' = 1 := by unfold gd at hg'; simp at hg'; exact_mod_cast hg'
  have d1 : y ∣ y' := Nat.Coprime.dvd_of_dvd_mul_left (k := y) (m := x) (Nat.Coprime.symm g1) (by rw [hn]; exact Nat.dvd_mul_left _ _)
  have d2 : y' ∣ y := Nat.Coprime.dvd_of_dvd_mul_left (k := y') (m := x') (Nat.Coprime.symm g2) (by rw [← hn]; exact Nat.dvd_mul_left _ _)
  have hv : y = y' := Nat.dvd_antisymm d1 d2
  subst hv
  have : x = x' := Nat.eq_of_mul_eq_mul_right (by omega) hn
  exact ⟨by rw [this], rfl⟩
/-- what is known of what Add returns, for valid ratios -/
theorem radd_in {n d m e : Int} (h : RV n d) (k : RV m e) : ∃ t u, RSum n d m e t u ∧ radd n d m e = if t ≤ 2305843009213693952 ∧ u ≤ 1152921504606846976 then (t, u, 0) else (0, 0, 4) := by
  refine ⟨_, _, (add_facts h k rfl rfl rfl).2.2.2.2, ?_⟩
  unfold radd
  rw [if_pos ⟨rv_yes h, rv_yes k⟩]
theorem radd_out {n d m e : Int} (h : rv n d = false ∨ rv m e = false) : radd n d m e = (0, 0, 1) := by
  unfold radd
  rw [if_neg]
  rintro ⟨a, b⟩
  rcases h with h | h
  · rw [h] at a; cases a
  · rw [h] at b; cases b
theorem radd_comm {n d m e : Int} (h : RV n d) (k : RV m e) : radd m e n d = radd n d m e := by
  obtain ⟨t, u, h1, h2⟩ := radd_in h k
  obtain ⟨t', u', k1, k2⟩ := radd_in k h
  have : RSum n d m e t' u' := ⟨k1.1, k1.2.1, k1.2.2.1, by have := k1.2.2.2; rw [Int.mul_comm d e, this, Int.add_comm]⟩
  obtain ⟨rfl, rfl⟩ := rsum_same h.1.2.2.1 k.1.2.2.1 this h1
  rw [h2, k2]
theorem radd_zero {n d : Int} (h : RV n d) : radd n d 0 1 = (n, d, 0) := by
  obtain ⟨t, u, h1, h2⟩ := radd_in h (m := 0) (e := 1) ⟨⟨by omega, by omega, by omega, by omega⟩, by decide⟩
  have : RSum n d 0 1 n d := ⟨h.1.1, h.1.2.2.1, h.2, by grind⟩
  obtain ⟨rfl, rfl⟩ := rsum_same h.1.2.2.1 (by omega) h1 this
  rw [h2, if_pos ⟨h.1.2.1, h.1.2.2.2⟩]
/-- an answer without an error is the sum, and valid -/
theorem radd_ok {n d m e : Int} (h : (radd n d m e).2.2 = 0) : RV n d ∧ RV m e ∧ RV (radd n d m e).1 (radd n d m e).2.1 ∧ (radd n d m e).1 * (d * e) = (n * e + m * d) * (radd n d m e).2.1 := by
  rcases Classical.em (RV n d) with a | a
  · rcases Classical.em (RV m e) with b | b
    · obtain ⟨t, u, h1, h2⟩ := radd_in a b
      rw [h2] at h ⊢
      split at h
      · rename_i hl
        rw [if_pos hl]
        exact ⟨a, b, ⟨⟨h1.1, hl.1, h1.2.1, hl.2⟩, h1.2.2.1⟩, h1.2.2.2⟩
      · simp at h
    · rw [radd_out (.inr (rv_no b))] at h; simp at h
  · rw [radd_out (.inl (rv_no a))] at h; simp at h
theorem radd_bad {n d m e : Int} (h : (radd n d m e).2.2 ≠ 0) : (radd n d m e).1 = 0 ∧ (radd n d m e).2.1 = 0 := by
  rcases Classical.em (RV n d) with a | a
  · rcases Classical.em (RV m e) with b | b
    · obtain ⟨t, u, h1, h2⟩ := radd_in a b
      rw [h2] at h ⊢
      split at h
      · simp at h
      · rename_i hl
        rw [if_neg hl]; exact ⟨rfl, rfl⟩
    · rw [radd_out (.inr (rv_no b))]; exact ⟨rfl, rfl⟩
  · rw [radd_out (.inl (rv_no a))]; exact ⟨rfl, rfl⟩
/-- the sum is associative where it stays within the limits -/
theorem radd_assoc {an ad bn bd cn cd xn xd un ud vn vd wn wd : Int} (hx : RV xn xd) (hv : RV vn vd) (hu : RV un ud) (hw : RV wn wd) (ha : 1 ≤ ad) (hb : 1 ≤ bd) (hc : 1 ≤ cd)
    (e1 : xn * (ad * bd) = (an * bd + bn * ad) * xd) (e2 : un * (xd * cd) = (xn * cd + cn * xd) * ud) (e3 : vn * (bd * cd) = (bn * cd + cn * bd) * vd) (e4 : wn * (ad * vd) = (an * vd + vn * ad) * wd) : un = wn ∧ ud = wd := by
  refine rv_eq hu hw ?_
  have x1 := hx.1.2.2.1
  have v1 := hv.1.2.2.1
  -- un / ud = N / P and wn / wd = N / P, where P = ad * bd * cd
  have p1 : un * (ad * bd * cd) = (an * bd * cd + bn * ad * cd + cn * ad * bd) * ud := by
    apply Int.eq_of_mul_eq_mul_right (show xd ≠ 0 by omega)
    have a1 : un * (ad * bd * cd) * xd = un * (xd * cd) * (ad * bd) := by grind
    have a2 : (xn * cd + cn * xd) * ud * (ad * bd) = (xn * (ad * bd)) * cd * ud + cn * xd * ud * (ad * bd) := by grind
    rw [a1, e2, a2, e1]
    grind
  have p2 : wn * (ad * bd * cd) = (an * bd * cd + bn * ad * cd + cn * ad * bd) * wd := by
    apply Int.eq_of_mul_eq_mul_right (show vd ≠ 0 by omega)
    have a1 : wn * (ad * bd * cd) * vd = wn * (ad * vd) * (bd * cd) := by grind
    have a2 : (an * vd + vn * ad) * wd * (bd * cd) = an * vd * wd * (bd * cd) + (vn * (bd * cd)) * ad * wd := by grind
    rw [a1, e4, a2, e3]
    grind
  have hp : ad * bd * cd ≠ 0 := Int.mul_ne_zero (Int.mul_ne_zero (by omega) (by omega)) (by omega)
  apply Int.eq_of_mul_eq_mul_right hp
  have a1 : un * wd * (ad * bd * cd) = un * (ad * bd * cd) * wd := by grind
  have a2 : wn * ud * (ad * bd * cd) = wn * (ad * bd * cd) * ud := by grind
  rw [a1, a2, p1, p2]
  grind
/-- the sum keeps the order -/
theorem radd_order {an ad bn bd cn cd sn sd vn vd : Int} (ha : RV an ad) (hb : RV bn bd) (hc : 1 ≤ cd) (hs : RV sn sd) (hv : RV vn vd)
    (e1 : sn * (ad * cd) = (an * cd + cn * ad) * sd) (e2 : vn * (bd * cd) = (bn * cd + cn * bd) * vd) : rcmp sn sd vn vd = rcmp an ad bn bd := by
  rw [rcmp_in (rv_yes hs) (rv_yes hv), rcmp_in (rv_yes ha) (rv_yes hb)]
  have a1 := ha.1.2.2.1
  have b1 := hb.1.2.2.1
  have s1 := hs.1.2.2.1
  have v1 := hv.1.2.2.1
  -- sn * vd - vn * sd = (an * bd - bn * ad) * (sd * vd) / (ad * bd)
  have key : (sn * vd - vn * sd) * (ad * bd * cd) = (an * bd - bn * ad) * (sd * vd * cd) := by
    have p1 : (sn * vd - vn * sd) * (ad * bd * cd) = sn * (ad * cd) * (vd * bd) - vn * (bd * cd) * (sd * ad) := by grind
    rw [p1, e1, e2]
    grind
  have k1 : 0 < ad * bd * cd := Int.mul_pos (Int.mul_pos (by omega) (by omega)) (by omega)
  have k2 : 0 < sd * vd * cd := Int.mul_pos (Int.mul_pos (by omega) (by omega)) (by omega)
  have sg : ∀ {p q x y : Int}, 0 < x → 0 < y → p * x = q * y → (p < 0 ↔ q < 0) ∧ (0 < p ↔ 0 < q) := by
    intro p q x y hx hy h
    have n1 : ∀ {r z : Int}, 0 < z → (r < 0 → r * z < 0) ∧ (0 < r → 0 < r * z) ∧ (r = 0 → r * z = 0) := fun {r z} hz =>
      ⟨fun hr => Int.mul_neg_of_neg_of_pos hr hz, fun hr => Int.mul_pos hr hz, fun hr => by rw [hr]; simp⟩
    have m1 := n1 (r := p) hx
    have m2 := n1 (r := q) hy
    rcases Int.lt_trichotomy p 0 with a | a | a <;> rcases Int.lt_trichotomy q 0 with b | b | b <;> constructor <;> constructor <;> intro _ <;> first | omega | (have := m1.1 ‹_›; have := m2.1 ‹_›; omega) | (have := m1.1 a; have := m2.2.1 b; omega) | (have := m1.1 a; have := m2.2.2 b; omega) | (have := m1.2.1 a; have := m2.1 b; omega) | (have := m1.2.1 a; have := m2.2.2 b; omega) | (have := m1.2.2 a; have := m2.1 b; omega) | (have := m1.2.2 a; have := m2.2.1 b; omega)
  obtain ⟨h1, h2⟩ := sg k1 k2 key
  unfold cmpI
  rcases Int.lt_trichotomy (an * bd) (bn * ad) with h | h | h
  · rw [if_pos h, if_pos (by omega)]
  · rw [if_neg (by omega), if_neg (by omega), if_neg (by omega), if_neg (by omega)]
  · rw [if_neg (by omega), if_pos (by omega), if_neg (by omega), if_pos h]
/-- a sum is not less than its first part -/
theorem radd_ge {an ad bn bd xn xd : Int} (ha : RV an ad) (hb : RV bn bd) (hx : RV xn xd) (e1 : xn * (ad * bd) = (an * bd + bn * ad) * xd) : decide (rcmp xn xd an ad < 0) = false := by
  rw [rcmp_in (rv_yes hx) (rv_yes ha)]
  refine cmpI_ge ?_
  have a1 := ha.1.2.2.1
  have b0 := hb.1.1
  have b1 := hb.1.2.2.1
  have x1 := hx.1.2.2.1
  apply Int.le_of_mul_le_mul_right (a := bd) _ (by omega)
  have p1 : xn * ad * bd = xn * (ad * bd) := by grind
  have p2 : 0 ≤ bn * ad * xd := Int.mul_nonneg (Int.mul_nonneg b0 (by omega)) (by omega)
  rw [p1, e1]
  have p3 : (an * bd + bn * ad) * xd = an * xd * bd + bn * ad * xd := by grind
  omega
end Go.Proofs.Ytmgdoglnckkobaa.Ra
namespace Go.Proofs.Ytmgdoglnckkobaa.Wi
open Ra
set_option linter.unusedVariables false
/-- where piece p begins -/
def st (m n p : Nat) : Nat := p * m / n
theorem st_zero (m n : Nat) : st m n 0 = 0 := by simp [st]
theorem st_all (m n : Nat) (hn : 0 < n) : st m n n = m := by unfold st; exact Nat.mul_div_cancel_left m hn
theorem st_step (m n p : Nat) (hn : 0 < n) : st m n p + m / n ≤ st m n (p + 1) ∧ st m n (p + 1) ≤ st m n p + m / n + 1 := by
  unfold st
  have e : (p + 1) * m = p * m + m := by rw [Nat.add_mul, Nat.one_mul]
  rw [e]
  have h1 := Nat.div_add_mod (p * m) n
  have h2 := Nat.div_add_mod m n
  have h3 := Nat.div_add_mod (p * m + m) n
  have l1 := Nat.mod_lt (p * m) hn
  have l2 := Nat.mod_lt m hn
  have l3 := Nat.mod_lt (p * m + m) hn
  obtain ⟨a, ha⟩ : ∃ a, p * m / n = a := ⟨_, rfl⟩
  obtain ⟨b, hb⟩ : ∃ a, m / n = a := ⟨_, rfl⟩
  obtain ⟨c, hc⟩ : ∃ a, (p * m + m) / n = a := ⟨_, rfl⟩
  rw [ha] at h1 ⊢
  rw [hb] at h2 ⊢
  rw [hc] at h3 ⊢
  constructor
  · rcases Nat.lt_or_ge c (a + b) with h | h
    · have : n * (c + 1) ≤ n * (a + b) := Nat.mul_le_mul_left n h
      rw [Nat.mul_add, Nat.mul_add, Nat.mul_one] at this
      omega
    · exact h
  · rcases Nat.lt_or_ge (a + b + 1) c with h | h
    · have : n * (a + b + 2) ≤ n * c := Nat.mul_le_mul_left n h
      rw [Nat.mul_add, Nat.mul_add] at this
      omega
    · exact h
theorem st_mono (m n p q : Nat) (h : p ≤ q) : st m n p ≤ st m n q := Nat.div_le_div_right (Nat.mul_le_mul_right m h)
theorem st_le (m n p : Nat) (hn : 0 < n) (h : p ≤ n) : st m n p ≤ m := by
  have := st_mono m n p n h
  rwa [st_all m n hn] at this
/-- the sum of the numbers from one place to the one before another one -/
def pg (X : List Int) (a b : Nat) : Int := su id ((X.drop a).take (b - a))
/-- the sum of the first numbers -/
def pre (X : List Int) (t : Nat) : Int := su id (X.take t)
theorem su_app (f : Int → Int) (A B : List Int) : su f (A ++ B) = su f A + su f B := by
  induction A with
  | nil => simp [su]
  | cons a A ih => simp only [List.cons_append, su, ih]; omega
theorem pg_pre (X : List Int) (a b : Nat) (h : a ≤ b) : pg X a b = pre X b - pre X a := by
  unfold pg pre
  have e : X.take b = X.take a ++ (X.drop a).take (b - a) := by
    rw [← List.take_add, show a + (b - a) = b by omega]
  rw [e, su_app]
  omega
/-- the sums of the pieces -/
def pls (X : List Int) (m n : Nat) : List Int := (List.range n).map fun p => pg X (st m n p) (st m n (p + 1))
theorem pls_len (X : List Int) (m n : Nat) : (pls X m n).length = n := by simp [pls]
theorem pls_at (X : List Int) (m n p : Nat) (h : p < n) : (pls X m n).getD p 0 = pg X (st m n p) (st m n (p + 1)) := by
  rw [List.getD_eq_getElem?_getD, pls, List.getElem?_map, List.getElem?_range h]; rfl
theorem pls_take (X : List Int) (m n p : Nat) (h : p ≤ n) : (pls X m n).take p = (List.range p).map fun p => pg X (st m n p) (st m n (p + 1)) := by
  unfold pls
  rw [← List.map_take, List.take_range, Nat.min_eq_left h]
theorem pg_bd {X : List Int} {B : Int} (h : ∀ x ∈ X, -B ≤ x ∧ x ≤ B) (hB : 0 ≤ B) (a b : Nat) : -(B * ((b - a : Nat) : Int)) ≤ pg X a b ∧ pg X a b ≤ B * ((b - a : Nat) : Int) := by
  have key : ∀ (L : List Int), (∀ x ∈ L, -B ≤ x ∧ x ≤ B) → -(B * (L.length : Int)) ≤ su id L ∧ su id L ≤ B * (L.length : Int) := by
    intro L
    induction L with
    | nil => intro _; simp [su]
    | cons x L ih =>
      intro h
      have h1 := h x (List.mem_cons_self ..)
      have h2 := ih (fun y hy => h y (List.mem_cons_of_mem _ hy))
      simp only [su, id, List.length_cons]
      have e : B * ((L.length + 1 : Nat) : Int) = B * (L.length : Int) + B := by rw [show ((L.length + 1 : Nat) : Int) = (L.length : Int) + 1 by omega, Int.mul_add, Int.mul_one]
      rw [e]
      omega
  have h1 := key ((X.drop a).take (b - a)) (fun x hx => h x (List.mem_of_mem_drop (List.mem_of_mem_take hx)))
  have h2 : (((X.drop a).take (b - a)).length : Int) ≤ ((b - a : Nat) : Int) := by
    have := List.length_take_le (b - a) (X.drop a)
    omega
  have h3 : B * (((X.drop a).take (b - a)).length : Int) ≤ B * ((b - a : Nat) : Int) := Int.mul_le_mul_of_nonneg_left h2 hB
  unfold pg
  omega
/-- a ratio has the value T / C -/
def Vl (n d T C : Int) : Prop := RV n d ∧ n * C = T * d
theorem vl_zero (C : Int) : Vl 0 1 0 C := ⟨⟨⟨by decide, by decide, by decide, by decide⟩, by decide⟩, by omega⟩
theorem vl_scale {n d T C k : Int} (h : Vl n d T C) : Vl n d (T * k) (C * k) := ⟨h.1, by rw [← Int.mul_assoc, h.2, Int.mul_right_comm]⟩
theorem vl_eq {n d m e T C : Int} (hC : 1 ≤ C) (h : Vl n d T C) (k : Vl m e T C) : n = m ∧ d = e := by
  refine rv_eq h.1 k.1 ?_
  have h1 : n * e * C = m * d * C := by
    rw [Int.mul_right_comm, h.2, Int.mul_right_comm m d C, k.2, Int.mul_assoc, Int.mul_assoc, Int.mul_comm d e]
  exact Int.eq_of_mul_eq_mul_right (by omega) h1
theorem dvd_of_cop {t u C S : Int} (ht : 0 ≤ t) (hu : 1 ≤ u) (hC : 1 ≤ C) (hS : 0 ≤ S) (hg : gd t u = 1) (h : t * C = S * u) : u ≤ C ∧ t ≤ S := by
  obtain ⟨a, rfl⟩ := Int.eq_ofNat_of_zero_le ht
  obtain ⟨b, rfl⟩ := Int.eq_ofNat_of_zero_le (show 0 ≤ u by omega)
  obtain ⟨c, rfl⟩ := Int.eq_ofNat_of_zero_le (show 0 ≤ C by omega)
  obtain ⟨s, rfl⟩ := Int.eq_ofNat_of_zero_le hS
  have hg' : Nat.gcd a b = 1 := by
    unfold gd at hg
    simp only [Int.toNat_natCast] at hg
    omega
  have h' : a * c = s * b := by
    have : ((a * c : Nat) : Int) = ((s * b : Nat) : Int) := by rw [Int.natCast_mul, Int.natCast_mul]; exact h
    omega
  have d1 : b ∣ a * c := ⟨s, by rw [h', Nat.mul_comm]⟩
  have d2 : b ∣ c := Nat.Coprime.dvd_of_dvd_mul_left (show Nat.Coprime b a by rw [Nat.coprime_comm]; exact hg') d1
  have l1 : b ≤ c := Nat.le_of_dvd (by omega) d2
  have l2 : a * c ≤ s * c := by rw [h']; exact Nat.mul_le_mul_left s l1
  have l3 : a ≤ s := Nat.le_of_mul_le_mul_right l2 (by omega)
  omega
theorem vl_add {n d m e t u T T' C : Int} (h : Vl n d T C) (k : Vl m e T' C) (hr : RSum n d m e t u) (hC : 1 ≤ C) (hC2 : C ≤ 1152921504606846976) (hT : 0 ≤ T) (hT' : 0 ≤ T') (hT2 : T + T' ≤ 2305843009213693952) : Vl t u (T + T') C := by
  obtain ⟨t0, u1, g, e1⟩ := hr
  have d1 := h.1.1.2.2.1
  have e1' := k.1.1.2.2.1
  have hde : 0 < d * e := Int.mul_pos (by omega) (by omega)
  have key : t * C = (T + T') * u := by
    have : t * C * (d * e) = (T + T') * u * (d * e) := by
      calc t * C * (d * e) = t * (d * e) * C := Int.mul_right_comm ..
        _ = (n * e + m * d) * u * C := by rw [e1]
        _ = (n * C * e + m * C * d) * u := by grind
        _ = (T * d * e + T' * e * d) * u := by rw [h.2, k.2]
        _ = (T + T') * u * (d * e) := by grind
    exact Int.eq_of_mul_eq_mul_right (by omega) this
  have hb := dvd_of_cop t0 u1 hC (by omega) g key
  exact ⟨⟨⟨t0, by omega, u1, by omega⟩, g⟩, key⟩
theorem vl_make {n d : Int} (h0 : 0 ≤ n) (h1 : 1 ≤ d) (h2 : n ≤ 2305843009213693952) (h3 : d ≤ 1152921504606846976) : Vl (n / gd n d) (d / gd n d) n d := by
  have hm := make_facts h0 h1 h2 h3
  have g1 := gd_dvd_left (b := d) h0
  have g2 := gd_dvd_right (a := n) (show 0 ≤ d by omega)
  have gp := gd_pos (a := n) (show 0 < d by omega)
  refine ⟨mok_rv ⟨h0, h1, ?_⟩, ?_⟩
  · have a1 := Int.ediv_nonneg h0 (gd_nonneg n d)
    have a2 := Int.ediv_le_self (gd n d) h0
    have a3 := Int.ediv_le_self (gd n d) (show 0 ≤ d by omega)
    have a4 : 1 ≤ d / gd n d := Int.le_ediv_of_mul_le (by omega) (by have := gd_le_right (a := n) (show 0 < d by omega); omega)
    exact ⟨a1, by omega, a4, by omega⟩
  · have e1 := quot_mul g1
    have e2 := quot_mul g2
    calc n / gd n d * d = n / gd n d * (d / gd n d * gd n d) := by rw [e2]
      _ = n / gd n d * gd n d * (d / gd n d) := by grind
      _ = n * (d / gd n d) := by rw [e1]
theorem vl_le {n d m e T S C : Int} (hC : 1 ≤ C) (h : Vl n d T C) (k : Vl m e S C) : n * e ≤ m * d ↔ T ≤ S := by
  have d1 := h.1.1.2.2.1
  have e1 := k.1.1.2.2.1
  have hde : 0 < d * e := Int.mul_pos (by omega) (by omega)
  have a1 : n * e * C = T * (d * e) := by rw [Int.mul_right_comm, h.2, Int.mul_assoc]
  have a2 : m * d * C = S * (d * e) := by rw [Int.mul_right_comm, k.2, Int.mul_assoc, Int.mul_comm e d]
  constructor
  · intro hh
    have := Int.mul_le_mul_of_nonneg_right hh (show 0 ≤ C by omega)
    rw [a1, a2] at this
    exact Int.le_of_mul_le_mul_right this hde
  · intro hh
    have := Int.mul_le_mul_of_nonneg_right hh (Int.le_of_lt hde)
    rw [← a1, ← a2] at this
    exact Int.le_of_mul_le_mul_right this (by omega)
/-- sums over the first places -/
def tq (f : Nat → Int) : Nat → Int
  | 0 => 0
  | i + 1 => tq f i + f i
theorem tq_nn {f : Nat → Int} {n : Nat} (h : ∀ i, i < n → 0 ≤ f i) : ∀ i, i ≤ n → 0 ≤ tq f i := by
  intro i
  induction i with
  | zero => intro _; exact Int.le_refl _
  | succ i ih => intro hi; have := ih (by omega); have := h i (by omega); show 0 ≤ tq f i + f i; omega
theorem tq_hi {f : Nat → Int} {n : Nat} {B : Int} (h : ∀ i, i < n → f i ≤ B) : ∀ i, i ≤ n → tq f i ≤ B * (i : Int) := by
  intro i
  induction i with
  | zero => intro _; simp [tq]
  | succ i ih =>
    intro hi
    have h1 := ih (by omega)
    have h2 := h i (by omega)
    have e : B * ((i + 1 : Nat) : Int) = B * (i : Int) + B := by rw [show ((i + 1 : Nat) : Int) = (i : Int) + 1 by omega, Int.mul_add, Int.mul_one]
    show tq f i + f i ≤ _
    rw [e]
    omega
theorem tq_cong {f g : Nat → Int} {n : Nat} (h : ∀ i, i < n → f i = g i) : ∀ i, i ≤ n → tq f i = tq g i := by
  intro i
  induction i with
  | zero => intro _; rfl
  | succ i ih => intro hi; show tq f i + f i = tq g i + g i; rw [ih (by omega), h i (by omega)]
/-- what a length lacks to the common one -/
def wq (l : Nat) (k : Nat) : Int := if k = l then (l : Int) + 1 else (l : Int)
theorem wq_mul {l k : Nat} (h1 : l ≤ k) (h2 : k ≤ l + 1) : (k : Int) * wq l k = (l : Int) * ((l : Int) + 1) := by
  unfold wq
  split
  · rename_i e; rw [e]
  · rename_i e
    obtain rfl : k = l + 1 := by omega
    rw [show ((l + 1 : Nat) : Int) = (l : Int) + 1 by omega, Int.mul_comm]
theorem den_dvd {n d T C : Int} (h : Vl n d T C) (hC : 1 ≤ C) : d.toNat ∣ C.toNat := by
  obtain ⟨⟨⟨n0, _, d1, _⟩, g⟩, e⟩ := h
  obtain ⟨a, rfl⟩ := Int.eq_ofNat_of_zero_le n0
  obtain ⟨b, rfl⟩ := Int.eq_ofNat_of_zero_le (show 0 ≤ d by omega)
  obtain ⟨c, rfl⟩ := Int.eq_ofNat_of_zero_le (show 0 ≤ C by omega)
  have hT : 0 ≤ T := by
    have h1 : 0 ≤ T * (b : Int) := by rw [← e]; exact Int.mul_nonneg n0 (by omega)
    exact Int.nonneg_of_mul_nonneg_left h1 (by omega)
  obtain ⟨s, rfl⟩ := Int.eq_ofNat_of_zero_le hT
  have hg' : Nat.gcd a b = 1 := by
    unfold gd at g
    simp only [Int.toNat_natCast] at g
    omega
  have h' : a * c = s * b := by
    have : ((a * c : Nat) : Int) = ((s * b : Nat) : Int) := by rw [Int.natCast_mul, Int.natCast_mul]; exact e
    omega
  simp only [Int.toNat_natCast]
  exact Nat.Coprime.dvd_of_dvd_mul_left (show Nat.Coprime b a by rw [Nat.coprime_comm]; exact hg') ⟨s, by rw [h', Nat.mul_comm]⟩
/-- the sum of two fractions before it is cancelled is small -/
theorem sum_small {n d m e T T' C g s : Int} (h : Vl n d T C) (k : Vl m e T' C) (hC : 1 ≤ C) (hT : 0 ≤ T + T') (hg : gd d e = g) (hs : n * (e / g) + m * (d / g) = s) : s ≤ T + T' := by
  have a1 := den_dvd h hC
  have a2 := den_dvd k hC
  have d1 := h.1.1.2.2.1
  have e1 := k.1.1.2.2.1
  have g1 : 1 ≤ g := by rw [← hg]; exact gd_pos (by omega)
  have q1 : d / g * g = d := by rw [← hg]; exact quot_mul (gd_dvd_left (by omega))
  have q2 : e / g * g = e := by rw [← hg]; exact quot_mul (gd_dvd_right (by omega))
  obtain ⟨x, hx⟩ : ∃ x, d / g = x := ⟨_, rfl⟩
  obtain ⟨y, hy⟩ : ∃ x, e / g = x := ⟨_, rfl⟩
  rw [hx] at q1 hs
  rw [hy] at q2 hs
  have x1 : 1 ≤ x := by
    rcases Int.lt_or_le x 1 with hh | hh
    · have : x * g ≤ 0 := Int.mul_nonpos_of_nonpos_of_nonneg (by omega) (by omega)
      omega
    · exact hh
  have y1 : 1 ≤ y := by
    rcases Int.lt_or_le y 1 with hh | hh
    · have : y * g ≤ 0 := Int.mul_nonpos_of_nonpos_of_nonneg (by omega) (by omega)
      omega
    · exact hh
  -- the least common multiple divides C
  have hl : (x * e).toNat ∣ C.toNat := by
    have hlcm := Nat.lcm_dvd a1 a2
    have e2 : Nat.lcm d.toNat e.toNat = (x * e).toNat := by
      unfold Nat.lcm
      have hgn : (Nat.gcd d.toNat e.toNat : Int) = g := hg
      have : (d.toNat * e.toNat : Nat) = (x * e).toNat * Nat.gcd d.toNat e.toNat := by
        have h1 : ((d.toNat * e.toNat : Nat) : Int) = ((x * e).toNat * Nat.gcd d.toNat e.toNat : Nat) := by
          rw [Int.natCast_mul, Int.natCast_mul, hgn, Int.toNat_of_nonneg (by omega), Int.toNat_of_nonneg (by omega), Int.toNat_of_nonneg (Int.mul_nonneg (by omega) (by omega)), ← q1]
          grind
        omega
      rw [this, Nat.mul_div_cancel _ (Nat.gcd_pos_of_pos_left _ (by omega))]
    rwa [e2] at hlcm
  have hle : x * e ≤ C := by
    have h1 := Nat.le_of_dvd (by omega) hl
    have h2 : 0 ≤ x * e := Int.mul_nonneg (by omega) (by omega)
    omega
  -- s C = (T + T') x e
  have key : s * C = (T + T') * (x * e) := by
    have : s * C * g = (T + T') * (x * e) * g := by
      calc s * C * g = (n * (y * g) + m * (x * g)) * C := by rw [← hs]; grind
        _ = (n * C) * e + (m * C) * d := by rw [q1, q2]; grind
        _ = (T * d) * e + (T' * e) * d := by rw [h.2, k.2]
        _ = (T + T') * (d * e) := by grind
        _ = (T + T') * (x * e) * g := by rw [← q1]; grind
    exact Int.eq_of_mul_eq_mul_right (by omega) this
  have h1 : (T + T') * (x * e) ≤ (T + T') * C := Int.mul_le_mul_of_nonneg_left hle hT
  rw [← key] at h1
  exact Int.le_of_mul_le_mul_right h1 (by omega)
end Go.Proofs.Ytmgdoglnckkobaa.Wi
namespace Go.Proofs.Ytmgdoglnckkobaa.Wi
open Ra
set_option linter.unusedVariables false
/-- the product of two windows -/
def pr (X Y : List Int) : Int := (X.length : Int) * dot X Y - su ix X * su ix Y
theorem dot_self (X : List Int) : dot X X = su sq X := by
  induction X with
  | nil => rfl
  | cons a X ih => show a * a + dot X X = a * a + su sq X; rw [ih]
theorem pr_self (X : List Int) : pr X X = vr X := by unfold pr vr; rw [dot_self]
theorem dot_comm (X Y : List Int) : dot X Y = dot Y X := by
  induction X generalizing Y with
  | nil => rcases Y with _ | ⟨b, Y⟩ <;> rfl
  | cons a X ih =>
    rcases Y with _ | ⟨b, Y⟩
    · rfl
    · show a * b + dot X Y = b * a + dot Y X
      rw [ih, Int.mul_comm]
theorem pr_comm {X Y : List Int} (h : X.length = Y.length) : pr X Y = pr Y X := by
  unfold pr; rw [dot_comm, h, Int.mul_comm (su ix X)]
theorem vr_lc (s t : Int) (X Y : List Int) (h : X.length = Y.length) : vr (lc s t X Y) = s * s * vr X + 2 * (s * t) * pr X Y + t * t * vr Y := by
  unfold vr pr
  rw [lc_len s t h, lc_sq _ _ _ _ h, lc_su _ _ _ _ h, ← h]
  grind
theorem pr_cs {X Y : List Int} (h : X.length = Y.length) : pr X Y * pr X Y ≤ vr X * vr Y :=
  quad_cs fun s t => by rw [← vr_lc s t _ _ h]; exact vr_nn _
theorem vr_le {X : List Int} (hs : Sam X) (h : X.length ≤ 32) : 0 ≤ vr X ∧ vr X ≤ 1024000000 := by
  have q := sq_su_in hs
  have n := sq_nn (su ix X)
  have m : (X.length : Int) * su sq X ≤ 32 * 32000000 := Int.mul_le_mul (by omega) (by omega) q.1 (by omega)
  refine ⟨vr_nn _, ?_⟩
  unfold vr
  omega
theorem sq_le {p B : Int} (hB : 0 ≤ B) (h : p * p ≤ B * B) : -B ≤ p ∧ p ≤ B := by
  refine ⟨?_, ?_⟩
  · rcases Int.lt_or_le p (-B) with g | g
    · have h1 : (B + 1) * (B + 1) ≤ (-p) * (-p) := Int.mul_le_mul (by omega) (by omega) (by omega) (by omega)
      rw [Int.neg_mul_neg] at h1
      have e : (B + 1) * (B + 1) = B * B + 2 * B + 1 := by grind
      omega
    · exact g
  · rcases Int.lt_or_le B p with g | g
    · have h1 : (B + 1) * (B + 1) ≤ p * p := Int.mul_le_mul (by omega) (by omega) (by omega) (by omega)
      have e : (B + 1) * (B + 1) = B * B + 2 * B + 1 := by grind
      omega
    · exact g
theorem vw_le {v w : Int} (v0 : 0 ≤ v) (w0 : 0 ≤ w) (v1 : v ≤ 1024000000) (w1 : w ≤ 1024000000) : 0 ≤ v * w ∧ v * w ≤ 1048576000000000000 :=
  ⟨Int.mul_nonneg v0 w0, Int.le_trans (Int.mul_le_mul v1 w1 w0 (by omega)) (by decide)⟩
theorem pr_le {X Y : List Int} (hs : Sam X) (ht : Sam Y) (h : X.length ≤ 32) (hl : X.length = Y.length) : -1024000000 ≤ pr X Y ∧ pr X Y ≤ 1024000000 := by
  have a := vr_le hs h
  have b := vr_le ht (by omega)
  have c := vw_le a.1 b.1 a.2 b.2
  exact sq_le (by omega) (Int.le_trans (pr_cs hl) (by omega))
/-- the square with the sign of the number -/
def sg (c : Int) : Int := if c < 0 then -(c * c) else c * c
theorem sg_abs (c : Int) : sg c = c * (if c < 0 then -c else c) := by
  unfold sg
  split
  · grind
  · rfl
theorem sg_in {c q : Int} (h : c * c ≤ q) : -q ≤ sg c ∧ sg c ≤ q := by
  have := sq_nn c
  unfold sg
  split <;> omega
theorem sg_zero (c : Int) : sg c = 0 ↔ c = 0 := by
  unfold sg
  constructor
  · intro h
    split at h
    · have : c * c = 0 := by omega
      rcases Int.mul_eq_zero.1 this with h | h <;> exact h
    · rcases Int.mul_eq_zero.1 h with h | h <;> exact h
  · rintro rfl; rfl
theorem sg_pos (c : Int) : 0 < sg c ↔ 0 < c := by
  have := sq_nn c
  unfold sg
  constructor
  · intro h
    split at h
    · omega
    · rcases Int.lt_or_le 0 c with g | g
      · exact g
      · obtain rfl : c = 0 := by omega
        simp at h
  · intro h
    rw [if_neg (by omega)]
    exact Int.mul_pos h h
theorem sg_lt {a b : Int} (h : a < b) : sg a < sg b := by
  have ha := sq_nn a
  have hb := sq_nn b
  unfold sg
  split
  · split
    · have h1 : (-b) * (-b) < (-a) * (-a) := by
        have h2 : (-b) * (-b) ≤ (-b) * (-a) := Int.mul_le_mul_of_nonneg_left (by omega) (by omega)
        have h3 : (-b) * (-a) < (-a) * (-a) := Int.mul_lt_mul_of_pos_right (by omega) (by omega)
        omega
      rw [Int.neg_mul_neg, Int.neg_mul_neg] at h1
      omega
    · have h1 : 0 < (-a) * (-a) := Int.mul_pos (by omega) (by omega)
      rw [Int.neg_mul_neg] at h1
      omega
  · rw [if_neg (by omega)]
    have h2 : a * a ≤ a * b := Int.mul_le_mul_of_nonneg_left (by omega) (by omega)
    have h3 : a * b < b * b := Int.mul_lt_mul_of_pos_right (by omega) (by omega)
    omega
theorem sg_ord (a b : Int) : (sg a < sg b ↔ a < b) ∧ (sg a = sg b ↔ a = b) := by
  rcases Int.lt_trichotomy a b with h | h | h
  · have := sg_lt h
    exact ⟨⟨fun _ => h, fun _ => this⟩, ⟨fun _ => by omega, fun _ => by omega⟩⟩
  · subst h; exact ⟨⟨fun _ => by omega, fun _ => by omega⟩, ⟨fun _ => rfl, fun _ => rfl⟩⟩
  · have := sg_lt h
    exact ⟨⟨fun _ => by omega, fun _ => by omega⟩, ⟨fun _ => by omega, fun _ => by omega⟩⟩
/-- the numerator and the denominator of the gap, before they are reduced -/
def gN (v w c : Int) : Int := if v = 0 then (if w = 0 then 0 else 1) else if w = 0 then 1 else v * w - sg c
def gD (v w : Int) : Int := if v = 0 then 1 else if w = 0 then 1 else v * w
theorem gap_in {v w c : Int} (v0 : 0 ≤ v) (w0 : 0 ≤ w) (v1 : v ≤ 1024000000) (w1 : w ≤ 1024000000) (h : c * c ≤ v * w) :
    0 ≤ gN v w c ∧ gN v w c ≤ 2097152000000000000 ∧ 1 ≤ gD v w ∧ gD v w ≤ 1048576000000000000 ∧ gN v w c ≤ 2 * gD v w := by
  have a := vw_le v0 w0 v1 w1
  have b := sg_in h
  unfold gN gD
  rcases Classical.em (v = 0) with hv | hv
  · rw [if_pos hv, if_pos hv]
    split <;> omega
  · rw [if_neg hv, if_neg hv]
    rcases Classical.em (w = 0) with hw | hw
    · rw [if_pos hw, if_pos hw]
      omega
    · rw [if_neg hw, if_neg hw]
      have : 0 < v * w := Int.mul_pos (by omega) (by omega)
      omega
/-- the reduced gap -/
def rN (v w c : Int) : Int := gN v w c / gd (gN v w c) (gD v w)
def rD (v w c : Int) : Int := gD v w / gd (gN v w c) (gD v w)
theorem red_in {v w c : Int} (v0 : 0 ≤ v) (w0 : 0 ≤ w) (v1 : v ≤ 1024000000) (w1 : w ≤ 1024000000) (h : c * c ≤ v * w) :
    RV (rN v w c) (rD v w c) ∧ rN v w c * gD v w = gN v w c * rD v w c ∧ 0 ≤ rN v w c ∧ rN v w c ≤ 2097152000000000000 ∧ 1 ≤ rD v w c ∧ rD v w c ≤ 1048576000000000000 := by
  have a := gap_in v0 w0 v1 w1 h
  have b := make_facts (n := gN v w c) (d := gD v w) a.1 a.2.2.1 (by omega) (by omega)
  unfold rN rD
  exact ⟨b.2.2.2.2.2.2.1, b.2.2.2.2.2.2.2, b.1, by omega, b.2.2.1, by omega⟩
theorem red_mul {a b k : Int} (ha : 0 ≤ a) (hb : 0 < b) (hk : 0 < k) : a * k / gd (a * k) (b * k) = a / gd a b ∧ b * k / gd (a * k) (b * k) = b / gd a b := by
  rw [gd_mul ha (by omega) (by omega)]
  exact ⟨quot_scale hk, quot_scale hk⟩
/-- a reduced gap is known by its quotient -/
theorem red_cross {v w c n d : Int} (v0 : 0 ≤ v) (w0 : 0 ≤ w) (v1 : v ≤ 1024000000) (w1 : w ≤ 1024000000) (h : c * c ≤ v * w) (hr : RV n d) (he : gN v w c * d = n * gD v w) : rN v w c = n ∧ rD v w c = d := by
  obtain ⟨a, b, _⟩ := red_in v0 w0 v1 w1 h
  have g := gap_in v0 w0 v1 w1 h
  refine rv_eq a hr ?_
  have e1 : rN v w c * d * gD v w = n * rD v w c * gD v w := by
    have : rN v w c * d * gD v w = rN v w c * gD v w * d := by grind
    rw [this, b]
    have : gN v w c * rD v w c * d = gN v w c * d * rD v w c := by grind
    rw [this, he]; grind
  exact Int.eq_of_mul_eq_mul_right (by omega) e1
theorem one_rv : RV 0 1 ∧ RV 1 1 ∧ RV 2 1 := ⟨⟨⟨by decide, by decide, by decide, by decide⟩, by decide⟩, ⟨⟨by decide, by decide, by decide, by decide⟩, by decide⟩, ⟨⟨by decide, by decide, by decide, by decide⟩, by decide⟩⟩
theorem gap_scale {v w c k : Int} (v0 : 0 ≤ v) (w0 : 0 ≤ w) (h : c * c ≤ v * w) (hk : 0 < k) : rN (k * k * v) w (k * c) = rN v w c ∧ rD (k * k * v) w (k * c) = rD v w c := by
  have hkk : 0 < k * k := Int.mul_pos hk hk
  rcases Classical.em (v = 0) with hv | hv
  · subst hv
    have e : k * k * 0 = 0 := by omega
    unfold rN rD gN gD
    rw [e]
    simp
  · have hv2 : k * k * v ≠ 0 := by have := Int.mul_pos hkk (show 0 < v by omega); omega
    rcases Classical.em (w = 0) with hw | hw
    · subst hw
      unfold rN rD gN gD
      rw [if_neg hv, if_neg hv2, if_neg hv, if_neg hv2]
      simp
    · have hs : sg (k * c) = sg c * (k * k) := by
        unfold sg
        rcases Int.lt_or_le c 0 with hc | hc
        · have : k * c < 0 := by have := Int.mul_pos hk (show 0 < -c by omega); have e : k * -c = -(k * c) := by grind
                                 omega
          rw [if_pos hc, if_pos this]; grind
        · have : 0 ≤ k * c := Int.mul_nonneg (by omega) hc
          rw [if_neg (by omega), if_neg (by omega)]; grind
      have eN : gN (k * k * v) w (k * c) = gN v w c * (k * k) := by
        unfold gN
        rw [if_neg hv, if_neg hv2, if_neg hw, if_neg hw, hs]; grind
      have eD : gD (k * k * v) w = gD v w * (k * k) := by
        unfold gD
        rw [if_neg hv, if_neg hv2, if_neg hw, if_neg hw]; grind
      have hg : 0 ≤ gN v w c := by
        unfold gN
        rw [if_neg hv, if_neg hw]
        have := sg_in h
        omega
      have hd : 0 < gD v w := by
        unfold gD
        rw [if_neg hv, if_neg hw]
        exact Int.mul_pos (by omega) (by omega)
      unfold rN rD
      rw [eN, eD]
      exact red_mul hg hd hkk
theorem gap_swap (v w c : Int) : rN v w c = rN w v c ∧ rD v w c = rD w v c := by
  have e1 : gN v w c = gN w v c := by unfold gN; rw [Int.mul_comm v w]; split <;> split <;> rfl
  have e2 : gD v w = gD w v := by unfold gD; rw [Int.mul_comm v w]; split <;> split <;> rfl
  unfold rN rD
  rw [e1, e2]
  exact ⟨rfl, rfl⟩
/-- the products of the samples -/
def pw (X Y : List Int) : List Int := List.zipWith (fun a b => a * b) X Y
theorem pw_len {X Y : List Int} (h : X.length = Y.length) : (pw X Y).length = X.length := by simp [pw, h]
theorem pw_at {X Y : List Int} (h : X.length = Y.length) (i : Nat) (hi : i < X.length) : (pw X Y).getD i 0 = X.getD i 0 * Y.getD i 0 := by
  have hj : i < Y.length := by omega
  rw [List.getD_eq_getElem?_getD, List.getD_eq_getElem?_getD, List.getD_eq_getElem?_getD, pw, List.getElem?_zipWith, List.getElem?_eq_getElem hi, List.getElem?_eq_getElem hj]
  rfl
theorem dot_pw (X Y : List Int) : dot X Y = su ix (pw X Y) := by
  induction X generalizing Y with
  | nil => rcases Y with _ | ⟨b, Y⟩ <;> rfl
  | cons a X ih =>
    rcases Y with _ | ⟨b, Y⟩
    · rfl
    · show a * b + dot X Y = a * b + su ix (pw X Y)
      rw [ih]
theorem mul_bd {A B x y : Int} (hA : 0 ≤ A) (hB : 0 ≤ B) (h1 : -A ≤ x) (h2 : x ≤ A) (h3 : -B ≤ y) (h4 : y ≤ B) : -(A * B) ≤ x * y ∧ x * y ≤ A * B := by
  have e1 : 0 ≤ (A - x) * (B + y) := Int.mul_nonneg (by omega) (by omega)
  have e2 : 0 ≤ (A + x) * (B - y) := Int.mul_nonneg (by omega) (by omega)
  have e3 : 0 ≤ (A - x) * (B - y) := Int.mul_nonneg (by omega) (by omega)
  have e4 : 0 ≤ (A + x) * (B + y) := Int.mul_nonneg (by omega) (by omega)
  have f1 : (A - x) * (B + y) + (A + x) * (B - y) = 2 * (A * B) - 2 * (x * y) := by grind
  have f2 : (A - x) * (B - y) + (A + x) * (B + y) = 2 * (A * B) + 2 * (x * y) := by grind
  omega
theorem pw_bd {A B : Int} {X Y : List Int} (hA : 0 ≤ A) (hB : 0 ≤ B) (h1 : Bd A X) (h2 : Bd B Y) : Bd (A * B) (pw X Y) := by
  induction X generalizing Y with
  | nil => intro x hx; simp [pw] at hx
  | cons a X ih =>
    rcases Y with _ | ⟨b, Y⟩
    · intro x hx; simp [pw] at hx
    · intro x hx
      rcases List.mem_cons.1 (show x ∈ (a * b) :: pw X Y from hx) with rfl | hx
      · have p := h1 a (by simp)
        have q := h2 b (by simp)
        exact mul_bd hA hB p.1 p.2 q.1 q.2
      · exact ih (fun y hy => h1 y (by simp [hy])) (fun y hy => h2 y (by simp [hy])) x hx
/-- affine copies -/
def af (s t : Int) (X : List Int) : List Int := X.map fun x => x * s + t
theorem af_su (s t : Int) (X : List Int) : su ix (af s t X) = s * su ix X + (X.length : Int) * t := by
  induction X with
  | nil => simp [af, su]
  | cons a X ih =>
    rw [show su ix (af s t (a :: X)) = (a * s + t) + su ix (af s t X) from rfl, ih, show su ix (a :: X) = a + su ix X from rfl, show ((a :: X).length : Int) = (X.length : Int) + 1 by simp]
    grind
theorem af_dot (s t p q : Int) (X Y : List Int) (h : X.length = Y.length) : dot (af s t X) (af p q Y) = s * p * dot X Y + s * q * su ix X + t * p * su ix Y + (X.length : Int) * (t * q) := by
  induction X generalizing Y with
  | nil =>
    rcases Y with _ | ⟨b, Y⟩
    · simp [af, su, dot]
    · simp at h
  | cons a X ih =>
    rcases Y with _ | ⟨b, Y⟩
    · simp at h
    · rw [show dot (af s t (a :: X)) (af p q (b :: Y)) = (a * s + t) * (b * p + q) + dot (af s t X) (af p q Y) from rfl, ih Y (by simpa using h), show dot (a :: X) (b :: Y) = a * b + dot X Y from rfl, show su ix (a :: X) = a + su ix X from rfl, show su ix (b :: Y) = b + su ix Y from rfl, show ((a :: X).length : Int) = (X.length : Int) + 1 by simp]
      grind
theorem af_at (s t : Int) (X : List Int) (i : Nat) (h : i < X.length) : (af s t X).getD i 0 = X.getD i 0 * s + t := by
  rw [List.getD_eq_getElem?_getD, List.getD_eq_getElem?_getD, af, List.getElem?_map, List.getElem?_eq_getElem h]
  rfl
theorem af_len (s t : Int) (X : List Int) : (af s t X).length = X.length := by simp [af]
theorem af_id (X : List Int) : af 1 0 X = X := by
  induction X with
  | nil => rfl
  | cons a X ih => show (a * 1 + 0) :: af 1 0 X = a :: X; rw [ih]; congr 1; omega
theorem af_pr (s t p q : Int) (X Y : List Int) (h : X.length = Y.length) : pr (af s t X) (af p q Y) = s * p * pr X Y := by
  unfold pr
  rw [af_dot _ _ _ _ _ _ h, af_su, af_su, af_len, ← h]
  grind
theorem af_vr (s t : Int) (X : List Int) : vr (af s t X) = s * s * vr X := by
  rw [← pr_self, af_pr _ _ _ _ _ _ rfl, pr_self]
/-- the centred samples -/
def cen (X : List Int) : List Int := af (X.length : Int) (-su ix X) X
theorem cen_su (X : List Int) : su ix (cen X) = 0 := by unfold cen; rw [af_su]; grind
theorem cen_dot {X Y : List Int} (h : X.length = Y.length) : dot (cen X) (cen Y) = (X.length : Int) * pr X Y := by
  unfold cen pr; rw [af_dot _ _ _ _ _ _ h, ← h]; grind
theorem cen_bd {X : List Int} (hs : Sam X) (h : X.length ≤ 32) : Bd 64000 (cen X) := by
  intro y hy
  obtain ⟨x, hx, rfl⟩ := List.mem_map.1 hy
  have a := hs x hx
  have b := su_in hs
  have c := mul_bd (A := 1000) (B := 32) (by decide) (by decide) (by omega) a.2 (show -32 ≤ (X.length : Int) by omega) (by omega)
  omega
/-- some sample is not as the first one -/
def spr (X : List Int) : Prop := vr X ≠ 0
theorem vr_two (X : List Int) (i : Nat) (hi : i < X.length) : (X.getD i 0 - X.getD 0 0) * (X.getD i 0 - X.getD 0 0) ≤ vr X := by
  rcases Nat.eq_zero_or_pos i with rfl | h0
  · have := vr_nn X; simpa using this
  · have h1 := vr_parts (X.take (i + 1)) (X.drop (i + 1))
    rw [List.take_append_drop] at h1
    have h2 := vr_nn (X.drop (i + 1))
    rw [take_snoc X i hi, vr_snoc] at h1
    have h3 := vr_nn (X.take i)
    rcases X with _ | ⟨a, X⟩
    · simp at hi
    · obtain ⟨j, rfl⟩ : ∃ j, i = j + 1 := ⟨i - 1, by omega⟩
      have e : difs ((a :: X).getD (j + 1) 0) ((a :: X).take (j + 1)) = ((a :: X).getD (j + 1) 0 - a) * ((a :: X).getD (j + 1) 0 - a) + difs ((a :: X).getD (j + 1) 0) (X.take j) := rfl
      have nn : ∀ x L, 0 ≤ difs x L := fun x L => by
        induction L with
        | nil => simp [difs]
        | cons y L ih => have := sq_nn (x - y); simp only [difs]; omega
      have h4 := nn ((a :: X).getD (j + 1) 0) (X.take j)
      rw [e] at h1
      have e2 : (a :: X).getD 0 0 = a := rfl
      rw [e2]
      omega
theorem vr_same (X : List Int) (h : ∀ i, i < X.length → X.getD i 0 = X.getD 0 0) : vr X = 0 := by
  have e : X = af 0 (X.getD 0 0) X := by
    apply List.ext_getElem?
    intro i
    rcases Nat.lt_or_ge i X.length with hi | hi
    · have := h i hi
      rw [List.getD_eq_getElem?_getD, List.getElem?_eq_getElem hi] at this
      rw [List.getElem?_eq_getElem hi, af, List.getElem?_map, List.getElem?_eq_getElem hi]
      simp only [Option.map_some, Option.getD_some] at *
      rw [this]; simp
    · rw [List.getElem?_eq_none hi, List.getElem?_eq_none (by rw [af_len]; exact hi)]
  rw [e, af_vr]
  omega
theorem su_rev (f : Int → Int) (X : List Int) : su f X.reverse = su f X := by
  induction X with
  | nil => rfl
  | cons a X ih => rw [List.reverse_cons, su_snoc, ih]; show _ = f a + su f X; omega
theorem dot_app (A B C D : List Int) (h : A.length = B.length) : dot (A ++ C) (B ++ D) = dot A B + dot C D := by
  induction A generalizing B with
  | nil =>
    rcases B with _ | ⟨b, B⟩
    · simp [dot]
    · simp at h
  | cons a A ih =>
    rcases B with _ | ⟨b, B⟩
    · simp at h
    · show a * b + dot (A ++ C) (B ++ D) = a * b + dot A B + dot C D
      rw [ih B (by simpa using h)]; omega
theorem dot_rev (X Y : List Int) (h : X.length = Y.length) : dot X.reverse Y.reverse = dot X Y := by
  induction X generalizing Y with
  | nil => rcases Y with _ | ⟨b, Y⟩ <;> simp_all [dot]
  | cons a X ih =>
    rcases Y with _ | ⟨b, Y⟩
    · simp at h
    · have hl : X.length = Y.length := by simpa using h
      rw [List.reverse_cons, List.reverse_cons, dot_app _ _ _ _ (by simpa using hl), ih Y hl]
      show dot X Y + dot [a] [b] = a * b + dot X Y
      simp [dot]; omega
theorem pr_rev (X Y : List Int) (h : X.length = Y.length) : pr X.reverse Y.reverse = pr X Y := by
  unfold pr; rw [dot_rev _ _ h, su_rev, su_rev, List.length_reverse]
theorem vr_rev (X : List Int) : vr X.reverse = vr X := by rw [← pr_self, pr_rev _ _ rfl, pr_self]
theorem vr_turn (X : List Int) (k : Nat) : vr (X.drop k ++ X.take k) = vr X := by
  have e : ∀ f, su f (X.drop k ++ X.take k) = su f X := fun f => by
    rw [su_append, Int.add_comm, ← su_append, List.take_append_drop]
  unfold vr
  rw [e, e, List.length_append, Nat.add_comm, ← List.length_append, List.take_append_drop]
end Go.Proofs.Ytmgdoglnckkobaa.Wi
namespace Go.Proofs.Ytmgdoglnckkobaa.Wi
open Ra
set_option linter.unusedVariables false
theorem su_ix (L : List Int) : su id L = su ix L := by
  induction L with
  | nil => rfl
  | cons a L ih => simp only [su, ih, id, ix]
theorem su_df (X Y : List Int) (h : X.length = Y.length) : su id (df X Y) = su id X - su id Y := by
  induction X generalizing Y with
  | nil => rcases Y with _ | ⟨y, Y⟩; rfl; simp at h
  | cons x X ih =>
    rcases Y with _ | ⟨y, Y⟩
    · simp at h
    · have := ih Y (by simpa using h)
      show (x - y) + su id (df X Y) = (x + su id X) - (y + su id Y)
      rw [this]
      omega
theorem pg_df (X Y : List Int) (h : X.length = Y.length) (a b : Nat) : pg X a b - pg Y a b = pg (df X Y) a b := by
  unfold pg
  rw [← df_drop, ← df_take, su_df]
  simp [h]
/-- the bound by pieces of a row of differences -/
def bq (D : List Int) (m n : Nat) : Int := tq (fun k => pg D (st m n k) (st m n (k + 1)) * pg D (st m n k) (st m n (k + 1)) * wq (m / n) (st m n (k + 1) - st m n k)) n
/-- what the bounds of a number of pieces are divided by -/
def cq (m n : Nat) : Int := ((m / n : Nat) : Int) * (((m / n : Nat) : Int) + 1)
theorem cq_in (m n : Nat) (n1 : 1 ≤ n) (nm : n ≤ m) (m32 : m ≤ 32) : 1 ≤ cq m n ∧ cq m n ≤ 1056 := by
  unfold cq
  have h1 : 1 ≤ m / n := Nat.div_pos nm n1
  have h2 : m / n ≤ m := Nat.div_le_self m n
  have a : ((m / n : Nat) : Int) * (((m / n : Nat) : Int) + 1) ≤ 32 * 33 := Int.mul_le_mul (by omega) (by omega) (by omega) (by omega)
  have b : 1 * 1 ≤ ((m / n : Nat) : Int) * (((m / n : Nat) : Int) + 1) := Int.mul_le_mul (by omega) (by omega) (by omega) (by omega)
  omega
theorem sz (m n k : Nat) (n1 : 1 ≤ n) : st m n k + m / n ≤ st m n (k + 1) ∧ st m n (k + 1) ≤ st m n k + m / n + 1 := st_step m n k n1
theorem sz_mul (m n k : Nat) (n1 : 1 ≤ n) : ((st m n (k + 1) - st m n k : Nat) : Int) * wq (m / n) (st m n (k + 1) - st m n k) = cq m n := by
  have h := sz m n k n1
  obtain ⟨a, ha⟩ : ∃ a, st m n k = a := ⟨_, rfl⟩
  obtain ⟨b, hb⟩ : ∃ a, st m n (k + 1) = a := ⟨_, rfl⟩
  obtain ⟨c, hc⟩ : ∃ a, m / n = a := ⟨_, rfl⟩
  unfold cq
  rw [ha, hb, hc] at h
  rw [ha, hb, hc]
  exact wq_mul (by omega) (by omega)
theorem wq_nn (l k : Nat) : 0 ≤ wq l k := by unfold wq; split <;> omega
theorem pg_cs (D : List Int) (a b : Nat) (hab : a ≤ b) (hb : b ≤ D.length) : pg D a b * pg D a b ≤ ((b - a : Nat) : Int) * su sq ((D.drop a).take (b - a)) := by
  have h := vr_nn ((D.drop a).take (b - a))
  unfold vr at h
  have hl : ((D.drop a).take (b - a)).length = b - a := by simp; omega
  rw [hl, ← su_ix] at h
  unfold pg
  omega
/-- the squares of the first numbers -/
def psq (D : List Int) (t : Nat) : Int := su sq (D.take t)
theorem psq_part (D : List Int) (a b : Nat) (h : a ≤ b) : su sq ((D.drop a).take (b - a)) = psq D b - psq D a := by
  unfold psq
  have e : D.take b = D.take a ++ (D.drop a).take (b - a) := by rw [← List.take_add, show a + (b - a) = b by omega]
  rw [e, su_append]
  omega
theorem tq_tel (f : Nat → Int) (n : Nat) : tq (fun k => f (k + 1) - f k) n = f n - f 0 := by
  induction n with
  | zero => simp [tq]
  | succ n ih => show tq (fun k => f (k + 1) - f k) n + (f (n + 1) - f n) = _; rw [ih]; omega
theorem tq_le {f g : Nat → Int} {n : Nat} (h : ∀ i, i < n → f i ≤ g i) : ∀ i, i ≤ n → tq f i ≤ tq g i := by
  intro i
  induction i with
  | zero => intro _; exact Int.le_refl _
  | succ i ih => intro hi; have h1 := ih (by omega); have h2 := h i (by omega); show tq f i + f i ≤ tq g i + g i; omega
theorem tq_mul (c : Int) (f : Nat → Int) (n : Nat) : tq (fun k => c * f k) n = c * tq f n := by
  induction n with
  | zero => simp [tq]
  | succ n ih => show tq (fun k => c * f k) n + c * f n = c * (tq f n + f n); rw [ih, Int.mul_add]
theorem tq_add (f g : Nat → Int) (n : Nat) : tq (fun k => f k + g k) n = tq f n + tq g n := by
  induction n with
  | zero => simp [tq]
  | succ n ih => show tq (fun k => f k + g k) n + (f n + g n) = (tq f n + f n) + (tq g n + g n); rw [ih]; omega
/-- the bound of pieces is at most the sum of the squares -/
theorem bq_le (D : List Int) (m n : Nat) (hD : D.length = m) (n1 : 1 ≤ n) : bq D m n ≤ su sq D * cq m n := by
  have key : bq D m n ≤ tq (fun k => cq m n * (psq D (st m n (k + 1)) - psq D (st m n k))) n := by
    unfold bq
    refine tq_le (n := n) (fun k hk => ?_) n (Nat.le_refl n)
    have h1 := pg_cs D (st m n k) (st m n (k + 1)) (st_mono m n _ _ (by omega)) (by rw [hD]; exact st_le m n _ (by omega) (by omega))
    rw [psq_part D _ _ (st_mono m n _ _ (by omega))] at h1
    have h2 := Int.mul_le_mul_of_nonneg_right h1 (wq_nn (m / n) (st m n (k + 1) - st m n k))
    have h3 := sz_mul m n k n1
    refine Int.le_trans h2 ?_
    rw [← h3, Int.mul_right_comm]
    exact Int.le_refl _
  have e := tq_tel (fun k => psq D (st m n k)) n
  have e2 : psq D (st m n n) = su sq D := by rw [st_all m n n1]; unfold psq; rw [List.take_of_length_le (by omega)]
  have e3 : psq D (st m n 0) = 0 := by rw [st_zero]; rfl
  rw [tq_mul, e, e2, e3, Int.sub_zero, Int.mul_comm] at key
  exact key
theorem bq_nn (D : List Int) (m n : Nat) : 0 ≤ bq D m n := by
  unfold bq
  exact tq_nn (n := n) (fun k _ => Int.mul_nonneg (sq_nn _) (wq_nn _ _)) n (Nat.le_refl n)
/-- numbers times a number, shifted -/
theorem pg_af (s t : Int) (D : List Int) (a b : Nat) (hab : a ≤ b) (hb : b ≤ D.length) : pg (af s t D) a b = s * pg D a b + ((b - a : Nat) : Int) * t := by
  have e : ((af s t D).drop a).take (b - a) = af s t ((D.drop a).take (b - a)) := by simp [af, List.map_take, List.map_drop]
  unfold pg
  rw [e, su_ix, su_ix, af_su]
  have hl : ((D.drop a).take (b - a)).length = b - a := by simp; omega
  rw [hl]
theorem df_af (s t u : Int) (X Y : List Int) : df (af s t X) (af s u Y) = af s (t - u) (df X Y) := by
  induction X generalizing Y with
  | nil => rfl
  | cons x X ih =>
    rcases Y with _ | ⟨y, Y⟩
    · rfl
    · have := ih Y
      show ((x * s + t) - (y * s + u)) :: df (af s t X) (af s u Y) = ((x - y) * s + (t - u)) :: af s (t - u) (df X Y)
      rw [this]
      congr 1
      grind
theorem df_cen (X Y : List Int) (h : X.length = Y.length) : df (cen X) (cen Y) = cen (df X Y) := by
  unfold cen
  rw [← h, df_af, df_len h]
  congr 1
  have := su_df X Y h
  rw [su_ix, su_ix, su_ix] at this
  omega
/-- the centred bound -/
theorem bq_cen (D : List Int) (m n : Nat) (hD : D.length = m) (n1 : 1 ≤ n) : bq (cen D) m n = (m : Int) * (m : Int) * bq D m n - (m : Int) * cq m n * (su ix D * su ix D) := by
  obtain ⟨S, hS⟩ : ∃ S, su ix D = S := ⟨_, rfl⟩
  obtain ⟨C, hC⟩ : ∃ C, cq m n = C := ⟨_, rfl⟩
  have key : bq (cen D) m n = tq (fun k => ((m : Int) * (m : Int) * (pg D (st m n k) (st m n (k + 1)) * pg D (st m n k) (st m n (k + 1)) * wq (m / n) (st m n (k + 1) - st m n k)) + (-(2 * (m : Int) * S * C)) * (pre D (st m n (k + 1)) - pre D (st m n k))) + (S * S * C) * (((st m n (k + 1) : Nat) : Int) - ((st m n k : Nat) : Int))) n := by
    unfold bq
    refine tq_cong (n := n) (fun k hk => ?_) n (Nat.le_refl n)
    have hab := st_mono m n k (k + 1) (by omega)
    have e1 : pg (cen D) (st m n k) (st m n (k + 1)) = (m : Int) * pg D (st m n k) (st m n (k + 1)) + ((st m n (k + 1) - st m n k : Nat) : Int) * (-S) := by
      unfold cen
      rw [pg_af _ _ _ _ _ hab (by rw [hD]; exact st_le m n _ (by omega) (by omega)), hD, hS]
    have e2 := sz_mul m n k n1
    have e3 := pg_pre D _ _ hab
    have e4 : ((st m n (k + 1) : Nat) : Int) - ((st m n k : Nat) : Int) = ((st m n (k + 1) - st m n k : Nat) : Int) := by omega
    show pg (cen D) (st m n k) (st m n (k + 1)) * pg (cen D) (st m n k) (st m n (k + 1)) * wq (m / n) (st m n (k + 1) - st m n k) = _
    rw [e1, ← e3, e4]
    rw [hC] at e2
    obtain ⟨z, hz⟩ : ∃ z, ((st m n (k + 1) - st m n k : Nat) : Int) = z := ⟨_, rfl⟩
    obtain ⟨y, hy⟩ : ∃ z, wq (m / n) (st m n (k + 1) - st m n k) = z := ⟨_, rfl⟩
    obtain ⟨p, hp⟩ : ∃ z, pg D (st m n k) (st m n (k + 1)) = z := ⟨_, rfl⟩
    rw [hz, hy] at e2
    rw [hz, hy, hp, ← e2]
    grind
  rw [key, tq_add, tq_add, tq_mul, tq_mul, tq_mul, tq_tel (fun k => pre D (st m n k)), tq_tel (fun k => ((st m n k : Nat) : Int)), st_all m n n1, st_zero]
  have e5 : pre D m = S := by unfold pre; rw [List.take_of_length_le (by omega), su_ix, hS]
  have e6 : pre D 0 = 0 := rfl
  rw [e5, e6]
  rw [hC, hS]
  unfold bq
  obtain ⟨Q, hQ⟩ : ∃ Q, tq (fun k => pg D (st m n k) (st m n (k + 1)) * pg D (st m n k) (st m n (k + 1)) * wq (m / n) (st m n (k + 1) - st m n k)) n = Q := ⟨_, rfl⟩
  rw [hQ]
  simp only [Int.natCast_zero, Int.sub_zero]
  grind
theorem cen_sq (D : List Int) : su sq (cen D) = (D.length : Int) * vr D := by
  rw [← dot_self, cen_dot rfl, pr_self]
theorem cen_len' (D : List Int) : (cen D).length = D.length := by unfold cen; rw [af_len]
/-- with as many pieces as numbers -/
theorem bq_all (D : List Int) (m : Nat) (hD : D.length = m) (m1 : 1 ≤ m) : bq D m m = su sq D * 2 ∧ cq m m = 2 := by
  have e0 : ∀ k, st m m k = k := fun k => by unfold st; exact Nat.mul_div_cancel k m1
  have e1 : m / m = 1 := Nat.div_self m1
  refine ⟨?_, by unfold cq; rw [e1]; rfl⟩
  have key : bq D m m = tq (fun k => 2 * (psq D (k + 1) - psq D k)) m := by
    unfold bq
    refine tq_cong (n := m) (fun k hk => ?_) m (Nat.le_refl m)
    rw [e0, e0, e1, show k + 1 - k = 1 by omega]
    have h1 : pg D k (k + 1) = D.getD k 0 := by
      rw [pg_pre D k (k + 1) (by omega)]
      unfold pre
      rw [su_next id D k (by omega)]
      show su id (D.take k) + D.getD k 0 - su id (D.take k) = _
      omega
    have h2 : psq D (k + 1) - psq D k = D.getD k 0 * D.getD k 0 := by
      unfold psq
      rw [su_next sq D k (by omega)]
      show su sq (D.take k) + D.getD k 0 * D.getD k 0 - su sq (D.take k) = _
      omega
    rw [h1, h2, show wq 1 1 = 2 from rfl]
    omega
  rw [key, tq_mul, tq_tel (fun k => psq D k)]
  have e2 : psq D m = su sq D := by unfold psq; rw [List.take_of_length_le (by omega)]
  have e3 : psq D 0 = 0 := rfl
  rw [e2, e3]
  omega
theorem tq_two (f : Nat → Int) (n : Nat) : tq f (2 * n) = tq (fun k => f (2 * k) + f (2 * k + 1)) n := by
  induction n with
  | zero => rfl
  | succ n ih =>
    show tq f (2 * n + 1 + 1) = tq (fun k => f (2 * k) + f (2 * k + 1)) n + (f (2 * n) + f (2 * n + 1))
    show tq f (2 * n) + f (2 * n) + f (2 * n + 1) = _
    rw [ih]
    omega
/-- (a + b)² / (s + t) is at most a² / s + b² / t -/
theorem two_le {a b s t w u v C K : Int} (hs : 1 ≤ s) (ht : 1 ≤ t) (hC : 1 ≤ C) (hK : 1 ≤ K) (hw : (s + t) * w = C) (hu : s * u = K) (hv : t * v = K) :
    (a + b) * (a + b) * w * K ≤ (a * a * u + b * b * v) * C := by
  have hst : 1 ≤ s * t := by have : 1 * 1 ≤ s * t := Int.mul_le_mul hs ht (by omega) (by omega); omega
  have hp : 0 < s * t * (s + t) := Int.mul_pos (by omega) (by omega)
  have hCK : 0 ≤ C * K := Int.mul_nonneg (by omega) (by omega)
  have base : 0 ≤ (a * t - b * s) * (a * t - b * s) := sq_nn _
  have h1 : (a + b) * (a + b) * (s * t) ≤ (a * a * t + b * b * s) * (s + t) := by
    have e : (a * a * t + b * b * s) * (s + t) - (a + b) * (a + b) * (s * t) = (a * t - b * s) * (a * t - b * s) := by grind
    omega
  have h2 := Int.mul_le_mul_of_nonneg_right h1 hCK
  have e1 : (a + b) * (a + b) * w * K * (s * t * (s + t)) = (a + b) * (a + b) * (s * t) * (C * K) := by rw [← hw]; grind
  have e2 : (a * a * u + b * b * v) * C * (s * t * (s + t)) = (a * a * t + b * b * s) * (s + t) * (C * K) := by
    have : (a * a * u + b * b * v) * C * (s * t * (s + t)) = (a * a * t * (s * u) + b * b * s * (t * v)) * C * (s + t) := by grind
    rw [this, hu, hv]
    grind
  rw [← e1, ← e2] at h2
  exact Int.le_of_mul_le_mul_right h2 hp
theorem st_half (m n k : Nat) (n1 : 1 ≤ n) : st m (2 * n) (2 * k) = st m n k := by
  unfold st
  rw [Nat.mul_assoc]
  exact Nat.mul_div_mul_left _ _ (by omega)
/-- finer pieces: no lesser bound -/
theorem bq_two (D : List Int) (m n : Nat) (hD : D.length = m) (n1 : 1 ≤ n) (nm : 2 * n ≤ m) (m32 : m ≤ 32) : bq D m n * cq m (2 * n) ≤ bq D m (2 * n) * cq m n := by
  obtain ⟨C, hC⟩ : ∃ C, cq m n = C := ⟨_, rfl⟩
  obtain ⟨K, hK⟩ : ∃ C, cq m (2 * n) = C := ⟨_, rfl⟩
  have c1 := (cq_in m n n1 (by omega) m32).1
  have k1 := (cq_in m (2 * n) (by omega) nm m32).1
  rw [hC] at c1
  rw [hK] at k1
  rw [hC, hK, Int.mul_comm (bq D m n), Int.mul_comm (bq D m (2 * n))]
  unfold bq
  rw [tq_two, ← tq_mul, ← tq_mul]
  refine tq_le (n := n) (fun k hk => ?_) n (Nat.le_refl n)
  have h2 := sz m (2 * n) (2 * k) (by omega)
  have h3 := sz m (2 * n) (2 * k + 1) (by omega)
  have hl : 1 ≤ m / (2 * n) := Nat.div_pos nm (by omega)
  have m1 := sz_mul m n k n1
  have m2 := sz_mul m (2 * n) (2 * k) (by omega)
  have m3 := sz_mul m (2 * n) (2 * k + 1) (by omega)
  have e0 := st_half m n k n1
  have e1 : st m (2 * n) (2 * k + 1 + 1) = st m n (k + 1) := st_half m n (k + 1) n1
  rw [e0] at h2 m2
  rw [e1] at h3 m3
  show K * (pg D (st m n k) (st m n (k + 1)) * pg D (st m n k) (st m n (k + 1)) * wq (m / n) (st m n (k + 1) - st m n k)) ≤ C * (pg D (st m (2 * n) (2 * k)) (st m (2 * n) (2 * k + 1)) * pg D (st m (2 * n) (2 * k)) (st m (2 * n) (2 * k + 1)) * wq (m / (2 * n)) (st m (2 * n) (2 * k + 1) - st m (2 * n) (2 * k)) + pg D (st m (2 * n) (2 * k + 1)) (st m (2 * n) (2 * k + 1 + 1)) * pg D (st m (2 * n) (2 * k + 1)) (st m (2 * n) (2 * k + 1 + 1)) * wq (m / (2 * n)) (st m (2 * n) (2 * k + 1 + 1) - st m (2 * n) (2 * k + 1)))
  rw [e0, e1]
  obtain ⟨M, hM⟩ : ∃ M, st m (2 * n) (2 * k + 1) = M := ⟨_, rfl⟩
  obtain ⟨A, hA⟩ : ∃ M, st m n k = M := ⟨_, rfl⟩
  obtain ⟨B, hB⟩ : ∃ M, st m n (k + 1) = M := ⟨_, rfl⟩
  rw [hM, hA] at h2 m2
  rw [hM, hB] at h3 m3
  rw [hA, hB] at m1
  rw [hM, hA, hB]
  rw [hC] at m1
  rw [hK] at m2 m3
  have ep : pg D A B = pg D A M + pg D M B := by rw [pg_pre D A B (by omega), pg_pre D A M (by omega), pg_pre D M B (by omega)]; omega
  have es : ((B - A : Nat) : Int) = ((M - A : Nat) : Int) + ((B - M : Nat) : Int) := by omega
  rw [es] at m1
  rw [ep, Int.mul_comm K, Int.mul_comm C]
  exact two_le (by omega) (by omega) c1 k1 m1 m2 m3
end Go.Proofs.Ytmgdoglnckkobaa.Wi
namespace Go.Proofs.Ytmgdoglnckkobaa.Rt
theorem mul_mono {a b c d : Int} (h1 : a ≤ b) (h2 : c ≤ d) (ha : 0 ≤ a) (hc : 0 ≤ c) : a * c ≤ b * d :=
  Int.mul_le_mul h1 h2 hc (by omega)
theorem sq_mono {a b : Int} (h : a ≤ b) (ha : 0 ≤ a) : a * a ≤ b * b := mul_mono h h ha ha
theorem sq_lt {a b : Int} (h : a < b) (ha : 0 ≤ a) : a * a < b * b := by
  have := mul_mono (a := a + 1) (b := b) (c := a + 1) (d := b) (by omega) (by omega) (by omega) (by omega)
  have e : (a + 1) * (a + 1) = a * a + 2 * a + 1 := by grind
  omega
theorem of_sq_lt {a b : Int} (h : a * a < b * b) (hb : 0 ≤ b) : a < b := by
  rcases Int.lt_or_le a b with h1 | h1
  · exact h1
  · have := sq_mono h1 hb; omega
theorem of_sq_le {a b : Int} (h : a * a ≤ b * b) (hb : 0 ≤ b) : a ≤ b := by
  rcases Int.lt_or_le b a with h1 | h1
  · have := sq_lt h1 hb; omega
  · exact h1
/-- the root, rounded down, of a number that is not negative -/
def sqF : Nat → Nat → Nat
  | 0, _ => 0
  | f + 1, n => if (sqF f n + 1) * (sqF f n + 1) ≤ n then sqF f n + 1 else sqF f n
theorem sqF_le (f n : Nat) : sqF f n * sqF f n ≤ n := by
  induction f with
  | zero => simp [sqF]
  | succ f ih => unfold sqF; split <;> assumption
theorem sqF_lt (f n : Nat) : (sqF f n + 1) * (sqF f n + 1) ≤ n → sqF f n = f := by
  induction f with
  | zero => intro _; rfl
  | succ f ih =>
    unfold sqF
    split
    · rename_i h; intro _; rw [ih h]
    · rename_i h; intro h2; exact absurd h2 h
theorem sqF_bound (n : Nat) : n < (sqF n n + 1) * (sqF n n + 1) := by
  rcases Nat.lt_or_ge n ((sqF n n + 1) * (sqF n n + 1)) with h | h
  · exact h
  · have e := sqF_lt n n h
    rw [e] at h
    have : n + 1 ≤ (n + 1) * (n + 1) := Nat.le_mul_of_pos_left _ (by omega)
    omega
def isq (n : Int) : Int := (sqF n.toNat n.toNat : Nat)
theorem isq_nonneg (n : Int) : 0 ≤ isq n := by unfold isq; omega
theorem isq_le {n : Int} (h : 0 ≤ n) : isq n * isq n ≤ n := by
  have := sqF_le n.toNat n.toNat
  have h2 : ((sqF n.toNat n.toNat * sqF n.toNat n.toNat : Nat) : Int) ≤ (n.toNat : Nat) := by exact_mod_cast this
  unfold isq
  rw [Int.natCast_mul] at h2
  omega
theorem isq_lt {n : Int} (h : 0 ≤ n) : n < (isq n + 1) * (isq n + 1) := by
  have := sqF_bound n.toNat
  have h2 : ((n.toNat : Nat) : Int) < (((sqF n.toNat n.toNat + 1) * (sqF n.toNat n.toNat + 1) : Nat) : Int) := by exact_mod_cast this
  unfold isq
  rw [Int.natCast_mul] at h2
  simp only [Int.natCast_add, Int.natCast_one] at h2
  omega
theorem isq_uniq {n r : Int} (hr : 0 ≤ r) (h1 : r * r ≤ n) (h2 : n < (r + 1) * (r + 1)) : isq n = r := by
  have hn : 0 ≤ n := by have := Int.mul_nonneg hr hr; omega
  have a1 := isq_le hn
  have a2 := isq_lt hn
  have a0 := isq_nonneg n
  have l1 : isq n < r + 1 := of_sq_lt (by omega) (by omega)
  have l2 : r < isq n + 1 := of_sq_lt (by omega) (by omega)
  omega
theorem isq_mono {a b : Int} (ha : 0 ≤ a) (h : a ≤ b) : isq a ≤ isq b := by
  have a1 := isq_le ha
  have a2 := isq_lt (n := b) (by omega)
  have l : isq a < isq b + 1 := of_sq_lt (by omega) (by have := isq_nonneg b; omega)
  omega
theorem isq_max : isq 4611686018427387904 = 2147483648 := isq_uniq (by decide) (by decide) (by decide)
theorem isq_le_max {n : Int} (h : 0 ≤ n) (h2 : n ≤ 4611686018427387904) : isq n ≤ 2147483648 := by
  have := isq_mono h h2; rw [isq_max] at this; exact this
theorem isq_zero : isq 0 = 0 := isq_uniq (by decide) (by decide) (by decide)
/-- what Floor returns -/
def flo (n : Int) : Int := if n < 0 ∨ 4611686018427387904 < n then 0 else isq n
/-- what Ceil returns -/
def cei (n : Int) : Int := if n < 0 ∨ 4611686018427387904 < n then 0 else if isq n * isq n < n then isq n + 1 else isq n
theorem flo_in {n : Int} (h : 0 ≤ n) (h2 : n ≤ 4611686018427387904) : flo n = isq n := by unfold flo; rw [if_neg (by omega)]
theorem flo_out {n : Int} (h : n < 0 ∨ 4611686018427387904 < n) : flo n = 0 := by unfold flo; rw [if_pos h]
theorem cei_out {n : Int} (h : n < 0 ∨ 4611686018427387904 < n) : cei n = 0 := by unfold cei; rw [if_pos h]
theorem cei_up {n : Int} (h : 0 ≤ n) (h2 : n ≤ 4611686018427387904) (h3 : isq n * isq n < n) : cei n = isq n + 1 := by unfold cei; rw [if_neg (by omega), if_pos h3]
theorem cei_eq {n : Int} (h : 0 ≤ n) (h2 : n ≤ 4611686018427387904) (h3 : ¬ isq n * isq n < n) : cei n = isq n := by unfold cei; rw [if_neg (by omega), if_neg h3]
theorem flo_bd (n : Int) : 0 ≤ flo n ∧ flo n ≤ 2147483648 := by
  unfold flo
  split
  · omega
  · exact ⟨isq_nonneg n, isq_le_max (by omega) (by omega)⟩
theorem flo_sq {n : Int} (h : 0 ≤ n) (h2 : n ≤ 4611686018427387904) : flo n * flo n ≤ n ∧ n < (flo n + 1) * (flo n + 1) := by
  rw [flo_in h h2]; exact ⟨isq_le h, isq_lt h⟩
theorem cei_bd (n : Int) : 0 ≤ cei n ∧ cei n ≤ 2147483648 := by
  rcases Classical.em (n < 0 ∨ 4611686018427387904 < n) with h | h
  · rw [cei_out h]; omega
  · have h0 := isq_nonneg n
    have h3 := isq_le_max (n := n) (by omega) (by omega)
    rcases Classical.em (isq n * isq n < n) with h1 | h1
    · rw [cei_up (by omega) (by omega) h1]
      have : isq n < 2147483648 := of_sq_lt (by omega) (by omega)
      omega
    · rw [cei_eq (by omega) (by omega) h1]; omega
/-- the bits of the loops: 0, and then the powers of two -/
def bitv : Nat → Int
  | 0 => 0
  | k + 1 => 2 ^ k
theorem bitv_half (k : Nat) : bitv (k + 1) / 2 = bitv k := by
  cases k with
  | zero => rfl
  | succ k => simp only [bitv]; rw [Int.pow_succ]; omega
theorem bitv_pos (k : Nat) : 1 ≤ bitv (k + 1) := by
  simp only [bitv]
  exact Int.pow_pos (by decide)
theorem bitv_le {k : Nat} (h : k ≤ 32) : 0 ≤ bitv k ∧ bitv k ≤ 2147483648 := by
  have : k = 0 ∨ ∃ j, k = j + 1 ∧ j ≤ 31 := by
    cases k with
    | zero => exact .inl rfl
    | succ j => exact .inr ⟨j, rfl, by omega⟩
  rcases this with rfl | ⟨j, rfl, hj⟩
  · decide
  · constructor
    · have := bitv_pos j; omega
    · have : (2:Int) ^ j ≤ 2 ^ 31 := by
        have := Nat.pow_le_pow_right (n := 2) (by omega) hj
        exact_mod_cast this
      simpa [bitv] using this
theorem bitv_le' {k : Nat} (h : k ≤ 31) : bitv k ≤ 1073741824 := by
  have h1 := bitv_half k
  have h2 := bitv_le (k := k + 1) (by omega)
  omega
theorem bitv_two (k : Nat) : (2:Int) ^ (k + 1) = 2 * bitv (k + 1) := by simp only [bitv]; rw [Int.pow_succ]; omega
theorem bitv_32 : bitv 32 = 2147483648 := by decide
/-- the relation at the head of the loops: the root so far, and the bit that is tried next -/
def Rel (n r : Int) (k : Nat) : Prop := 0 ≤ r ∧ r ≤ 2147483648 ∧ r * r ≤ n ∧ n < (r + 2 ^ k) * (r + 2 ^ k) ∧ (k = 32 → r = 0) ∧ k ≤ 32
theorem rel_start {n : Int} (h : 0 ≤ n) (h2 : n ≤ 4611686018427387904) : Rel n 0 32 := by
  refine ⟨by decide, by decide, by omega, ?_, fun _ => rfl, by decide⟩
  have : (0 + (2:Int)^32) * (0 + 2^32) = 18446744073709551616 := by decide
  omega
theorem rel_yes {n r : Int} {k : Nat} (h : Rel n r (k + 1)) (hn : n ≤ 4611686018427387904) (hy : (r + bitv (k + 1)) * (r + bitv (k + 1)) ≤ n) : Rel n (r + bitv (k + 1)) k := by
  obtain ⟨h1, h2, h3, h4, h5, h6⟩ := h
  have hb := bitv_pos k
  refine ⟨by omega, ?_, hy, ?_, by omega, by omega⟩
  · exact of_sq_le (by omega) (by decide)
  · rw [bitv_two] at h4
    have e : r + 2 * bitv (k + 1) = r + bitv (k + 1) + 2 ^ k := by simp only [bitv]; omega
    rw [e] at h4; exact h4
theorem rel_no {n r : Int} {k : Nat} (h : Rel n r (k + 1)) (hy : ¬ (r + bitv (k + 1)) * (r + bitv (k + 1)) ≤ n) : Rel n r k := by
  obtain ⟨h1, h2, h3, h4, h5, h6⟩ := h
  refine ⟨h1, h2, h3, by simp only [bitv] at hy; omega, by omega, by omega⟩
theorem rel_end {n r : Int} (h : Rel n r 0) : isq n = r := by
  obtain ⟨h1, h2, h3, h4, h5, h6⟩ := h
  exact isq_uniq h1 h3 (by simpa using h4)
theorem rel_more {n r b : Int} : (2 * r + b) * b ≤ n - r * r ↔ (r + b) * (r + b) ≤ n := by
  constructor <;> intro h <;> grind
theorem rel_next {n x b : Int} : n - x * x - (2 * x + b) * b = n - (x + b) * (x + b) := by grind
theorem rel_bd {n r : Int} {k : Nat} (h : Rel n r (k + 1)) : 0 ≤ (2 * r + bitv (k + 1)) * bitv (k + 1) ∧ (2 * r + bitv (k + 1)) * bitv (k + 1) ≤ 9223372036854775807 := by
  obtain ⟨h1, h2, h3, h4, h5, h6⟩ := h
  have hb := bitv_pos k
  have hl := bitv_le (k := k + 1) (by omega)
  constructor
  · exact Int.mul_nonneg (by omega) (by omega)
  · rcases Nat.lt_or_ge k 31 with hk | hk
    · have hl' := bitv_le' (k := k + 1) (by omega)
      have := mul_mono (a := 2 * r + bitv (k + 1)) (b := 5368709120) (c := bitv (k + 1)) (d := 1073741824) (by omega) hl' (by omega) (by omega)
      omega
    · have : r = 0 := h5 (by omega)
      have := mul_mono (a := 2 * r + bitv (k + 1)) (b := 2147483648) (c := bitv (k + 1)) (d := 2147483648) (by omega) (by omega) (by omega) (by omega)
      omega
/-- what Quotient returns within its limits -/
def quo (t e : Int) : Int :=
  if 0 ≤ t then isq (t * t / e) else if isq (t * t / e) * isq (t * t / e) * e < t * t then -(isq (t * t / e) + 1) else -isq (t * t / e)
def QIn (t e : Int) : Prop := -2147483648 ≤ t ∧ t ≤ 2147483648 ∧ 1 ≤ e ∧ e ≤ 4611686018427387904
theorem sq_bd {t : Int} (h1 : -2147483648 ≤ t) (h2 : t ≤ 2147483648) : 0 ≤ t * t ∧ t * t ≤ 4611686018427387904 := by
  rcases Int.le_total 0 t with h | h
  · exact ⟨Int.mul_nonneg h h, sq_mono h2 h⟩
  · have e : t * t = (-t) * (-t) := by grind
    rw [e]
    exact ⟨Int.mul_nonneg (by omega) (by omega), sq_mono (a := -t) (b := 2147483648) (by omega) (by omega)⟩
theorem div_bd {a e : Int} (h0 : 0 ≤ a) (h1 : a ≤ 4611686018427387904) (he : 1 ≤ e) : 0 ≤ a / e ∧ a / e ≤ 4611686018427387904 := by
  constructor
  · exact Int.ediv_nonneg h0 (by omega)
  · have := Int.ediv_le_self e h0; omega
theorem div_mul {a e : Int} (he : 1 ≤ e) : a / e * e ≤ a ∧ a < a / e * e + e ∧ a % e = a - a / e * e := by
  have h1 := Int.emod_add_mul_ediv a e
  have h2 := Int.emod_nonneg a (b := e) (by omega)
  have h3 := Int.emod_lt_of_pos a (b := e) (by omega)
  have h4 : e * (a / e) = a / e * e := Int.mul_comm _ _
  omega
theorem mul_le {a b e : Int} (h : a ≤ b) (he : 0 ≤ e) : a * e ≤ b * e := Int.mul_le_mul_of_nonneg_right h he
theorem mul_cancel_le {a b e : Int} (h : a * e ≤ b * e) (he : 0 < e) : a ≤ b := Int.le_of_mul_le_mul_right h he
theorem qq_le {t e : Int} (h : QIn t e) : 0 ≤ isq (t * t / e) * isq (t * t / e) * e ∧ isq (t * t / e) * isq (t * t / e) * e ≤ t * t := by
  obtain ⟨h1, h2, h3, h4⟩ := h
  have a := sq_bd h1 h2
  have d := div_bd a.1 a.2 h3
  have m := div_mul (a := t * t) h3
  have q := isq_le d.1
  have q0 := isq_nonneg (t * t / e)
  have q2 := Int.mul_nonneg q0 q0
  have l := mul_le (e := e) q (by omega)
  exact ⟨Int.mul_nonneg q2 (by omega), by omega⟩
theorem quo_pos {t e : Int} (h : 0 ≤ t) : quo t e = isq (t * t / e) := by unfold quo; rw [if_pos h]
theorem quo_up {t e : Int} (h : t < 0) (h2 : isq (t * t / e) * isq (t * t / e) * e < t * t) : quo t e = -(isq (t * t / e) + 1) := by unfold quo; rw [if_neg (by omega), if_pos h2]
theorem quo_eq {t e : Int} (h : t < 0) (h2 : ¬ isq (t * t / e) * isq (t * t / e) * e < t * t) : quo t e = -isq (t * t / e) := by unfold quo; rw [if_neg (by omega), if_neg h2]
theorem quo_cei0 {t e : Int} (h : QIn t e) (ht : t < 0) (hm : t * t % e = 0) : -cei (t * t / e) = quo t e := by
  obtain ⟨h1, h2, h3, h4⟩ := id h
  have a := sq_bd h1 h2
  have d := div_bd a.1 a.2 h3
  have m := div_mul (a := t * t) h3
  have q := isq_le d.1
  rcases Classical.em (isq (t * t / e) * isq (t * t / e) < t * t / e) with g | g
  · have l := mul_le (a := isq (t * t / e) * isq (t * t / e) + 1) (b := t * t / e) (e := e) (by omega) (by omega)
    have l2 : (isq (t * t / e) * isq (t * t / e) + 1) * e = isq (t * t / e) * isq (t * t / e) * e + e := by grind
    rw [cei_up d.1 d.2 g, quo_up ht (by omega)]
  · have e1 : isq (t * t / e) * isq (t * t / e) = t * t / e := by omega
    rw [cei_eq d.1 d.2 g, quo_eq ht (by rw [e1]; omega)]
theorem quo_cei1 {t e : Int} (h : QIn t e) (ht : t < 0) (hm : t * t % e ≠ 0) : -cei (t * t / e + 1) = quo t e ∧ t * t / e + 1 ≤ 4611686018427387904 := by
  obtain ⟨h1, h2, h3, h4⟩ := id h
  have a := sq_bd h1 h2
  have d := div_bd a.1 a.2 h3
  have m := div_mul (a := t * t) h3
  have q := isq_le d.1
  have q1 := isq_lt d.1
  have q0 := isq_nonneg (t * t / e)
  have l := mul_le (e := e) q (by omega)
  have hbd : t * t / e + 1 ≤ 4611686018427387904 := by
    rcases Classical.em (e = 1) with he | he
    · subst he; simp at hm
    · have := Int.ediv_lt_self_of_pos_of_ne_one (x := t * t) (y := e)
      rcases Int.lt_or_le (t * t / e) (t * t) with hl | hl
      · omega
      · have := mul_le (a := 2) (b := e) (e := t * t / e) (by omega) d.1
        have e5 : e * (t * t / e) = t * t / e * e := Int.mul_comm _ _
        have : t * t / e = 0 := by omega
        omega
  refine ⟨?_, hbd⟩
  rw [quo_up ht (by omega)]
  rcases Classical.em ((isq (t * t / e) + 1) * (isq (t * t / e) + 1) = t * t / e + 1) with g | g
  · have u : isq (t * t / e + 1) = isq (t * t / e) + 1 := isq_uniq (by omega) (by omega) (by
      have := sq_lt (a := isq (t * t / e) + 1) (b := isq (t * t / e) + 1 + 1) (by omega) (by omega); omega)
    rw [cei_eq (by omega) hbd (by rw [u]; omega), u]
  · have u : isq (t * t / e + 1) = isq (t * t / e) := isq_uniq q0 (by omega) (by omega)
    rw [cei_up (by omega) hbd (by rw [u]; omega), u]
theorem cei_mono {a b : Int} (ha : 0 ≤ a) (h : a ≤ b) (hb : b ≤ 4611686018427387904) : cei a ≤ cei b := by
  have m1 := isq_mono ha h
  have a1 := isq_le ha
  have b1 := isq_le (n := b) (by omega)
  have b2 := isq_lt (n := b) (by omega)
  rcases Classical.em (isq a * isq a < a) with g | g
  · rw [cei_up ha (by omega) g]
    rcases Classical.em (isq b * isq b < b) with k | k
    · rw [cei_up (by omega) hb k]; omega
    · rw [cei_eq (by omega) hb k]
      have : isq a < isq b := of_sq_lt (by omega) (isq_nonneg b)
      omega
  · rw [cei_eq ha (by omega) g]
    rcases Classical.em (isq b * isq b < b) with k | k
    · rw [cei_up (by omega) hb k]; omega
    · rw [cei_eq (by omega) hb k]; omega
theorem flo_mono {a b : Int} (ha : 0 ≤ a) (h : a ≤ b) (hb : b ≤ 4611686018427387904) : flo a ≤ flo b := by
  rw [flo_in ha (by omega), flo_in (by omega) hb]; exact isq_mono ha h
theorem div_mono {a b e : Int} (h : a ≤ b) (he : 1 ≤ e) : a / e ≤ b / e := Int.ediv_le_ediv (by omega) h
theorem div_anti {a d e : Int} (ha : 0 ≤ a) (hd : 1 ≤ d) (h : d ≤ e) : a / e ≤ a / d := by
  have m := div_mul (a := a) (e := e) (by omega)
  have p : 0 ≤ a / e := Int.ediv_nonneg ha (by omega)
  have l : a / e * d ≤ a / e * e := Int.mul_le_mul_of_nonneg_left h p
  exact (Int.le_ediv_iff_mul_le (by omega)).2 (by omega)
theorem up_ge {t e : Int} (h : QIn t e) (ht : t < 0) : quo t e ≤ 0 ∧ t * t ≤ -quo t e * -quo t e * e := by
  obtain ⟨h1, h2, h3, h4⟩ := id h
  have a := sq_bd h1 h2
  have d := div_bd a.1 a.2 h3
  have m := div_mul (a := t * t) h3
  have q1 := isq_lt d.1
  have q0 := isq_nonneg (t * t / e)
  rcases Classical.em (isq (t * t / e) * isq (t * t / e) * e < t * t) with g | g
  · rw [quo_up ht g, Int.neg_neg]
    have l := mul_le (a := t * t / e + 1) (b := (isq (t * t / e) + 1) * (isq (t * t / e) + 1)) (e := e) (by omega) (by omega)
    have l2 : (t * t / e + 1) * e = t * t / e * e + e := by grind
    omega
  · rw [quo_eq ht g, Int.neg_neg]; omega
theorem up_least {t e d : Int} (h : QIn t e) (ht : t < 0) (hd : 0 ≤ d) (hh : t * t ≤ d * d * e) : -quo t e ≤ d := by
  obtain ⟨h1, h2, h3, h4⟩ := id h
  have q0 := isq_nonneg (t * t / e)
  rcases Int.lt_or_le d (-quo t e) with hl | hl
  · exfalso
    rcases Classical.em (isq (t * t / e) * isq (t * t / e) * e < t * t) with g | g
    · rw [quo_up ht g] at hl
      have := mul_le (e := e) (sq_mono (a := d) (b := isq (t * t / e)) (by omega) hd) (by omega)
      omega
    · rw [quo_eq ht g] at hl
      have s := sq_lt (a := d) (b := isq (t * t / e)) (by omega) hd
      have l := mul_le (a := d * d + 1) (b := isq (t * t / e) * isq (t * t / e)) (e := e) (by omega) (by omega)
      have l2 : (d * d + 1) * e = d * d * e + e := by grind
      have q := (qq_le h).2
      omega
  · exact hl
theorem quo_nonneg {t e : Int} (h : 0 ≤ t) : 0 ≤ quo t e := by rw [quo_pos h]; exact isq_nonneg _
theorem quo_mono {t s e : Int} (h1 : QIn t e) (h2 : QIn s e) (h : t ≤ s) : quo t e ≤ quo s e := by
  obtain ⟨a1, a2, a3, a4⟩ := id h1
  rcases Int.lt_or_le t 0 with ht | ht
  · have u := up_ge h1 ht
    rcases Int.lt_or_le s 0 with hs | hs
    · have e1 : s * s ≤ t * t := by
        have := sq_mono (a := -s) (b := -t) (by omega) (by omega)
        have e1 : -s * -s = s * s := by grind
        have e2 : -t * -t = t * t := by grind
        omega
      have := up_least (d := -quo t e) h2 hs (by omega) (by omega)
      omega
    · have := quo_nonneg (e := e) hs; omega
  · rw [quo_pos ht, quo_pos (by omega)]
    have := sq_bd a1 a2
    exact isq_mono (div_bd this.1 this.2 a3).1 (div_mono (sq_mono h ht) a3)
theorem quo_anti {t d e : Int} (ht : 0 ≤ t) (h1 : QIn t d) (h : d ≤ e) (h2 : QIn t e) : quo t e ≤ quo t d := by
  obtain ⟨a1, a2, a3, a4⟩ := id h1
  obtain ⟨b1, b2, b3, b4⟩ := id h2
  rw [quo_pos ht, quo_pos ht]
  have s := sq_bd a1 a2
  exact isq_mono (div_bd s.1 s.2 b3).1 (div_anti s.1 a3 h)
theorem quo_scale {t e f : Int} (hf : 1 ≤ f) : quo (t * f) (e * f * f) = quo t e := by
  have ff : 0 < f * f := Int.mul_pos (by omega) (by omega)
  have e1 : t * f * (t * f) = f * f * (t * t) := by grind
  have e2 : e * f * f = f * f * e := by grind
  have e3 : t * f * (t * f) / (e * f * f) = t * t / e := by rw [e1, e2]; exact Int.mul_ediv_mul_of_pos _ _ ff
  unfold quo
  rw [e3]
  have c1 : (0 ≤ t * f) = (0 ≤ t) := by
    apply propext
    constructor
    · intro h
      rcases Int.lt_or_le t 0 with h1 | h1
      · have := Int.mul_lt_mul_of_pos_right h1 (show (0:Int) < f by omega); simp at this; omega
      · exact h1
    · intro h; exact Int.mul_nonneg h (by omega)
  have c2 : (isq (t * t / e) * isq (t * t / e) * (e * f * f) < t * f * (t * f)) = (isq (t * t / e) * isq (t * t / e) * e < t * t) := by
    have e4 : isq (t * t / e) * isq (t * t / e) * (e * f * f) = f * f * (isq (t * t / e) * isq (t * t / e) * e) := by grind
    rw [e1, e4]
    exact propext (Int.mul_lt_mul_left ff)
  simp only [c1, c2]
end Go.Proofs.Ytmgdoglnckkobaa.Rt
namespace Go.Proofs.Ytmgdoglnckkobaa.Wi
open Ra
set_option linter.unusedVariables false
/-- the length of a piece -/
def ln (m n k : Nat) : Nat := st m n (k + 1) - st m n k
theorem ln_pos (m n k : Nat) (n1 : 1 ≤ n) (nm : n ≤ m) : 1 ≤ ln m n k := by
  have h := sz m n k n1
  have : 1 ≤ m / n := Nat.div_pos nm n1
  unfold ln; omega
theorem ln_le (m n k : Nat) (n1 : 1 ≤ n) (hk : k < n) : ln m n k ≤ m := by
  have := st_le m n (k + 1) n1 (by omega)
  unfold ln; omega
/-- a quotient, rounded up -/
def cl (a l : Int) : Int := -((-a) / l)
theorem cl_ge {a l : Int} (h : 0 < l) : a ≤ l * cl a l := by
  have h1 := Int.mul_ediv_add_emod (-a) l
  have h2 := Int.emod_nonneg (-a) (show l ≠ 0 by omega)
  unfold cl
  rw [Int.mul_neg]
  omega
theorem cl_lt {a l : Int} (h : 0 < l) : l * cl a l < a + l := by
  have h1 := Int.mul_ediv_add_emod (-a) l
  have h2 := Int.emod_lt_of_pos (-a) h
  unfold cl
  rw [Int.mul_neg]
  omega
theorem cl_one (a : Int) : cl a 1 = a := by unfold cl; simp
theorem cl_bd {a l B : Int} (h : 0 < l) (hB : 0 ≤ B) (h1 : -B ≤ a) (h2 : a ≤ B) : -B ≤ cl a l ∧ cl a l ≤ B := by
  have g1 := cl_ge (a := a) h
  have g2 := cl_lt (a := a) h
  obtain ⟨c, hc⟩ : ∃ c, cl a l = c := ⟨_, rfl⟩
  rw [hc] at g1 g2 ⊢
  constructor
  · rcases Int.lt_or_le c (-B) with h3 | h3
    · have e1 : l * c ≤ l * (-B - 1) := Int.mul_le_mul_of_nonneg_left (by omega) (by omega)
      have e2 : 1 * (B + 1) ≤ l * (B + 1) := Int.mul_le_mul_of_nonneg_right (by omega) (by omega)
      have e3 : l * (-B - 1) = -(l * (B + 1)) := by grind
      omega
    · exact h3
  · rcases Int.lt_or_le B c with h3 | h3
    · have e1 : l * (B + 1) ≤ l * c := Int.mul_le_mul_of_nonneg_left (by omega) (by omega)
      have e2 : l * (B + 1) = l * B + l := by grind
      have e3 : 1 * B ≤ l * B := Int.mul_le_mul_of_nonneg_right (by omega) hB
      omega
    · exact h3
/-- the sums of the pieces -/
def pa (X : List Int) (m n k : Nat) : Int := pg X (st m n k) (st m n (k + 1))
/-- what the sums of the pieces do not have of the squares -/
def rsd (X : List Int) (m n : Nat) : Int := su sq X - tq (fun k => pa X m n k * pa X m n k / (ln m n k : Int)) n
theorem tq_fl_le (X : List Int) (m n : Nat) (hX : X.length = m) (n1 : 1 ≤ n) (nm : n ≤ m) : tq (fun k => pa X m n k * pa X m n k / (ln m n k : Int)) n ≤ su sq X := by
  have key : tq (fun k => pa X m n k * pa X m n k / (ln m n k : Int)) n ≤ tq (fun k => psq X (st m n (k + 1)) - psq X (st m n k)) n := by
    refine tq_le (n := n) (fun k hk => ?_) n (Nat.le_refl n)
    have h1 := pg_cs X (st m n k) (st m n (k + 1)) (st_mono m n _ _ (by omega)) (by rw [hX]; exact st_le m n _ (by omega) (by omega))
    rw [psq_part X _ _ (st_mono m n _ _ (by omega))] at h1
    have hp := ln_pos m n k n1 nm
    show pa X m n k * pa X m n k / (ln m n k : Int) ≤ _
    unfold pa ln at *
    exact Int.ediv_le_of_le_mul (by omega) (by have e := Int.mul_comm (psq X (st m n (k + 1)) - psq X (st m n k)) ((st m n (k + 1) - st m n k : Nat) : Int); rw [e]; exact h1)
  have e := tq_tel (fun k => psq X (st m n k)) n
  have e2 : psq X (st m n n) = su sq X := by rw [st_all m n n1]; unfold psq; rw [List.take_of_length_le (by omega)]
  have e3 : psq X (st m n 0) = 0 := by rw [st_zero]; rfl
  rw [e, e2, e3, Int.sub_zero] at key
  exact key
theorem tq_fl_nn (X : List Int) (m n : Nat) : ∀ i, i ≤ n → 0 ≤ tq (fun k => pa X m n k * pa X m n k / (ln m n k : Int)) i :=
  tq_nn (n := n) (fun k _ => Int.ediv_nonneg (sq_nn _) (by omega))
theorem tq_fl_mono (X : List Int) (m n : Nat) : ∀ (d i : Nat), tq (fun k => pa X m n k * pa X m n k / (ln m n k : Int)) i ≤ tq (fun k => pa X m n k * pa X m n k / (ln m n k : Int)) (i + d)
  | 0, i => Int.le_refl _
  | d + 1, i => by
    have h1 := tq_fl_mono X m n d i
    have h2 : 0 ≤ pa X m n (i + d) * pa X m n (i + d) / (ln m n (i + d) : Int) := Int.ediv_nonneg (sq_nn _) (by omega)
    show _ ≤ tq _ (i + d) + pa X m n (i + d) * pa X m n (i + d) / (ln m n (i + d) : Int)
    omega
theorem rsd_in (X : List Int) (m n : Nat) (hX : X.length = m) (n1 : 1 ≤ n) (nm : n ≤ m) : 0 ≤ rsd X m n ∧ rsd X m n ≤ su sq X := by
  have h1 := tq_fl_le X m n hX n1 nm
  have h2 := tq_fl_nn X m n n (Nat.le_refl n)
  unfold rsd
  omega
/-- the products of the sums of the pieces -/
def bx (X Y : List Int) (m n : Nat) : Int := tq (fun k => pa X m n k * pa Y m n k * wq (m / n) (ln m n k)) n
theorem pg_lc (s t : Int) (X Y : List Int) (h : X.length = Y.length) (a b : Nat) : pg (lc s t X Y) a b = s * pg X a b + t * pg Y a b := by
  have e : ((lc s t X Y).drop a).take (b - a) = lc s t ((X.drop a).take (b - a)) ((Y.drop a).take (b - a)) := by simp [lc, List.take_zipWith, List.drop_zipWith]
  unfold pg
  rw [e, su_ix, su_ix, su_ix, lc_su _ _ _ _ (by simp [h])]
theorem bq_lc (s t : Int) (X Y : List Int) (m n : Nat) (h : X.length = Y.length) : bq (lc s t X Y) m n = s * s * bq X m n + 2 * (s * t) * bx X Y m n + t * t * bq Y m n := by
  unfold bq bx
  rw [← tq_mul, ← tq_mul, ← tq_mul, ← tq_add, ← tq_add]
  refine tq_cong (n := n) (fun k hk => ?_) n (Nat.le_refl n)
  show pg (lc s t X Y) _ _ * pg (lc s t X Y) _ _ * _ = _
  rw [pg_lc s t X Y h]
  unfold pa ln
  grind
/-- products of what is left of two rows -/
theorem left_cs (X Y : List Int) (m n : Nat) (hX : X.length = m) (hY : Y.length = m) (n1 : 1 ≤ n) :
    (dot X Y * cq m n - bx X Y m n) * (dot X Y * cq m n - bx X Y m n) ≤ (su sq X * cq m n - bq X m n) * (su sq Y * cq m n - bq Y m n) :=
  quad_cs fun s t => by
    have h := bq_le (lc s t X Y) m n (by rw [lc_len _ _ (by omega)]; exact hX) n1
    rw [bq_lc s t X Y m n (by omega), lc_sq _ _ _ _ (by omega)] at h
    have e : s * s * (su sq X * cq m n - bq X m n) + 2 * (s * t) * (dot X Y * cq m n - bx X Y m n) + t * t * (su sq Y * cq m n - bq Y m n) = (s * s * su sq X + 2 * (s * t) * dot X Y + t * t * su sq Y) * cq m n - (s * s * bq X m n + 2 * (s * t) * bx X Y m n + t * t * bq Y m n) := by grind
    omega
theorem ln_w (m n k : Nat) (n1 : 1 ≤ n) : (ln m n k : Int) * wq (m / n) (ln m n k) = cq m n := sz_mul m n k n1
theorem rsd_ge (X : List Int) (m n : Nat) (n1 : 1 ≤ n) (nm : n ≤ m) : su sq X * cq m n - bq X m n ≤ cq m n * rsd X m n := by
  have key : cq m n * tq (fun k => pa X m n k * pa X m n k / (ln m n k : Int)) n ≤ bq X m n := by
    unfold bq
    rw [← tq_mul]
    refine tq_le (n := n) (fun k hk => ?_) n (Nat.le_refl n)
    have hp := ln_pos m n k n1 nm
    have h1 : (ln m n k : Int) * (pa X m n k * pa X m n k / (ln m n k : Int)) ≤ pa X m n k * pa X m n k := Int.mul_ediv_self_le (by omega)
    have h2 := Int.mul_le_mul_of_nonneg_right h1 (wq_nn (m / n) (ln m n k))
    show cq m n * (pa X m n k * pa X m n k / (ln m n k : Int)) ≤ pa X m n k * pa X m n k * wq (m / n) (ln m n k)
    rw [← ln_w m n k n1]
    refine Int.le_trans (Int.le_of_eq ?_) h2
    grind
  unfold rsd
  rw [Int.mul_sub, Int.mul_comm (cq m n) (su sq X)]
  omega
theorem bx_le (X Y : List Int) (m n : Nat) (n1 : 1 ≤ n) (nm : n ≤ m) : bx X Y m n ≤ cq m n * tq (fun k => cl (pa X m n k * pa Y m n k) (ln m n k : Int)) n := by
  unfold bx
  rw [← tq_mul]
  refine tq_le (n := n) (fun k hk => ?_) n (Nat.le_refl n)
  have hp := ln_pos m n k n1 nm
  have h1 := cl_ge (a := pa X m n k * pa Y m n k) (l := (ln m n k : Int)) (by omega)
  have h2 := Int.mul_le_mul_of_nonneg_right h1 (wq_nn (m / n) (ln m n k))
  show pa X m n k * pa Y m n k * wq (m / n) (ln m n k) ≤ cq m n * cl (pa X m n k * pa Y m n k) (ln m n k : Int)
  rw [← ln_w m n k n1]
  refine Int.le_trans h2 (Int.le_of_eq ?_)
  grind
/-- the sum of which Upper is the part -/
def ups (X Y : List Int) (m n : Nat) : Int := Rt.cei (rsd X m n) * Rt.cei (rsd Y m n) + tq (fun k => cl (pa X m n k * pa Y m n k) (ln m n k : Int)) n
theorem cei_sq {n : Int} (h : 0 ≤ n) (h2 : n ≤ 4611686018427387904) : n ≤ Rt.cei n * Rt.cei n := by
  rcases Classical.em (Rt.isq n * Rt.isq n < n) with h1 | h1
  · rw [Rt.cei_up h h2 h1]
    have := Rt.isq_lt h
    omega
  · rw [Rt.cei_eq h h2 h1]; omega
theorem cei_le {n B : Int} (h : 0 ≤ n) (hB : 0 ≤ B) (h2 : n ≤ B * B) (h3 : n ≤ 4611686018427387904) : Rt.cei n ≤ B := by
  rcases Classical.em (Rt.isq n * Rt.isq n < n) with h1 | h1
  · rw [Rt.cei_up h h3 h1]
    have := Rt.of_sq_lt (a := Rt.isq n) (b := B) (by omega) hB
    omega
  · rw [Rt.cei_eq h h3 h1]
    exact Rt.of_sq_le (by have := Rt.isq_le h; omega) hB
/-- a bound of the square of a root rounded up -/
theorem cei_sq_le {n B : Int} (h : 0 ≤ n) (hB : 0 ≤ B) (h2 : n ≤ B * B) (h3 : n ≤ 4611686018427387904) : Rt.cei n * Rt.cei n ≤ n + 2 * B := by
  rcases Classical.em (Rt.isq n * Rt.isq n < n) with h1 | h1
  · have h5 := cei_le h hB h2 h3
    rw [Rt.cei_up h h3 h1] at h5 ⊢
    have e : (Rt.isq n + 1) * (Rt.isq n + 1) = Rt.isq n * Rt.isq n + 2 * Rt.isq n + 1 := by grind
    omega
  · rw [Rt.cei_eq h h3 h1]
    have := Rt.isq_le h
    omega
/-- the sum is at least the product -/
theorem ups_ge (X Y : List Int) (m n : Nat) (hX : X.length = m) (hY : Y.length = m) (n1 : 1 ≤ n) (nm : n ≤ m) (m32 : m ≤ 32)
    (bX : su sq X ≤ 32768000000) (bY : su sq Y ≤ 32768000000) : dot X Y ≤ ups X Y m n := by
  have c1 := (cq_in m n n1 nm m32).1
  have r1 := rsd_in X m n hX n1 nm
  have r2 := rsd_in Y m n hY n1 nm
  have g1 := rsd_ge X m n n1 nm
  have g2 := rsd_ge Y m n n1 nm
  have f2 := bq_le Y m n hY n1
  have f1 := bq_le X m n hX n1
  have l := left_cs X Y m n hX hY n1
  have b := bx_le X Y m n n1 nm
  have s1 := cei_sq (n := rsd X m n) r1.1 (by omega)
  have s2 := cei_sq (n := rsd Y m n) r2.1 (by omega)
  have z1 := (Rt.cei_bd (rsd X m n)).1
  have z2 := (Rt.cei_bd (rsd Y m n)).1
  unfold ups
  obtain ⟨R, hR⟩ : ∃ R, Rt.cei (rsd X m n) = R := ⟨_, rfl⟩
  obtain ⟨T, hT⟩ : ∃ R, Rt.cei (rsd Y m n) = R := ⟨_, rfl⟩
  obtain ⟨K, hK⟩ : ∃ R, cq m n = R := ⟨_, rfl⟩
  obtain ⟨D, hD⟩ : ∃ R, dot X Y * cq m n - bx X Y m n = R := ⟨_, rfl⟩
  obtain ⟨C, hC⟩ : ∃ R, tq (fun k => cl (pa X m n k * pa Y m n k) (ln m n k : Int)) n = R := ⟨_, rfl⟩
  obtain ⟨F, hF⟩ : ∃ R, su sq X * cq m n - bq X m n = R := ⟨_, rfl⟩
  obtain ⟨G, hG⟩ : ∃ R, su sq Y * cq m n - bq Y m n = R := ⟨_, rfl⟩
  have f3 : 0 ≤ F := by omega
  have f4 : 0 ≤ G := by omega
  rw [hR] at s1 z1
  rw [hT] at s2 z2
  rw [hD, hF, hG] at l
  rw [hF] at g1
  rw [hG] at g2
  rw [hC] at b
  rw [hK] at c1 g1 g2 b hD
  rw [hR, hT, hC]
  have u1 : F ≤ K * (R * R) := Int.le_trans g1 (Int.mul_le_mul_of_nonneg_left s1 (by omega))
  have u2 : G ≤ K * (T * T) := Int.le_trans g2 (Int.mul_le_mul_of_nonneg_left s2 (by omega))
  have u3 : F * G ≤ (K * (R * R)) * (K * (T * T)) := Int.mul_le_mul u1 u2 f4 (by omega)
  have e3 : (K * (R * R)) * (K * (T * T)) = (K * (R * T)) * (K * (R * T)) := by grind
  have nn : 0 ≤ K * (R * T) := Int.mul_nonneg (by omega) (Int.mul_nonneg z1 z2)
  have u4 : D ≤ K * (R * T) := Rt.of_sq_le (by omega) nn
  have u5 : K * dot X Y ≤ K * (R * T + C) := by
    rw [Int.mul_add]
    have : K * dot X Y = dot X Y * K := Int.mul_comm ..
    omega
  exact Int.le_of_mul_le_mul_left u5 (by omega)
/-- the products of the sums are not too great -/
theorem two_mul_le (a b : Int) : 2 * (a * b) ≤ a * a + b * b ∧ -(a * a + b * b) ≤ 2 * (a * b) := by
  have h1 := sq_nn (a - b)
  have h2 := sq_nn (a + b)
  have e1 : (a - b) * (a - b) = a * a + b * b - 2 * (a * b) := by grind
  have e2 : (a + b) * (a + b) = a * a + b * b + 2 * (a * b) := by grind
  omega
theorem cl_two {a b l : Int} (h : 0 < l) : 2 * cl (a * b) l ≤ a * a / l + b * b / l + 3 ∧ -(a * a / l + b * b / l + 2) ≤ 2 * cl (a * b) l := by
  have t := two_mul_le a b
  have g1 := cl_ge (a := a * b) h
  have g2 := cl_lt (a := a * b) h
  have p1 := Int.lt_mul_ediv_self_add (x := a * a) h
  have p2 := Int.lt_mul_ediv_self_add (x := b * b) h
  obtain ⟨c, hc⟩ : ∃ c, cl (a * b) l = c := ⟨_, rfl⟩
  obtain ⟨p, hp⟩ : ∃ c, a * a / l = c := ⟨_, rfl⟩
  obtain ⟨q, hq⟩ : ∃ c, b * b / l = c := ⟨_, rfl⟩
  rw [hc] at g1 g2 ⊢
  rw [hp] at p1 ⊢
  rw [hq] at p2 ⊢
  constructor
  · rcases Int.lt_or_le (p + q + 3) (2 * c) with h3 | h3
    · have e1 : l * (p + q + 4) ≤ l * (2 * c) := Int.mul_le_mul_of_nonneg_left (by omega) (by omega)
      have e2 : l * (p + q + 4) = l * p + l * q + 4 * l := by grind
      have e3 : l * (2 * c) = 2 * (l * c) := by grind
      omega
    · exact h3
  · rcases Int.lt_or_le (2 * c) (-(p + q + 2)) with h3 | h3
    · have e1 : l * (2 * c) ≤ l * (-(p + q + 2) - 1) := Int.mul_le_mul_of_nonneg_left (by omega) (by omega)
      have e2 : l * (-(p + q + 2) - 1) = -(l * p + l * q + 3 * l) := by grind
      have e3 : l * (2 * c) = 2 * (l * c) := by grind
      omega
    · exact h3
theorem tq_cl_in (X Y : List Int) (m n : Nat) (n1 : 1 ≤ n) (nm : n ≤ m) : ∀ i, i ≤ n →
    2 * tq (fun k => cl (pa X m n k * pa Y m n k) (ln m n k : Int)) i ≤ tq (fun k => pa X m n k * pa X m n k / (ln m n k : Int)) i + tq (fun k => pa Y m n k * pa Y m n k / (ln m n k : Int)) i + 3 * (i : Int) ∧
    -(tq (fun k => pa X m n k * pa X m n k / (ln m n k : Int)) i + tq (fun k => pa Y m n k * pa Y m n k / (ln m n k : Int)) i + 2 * (i : Int)) ≤ 2 * tq (fun k => cl (pa X m n k * pa Y m n k) (ln m n k : Int)) i
  | 0, _ => by simp [tq]
  | i + 1, hi => by
    have ih := tq_cl_in X Y m n n1 nm i (by omega)
    have hp := ln_pos m n i n1 nm
    have h := cl_two (a := pa X m n i) (b := pa Y m n i) (l := (ln m n i : Int)) (by omega)
    show 2 * (tq _ i + cl (pa X m n i * pa Y m n i) (ln m n i : Int)) ≤ (tq _ i + pa X m n i * pa X m n i / (ln m n i : Int)) + (tq _ i + pa Y m n i * pa Y m n i / (ln m n i : Int)) + 3 * ((i + 1 : Nat) : Int) ∧ -((tq _ i + pa X m n i * pa X m n i / (ln m n i : Int)) + (tq _ i + pa Y m n i * pa Y m n i / (ln m n i : Int)) + 2 * ((i + 1 : Nat) : Int)) ≤ 2 * (tq _ i + cl (pa X m n i * pa Y m n i) (ln m n i : Int))
    omega
/-- the sum of which Upper is the part lies within these bounds -/
theorem ups_in (X Y : List Int) (m n : Nat) (hX : X.length = m) (hY : Y.length = m) (n1 : 1 ≤ n) (nm : n ≤ m) (n8 : n ≤ 8) (S : Int) (hS : S ≤ 32768000000)
    (bX : su sq X ≤ S) (bY : su sq Y ≤ S) : -S - 8 ≤ ups X Y m n ∧ ups X Y m n ≤ 2 * S + 362072 := by
  have r1 := rsd_in X m n hX n1 nm
  have r2 := rsd_in Y m n hY n1 nm
  have t1 := tq_fl_le X m n hX n1 nm
  have t2 := tq_fl_le Y m n hY n1 nm
  have c := tq_cl_in X Y m n n1 nm n (Nat.le_refl n)
  have s1 := cei_sq_le (n := rsd X m n) (B := 181020) r1.1 (by decide) (by omega) (by omega)
  have s2 := cei_sq_le (n := rsd Y m n) (B := 181020) r2.1 (by decide) (by omega) (by omega)
  have z1 := (Rt.cei_bd (rsd X m n)).1
  have z2 := (Rt.cei_bd (rsd Y m n)).1
  have zz := Int.mul_nonneg z1 z2
  have tm := (two_mul_le (Rt.cei (rsd X m n)) (Rt.cei (rsd Y m n))).1
  unfold ups
  omega
theorem ups_comm (X Y : List Int) (m n : Nat) : ups X Y m n = ups Y X m n := by
  unfold ups
  rw [Int.mul_comm (Rt.cei (rsd X m n))]
  congr 1
  refine tq_cong (n := n) (fun k hk => ?_) n (Nat.le_refl n)
  rw [Int.mul_comm (pa X m n k)]
/-- the squares of the centred samples -/
theorem cen_en {X : List Int} {m : Nat} (hX : X.length = m) (hs : Sam X) (m32 : m ≤ 32) : 0 ≤ (m : Int) * vr X ∧ (m : Int) * vr X ≤ (m : Int) * (m : Int) * (m : Int) * 1000000 ∧ (m : Int) * (m : Int) * (m : Int) * 1000000 ≤ 32768000000 ∧ su sq (cen X) = (m : Int) * vr X := by
  have q := sq_su_in hs
  have nn := sq_nn (su ix X)
  have v := vr_nn X
  rw [hX] at q
  have v1 : vr X ≤ (m : Int) * (m : Int) * 1000000 := by
    have a : (m : Int) * su sq X ≤ (m : Int) * (1000000 * (m : Int)) := Int.mul_le_mul_of_nonneg_left q.2 (by omega)
    have e : (m : Int) * (1000000 * (m : Int)) = (m : Int) * (m : Int) * 1000000 := by grind
    unfold vr
    rw [hX]
    omega
  have a1 : (m : Int) * (m : Int) ≤ 32 * 32 := Int.mul_le_mul (by omega) (by omega) (by omega) (by omega)
  have a2 : (m : Int) * (m : Int) * (m : Int) ≤ 1024 * 32 := Int.mul_le_mul (by omega) (by omega) (by omega) (by omega)
  refine ⟨Int.mul_nonneg (by omega) v, ?_, by omega, by rw [cen_sq, hX]⟩
  have := Int.mul_le_mul_of_nonneg_left v1 (show 0 ≤ (m : Int) by omega)
  have e : (m : Int) * ((m : Int) * (m : Int) * 1000000) = (m : Int) * (m : Int) * (m : Int) * 1000000 := by grind
  omega
/-- what Upper returns -/
def upv (X Y : List Int) (m n : Nat) : Int := ups (cen X) (cen Y) m n / (m : Int)
theorem upv_in {X Y : List Int} {m n : Nat} (hX : X.length = m) (hY : Y.length = m) (n1 : 1 ≤ n) (nm : n ≤ m) (n8 : n ≤ 8) (m2 : 2 ≤ m) (m32 : m ≤ 32) (hs : Sam X) (ht : Sam Y) :
    pr X Y ≤ upv X Y m n ∧ -2100000000 ≤ upv X Y m n ∧ upv X Y m n ≤ 2100000000 := by
  have e1 := cen_en hX hs m32
  have e2 := cen_en hY ht m32
  have cx := cen_len' X
  have cy := cen_len' Y
  have g := ups_ge (cen X) (cen Y) m n (by omega) (by omega) n1 nm m32 (by omega) (by omega)
  rw [cen_dot (by omega), hX] at g
  have b := ups_in (cen X) (cen Y) m n (by omega) (by omega) n1 nm n8 ((m : Int) * (m : Int) * (m : Int) * 1000000) e1.2.2.1 (by omega) (by omega)
  have a1 : (m : Int) * (m : Int) ≤ 32 * 32 := Int.mul_le_mul (by omega) (by omega) (by omega) (by omega)
  have p := pr_le hs ht (by omega) (by omega)
  have lo : pr X Y ≤ ups (cen X) (cen Y) m n / (m : Int) := Int.le_ediv_of_mul_le (by omega) (by rw [Int.mul_comm]; exact g)
  have hi : ups (cen X) (cen Y) m n / (m : Int) ≤ 2100000000 := by
    have h3 : (m : Int) * (m : Int) * (m : Int) ≤ 1024 * (m : Int) := Int.mul_le_mul_of_nonneg_right a1 (by omega)
    have : ups (cen X) (cen Y) m n < (2100000000 + 1) * (m : Int) := by omega
    have := Int.ediv_lt_of_lt_mul (show 0 < (m : Int) by omega) this
    omega
  unfold upv
  omega
theorem upv_comm (X Y : List Int) (m n : Nat) : upv X Y m n = upv Y X m n := by unfold upv; rw [ups_comm]
/-- the square with the sign of the number, cut at a bound -/
def sqc (c q : Int) : Int := if c < 0 then -(min (c * c) q) else min (c * c) q
theorem sqc_in {c q : Int} (h : 0 ≤ q) : -q ≤ sqc c q ∧ sqc c q ≤ q := by
  have := sq_nn c
  unfold sqc
  split <;> omega
theorem sqc_ge {c d q : Int} (h : d * d ≤ q) (hc : d ≤ c) : sg d ≤ sqc c q := by
  have n1 := sq_nn c
  have n2 := sq_nn d
  unfold sqc sg
  rcases Int.lt_or_le d 0 with h1 | h1
  · rw [if_pos h1]
    split
    · rename_i h2
      have a : (-c) * (-c) ≤ (-d) * (-d) := Int.mul_le_mul (by omega) (by omega) (by omega) (by omega)
      rw [Int.neg_mul_neg, Int.neg_mul_neg] at a
      omega
    · omega
  · rw [if_neg (by omega), if_neg (by omega)]
    have a : d * d ≤ c * c := Int.mul_le_mul hc hc h1 (by omega)
    omega
theorem sqc_eq {c q : Int} (h : c * c ≤ q) : sqc c q = sg c := by
  unfold sqc sg
  rw [Int.min_eq_left h]
/-- the numerator of the bound of the gap -/
def gM (v w c : Int) : Int := if v = 0 then (if w = 0 then 0 else 1) else if w = 0 then 1 else v * w - sqc c (v * w)
theorem gM_in {v w : Int} (c : Int) (v0 : 0 ≤ v) (w0 : 0 ≤ w) (v1 : v ≤ 1024000000) (w1 : w ≤ 1024000000) :
    0 ≤ gM v w c ∧ gM v w c ≤ 2097152000000000000 ∧ 1 ≤ gD v w ∧ gD v w ≤ 1048576000000000000 := by
  have a := vw_le v0 w0 v1 w1
  have b := sqc_in (c := c) a.1
  unfold gM gD
  rcases Classical.em (v = 0) with hv | hv
  · rw [if_pos hv, if_pos hv]
    split <;> omega
  · rw [if_neg hv, if_neg hv]
    rcases Classical.em (w = 0) with hw | hw
    · rw [if_pos hw, if_pos hw]
      omega
    · rw [if_neg hw, if_neg hw]
      have : 0 < v * w := Int.mul_pos (by omega) (by omega)
      omega
theorem gM_le {v w c d : Int} (h : d * d ≤ v * w) (hc : d ≤ c) : gM v w c ≤ gN v w d := by
  unfold gM gN
  have := sqc_ge h hc
  split
  · split <;> omega
  · split <;> omega
theorem gM_eq {v w c : Int} (h : c * c ≤ v * w) : gM v w c = gN v w c := by
  unfold gM gN
  rw [sqc_eq h]
theorem gM_swap (v w c : Int) : gM v w c = gM w v c ∧ gD v w = gD w v := by
  unfold gM gD
  rw [Int.mul_comm v w]
  constructor
  · split <;> split <;> rfl
  · split <;> split <;> rfl
/-- the reduced bound -/
def mN (v w c : Int) : Int := gM v w c / gd (gM v w c) (gD v w)
def mD (v w c : Int) : Int := gD v w / gd (gM v w c) (gD v w)
theorem m_vl {v w : Int} (c : Int) (v0 : 0 ≤ v) (w0 : 0 ≤ w) (v1 : v ≤ 1024000000) (w1 : w ≤ 1024000000) : Vl (mN v w c) (mD v w c) (gM v w c) (gD v w) := by
  have := gM_in c v0 w0 v1 w1
  exact vl_make this.1 this.2.2.1 (by omega) (by omega)
theorem r_vl {v w c : Int} (v0 : 0 ≤ v) (w0 : 0 ≤ w) (v1 : v ≤ 1024000000) (w1 : w ≤ 1024000000) (h : c * c ≤ v * w) : Vl (rN v w c) (rD v w c) (gN v w c) (gD v w) := by
  have := gap_in v0 w0 v1 w1 h
  exact vl_make this.1 this.2.2.1 (by omega) (by omega)
theorem m_swap (v w c : Int) : mN v w c = mN w v c ∧ mD v w c = mD w v c := by
  unfold mN mD
  rw [(gM_swap v w c).1, (gM_swap v w c).2]
  exact ⟨rfl, rfl⟩
theorem m_eq {v w c : Int} (h : c * c ≤ v * w) : mN v w c = rN v w c ∧ mD v w c = rD v w c := by
  unfold mN mD rN rD
  rw [gM_eq h]
  exact ⟨rfl, rfl⟩
/-- with as many pieces as samples -/
theorem st_full (m k : Nat) (m1 : 1 ≤ m) : st m m k = k := by unfold st; exact Nat.mul_div_cancel k m1
theorem pa_full (X : List Int) (m k : Nat) (hX : X.length = m) (hk : k < m) : pa X m m k = X.getD k 0 := by
  unfold pa
  rw [st_full m k (by omega), st_full m (k + 1) (by omega)]
  rw [pg_pre _ _ _ (by omega)]
  unfold pre
  rw [take_snoc X k (by omega), su_app]
  simp [su]
  omega
theorem ln_full (m k : Nat) (m1 : 1 ≤ m) : ln m m k = 1 := by unfold ln; rw [st_full m k m1, st_full m (k + 1) m1]; omega
theorem tq_dot (X Y : List Int) (h : X.length = Y.length) : ∀ k, k ≤ X.length → tq (fun k => X.getD k 0 * Y.getD k 0) k = dot (X.take k) (Y.take k)
  | 0, _ => by simp [tq, dot]
  | k + 1, hk => by
    have ih := tq_dot X Y h k (by omega)
    show tq _ k + X.getD k 0 * Y.getD k 0 = _
    rw [take_snoc X k (by omega), take_snoc Y k (by omega), dot_app _ _ _ _ (by simp; omega), ih]
    simp [dot]
theorem upv_full {X Y : List Int} {m : Nat} (hX : X.length = m) (hY : Y.length = m) (m2 : 2 ≤ m) : upv X Y m m = pr X Y := by
  have cx : (cen X).length = m := by rw [cen_len', hX]
  have cy : (cen Y).length = m := by rw [cen_len', hY]
  have z : ∀ Z : List Int, Z.length = m → rsd Z m m = 0 := fun Z hZ => by
    unfold rsd
    have : tq (fun k => pa Z m m k * pa Z m m k / (ln m m k : Int)) m = tq (fun k => Z.getD k 0 * Z.getD k 0) m :=
      tq_cong (n := m) (fun k hk => by rw [pa_full Z m k hZ hk, ln_full m k (by omega)]; simp) m (Nat.le_refl m)
    rw [this, tq_dot Z Z rfl m (by omega), List.take_of_length_le (by omega), dot_self]
    omega
  have z0 : Rt.cei 0 = 0 := by
    rw [Rt.cei_eq (by decide) (by decide) (by rw [Rt.isq_zero]; decide), Rt.isq_zero]
  unfold upv ups
  rw [z _ cx, z _ cy, z0]
  have : tq (fun k => cl (pa (cen X) m m k * pa (cen Y) m m k) (ln m m k : Int)) m = tq (fun k => (cen X).getD k 0 * (cen Y).getD k 0) m :=
    tq_cong (n := m) (fun k hk => by rw [pa_full _ m k cx hk, pa_full _ m k cy hk, ln_full m k (by omega)]; exact cl_one _) m (Nat.le_refl m)
  rw [this, tq_dot _ _ (by omega) m (by omega), List.take_of_length_le (by omega), List.take_of_length_le (by omega), cen_dot (by omega), hX]
  rw [Int.mul_zero, Int.zero_add]
  exact Int.mul_ediv_cancel_left _ (by omega)
end Go.Proofs.Ytmgdoglnckkobaa.Wi
namespace Go.Proofs.Ytmgdoglnckkobaa.Sr
open Go.ChangeShapes Go.WideShapes Go.RowKit Wo
set_option linter.unusedVariables false
def SomePick (g : Nat) (L : List Int) (w : World) (e : Ending) (w' : World) : Prop := ∃ x : Int, e = .returned (.int .i64 x) ∧ x ∈ L ∧ Ok w' g ∧ Ch g w w'
/-- the block holds the numbers of a list -/
def Lst (w : World) (b : Nat) (L : List Int) : Prop := b < w.heap.size ∧ ∀ i, i < L.length → w.cell? ⟨b, i, none⟩ = some (.int .i64 (L.getD i 0))
theorem lst_new (w : World) (L : List Int) (t : TypeId) (cs : Array Value) (hc : cs = (L.map (Value.int .i64)).toArray) (b : Nat) (hb : w.heap.size = b) : Lst (w.alloc (.cells cs t)) b L := by
  subst hb hc
  refine ⟨by simp, fun i hi => ?_⟩
  rw [cell_of_row _ _ i _ t (0, 0) (heap_alloc_new w _)]
  simp [List.getD_eq_getElem?_getD, hi]
theorem pick_any (g b : Nat) (L : List Int) (m : Nat) (hm : m = L.length) (h1 : 1 ≤ m) (h2 : m ≤ 1000000) (hbg : b ≠ g) (w : World) (h : Ok w g) (hl : Lst w b L) :
    Calls Try.prog 46 #[.pointer (some ⟨g, 0, none⟩), .slice (some ⟨b, 0, none⟩) m m] w (SomePick g L w) := by
  have HO := Lib.hid h
  have HLs := Lib.hid hl
  have HM := Lib.hid hm
  clear h hl hm
  go_enter Try.func46, Try.ntmps46
  go_wp2_with fail
  go_at_call 10
  refine (n_any g (m : Int) (by omega) (by omega) _ HO.out).mono ?_
  rintro e w1 ⟨x, rfl, hx0, hx1, ho, hc⟩
  obtain ⟨k, rfl⟩ := Int.eq_ofNat_of_zero_le hx0
  have hk : k < m := by omega
  have hcell : w1.cell? ⟨b, k, none⟩ = some (.int .i64 (L.getD k 0)) := hc.kp (HLs.out.2 k (by have := HM.out; omega)) hbg
  have hmem : Hid (L.getD k 0 ∈ L) := by
    have hkl : k < L.length := by have := HM.out; omega
    show L.getD k 0 ∈ L
    rw [List.getD_eq_getElem?_getD, List.getElem?_eq_getElem hkl]
    exact List.getElem_mem hkl
  have HOK := Lib.hid ho
  have HCH := Lib.hid hc
  clear ho hc
  generalize L.getD k 0 = v at *
  go_wp2
  go_ret
  exact ⟨v, rfl, hmem.out, HOK.out, HCH.out⟩
end Go.Proofs.Ytmgdoglnckkobaa.Sr
namespace Go.Proofs.Ytmgdoglnckkobaa.Sr
open Go.ChangeShapes Go.WideShapes Go.RowKit Wo Wi
set_option linter.unusedVariables false
/-- numbers as values -/
def zs (L : List Int) : List Value := L.map (Value.int .i64)
theorem zs_len (L : List Int) : (zs L).length = L.length := by simp [zs]
theorem zs_app (L M : List Int) : zs (L ++ M) = zs L ++ zs M := by simp [zs]
theorem zs_at {L : List Int} {j : Nat} (h : j < L.length) : (zs L)[j]? = some (.int .i64 (L.getD j 0)) := by simp [zs, List.getD_eq_getElem?_getD, h]
theorem info_int : (Try.prog.info? 3).map (fun i => (i.zero, i.size, i.bytes)) = some (some (.int .i64 0), 1, 8) := by kernel_rfl
theorem ok_grown {w w' : World} {g : Nat} {row : Option Nat} (h : Ok w g) (hg : w.grownBy w' row) (hr : ∀ b, row = some b → g < b) : Ok w' g := by
  obtain ⟨A, n, c, k, zs, h1, h2, h3, h4, h5⟩ := h
  refine ⟨A, n, c, k, zs, (hg.block g h1.lt (fun e => by have := hr _ e.symm; omega)).trans h1, h2, h3, h4, fun hn => ?_⟩
  obtain ⟨x, e, hx, hc⟩ := h5 hn
  exact ⟨x, e, hx, fun i hi => World.grownBy.cell hg (hc i hi) (fun e => by have := hr _ e.symm; rw [add_block] at this; omega)⟩
theorem ch_grown {a b c : World} {g : Nat} {row : Option Nat} (h : Ch g a b) (hg : b.grownBy c row) (hr : ∀ q, row = some q → a.heap.size ≤ q) : Ch g a c :=
  ⟨hg.os.trans h.os, hg.tape.trans h.tape, hg.output.trans h.output, Nat.le_trans h.size hg.size, fun i hi hn => (hg.block i (Nat.lt_of_lt_of_le hi h.size) (fun e => by have := hr _ e.symm; omega)).trans (h.block i hi hn)⟩
theorem sam_snoc {L : List Int} (h : Sam L) {y : Int} (h1 : -1000 ≤ y) (h2 : y ≤ 1000) : Sam (L ++ [y]) := by
  intro p hp
  rcases List.mem_append.1 hp with h' | h'
  · exact h p h'
  · simp at h'; subst h'; exact ⟨h1, h2⟩
/-- k samples have been appended -/
def LI (n : Int) (g base : Nat) (w : World) (s7 s8 s9 : Value) (wr : World) : Prop := ∃ (k : Nat) (L : List Int) (x : Int) (V : World) (u : Value), V = wr ∧ u = s8 ∧ (k : Int) ≤ n ∧ s9 = .int .i64 (k : Int) ∧ s7 = .int .i64 x ∧ (-1000 ≤ x ∧ x ≤ 1000) ∧
  wr.ownsRow base 3 1 s8 k (zs L) ∧ L.length = k ∧ Sam L ∧ Ok wr g ∧ Ch g w wr ∧ base ≤ wr.heap.size
theorem li_step {n : Int} {g k h cap : Nat} {w wr w1 w2 : World} {s8 : Value} {L : List Int} {x y : Int} (hgb : g < w.heap.size) (hk : (k : Int) < n) (hL : L.length = k) (hv : Sam L) (hy0 : -1000 ≤ y) (hy1 : y ≤ 1000)
    (hown : wr.ownsRow w.heap.size 3 1 s8 k (zs L)) (hx : -1000 ≤ x ∧ x ≤ 1000) (ho1 : Ok w1 g) (hc1 : Ch g wr w1) (hb : Ch g w wr) (hbase : w.heap.size ≤ wr.heap.size)
    (hown2 : w2.ownsRow w.heap.size 3 1 (.slice (some ⟨h, 0, none⟩) (k + 1) cap) (k + 1) (zs L ++ [.int .i64 y])) (hgr : (w1.alloc (.cells #[.int .i64 y] 3)).grownBy w2 s8.ownBlock) :
    LI n g w.heap.size w (.int .i64 x) (.slice (some ⟨h, 0, none⟩) (k + 1) cap) (.int .i64 ((k : Int) + 1)) w2 := by
  have hrow : ∀ b, s8.ownBlock = some b → w.heap.size ≤ b := fun b e => (hown.lt b e).1
  refine ⟨k + 1, L ++ [y], x, _, _, rfl, rfl, by omega, by congr 1, rfl, hx, by rw [zs_app]; exact hown2, by simp [hL], sam_snoc hv hy0 hy1, ?_, ?_, ?_⟩
  · exact ok_grown (ho1.bel (Bel.rf.al _)) hgr (fun b e => by have := hrow b e; omega)
  · exact ch_grown ((hb.tr hc1).al _) hgr hrow
  · have := hgr.size
    have := hc1.sz
    simp at *
    omega
theorem clip_any (n : Int) (h0 : -4000 ≤ n) (h1 : n ≤ 4000) (w : World) : Calls Try.prog 48 #[.int .i64 n] w fun e w' => (∃ y, e = .returned (.int .i64 y) ∧ -1000 ≤ y ∧ y ≤ 1000) ∧ w = w' := by
  rcases Int.lt_trichotomy n (-1000) with h | rfl | h
  · go_enter Try.func48, Try.ntmps48
    go_wp2
    go_ret
    exact ⟨⟨_, rfl, by omega, by omega⟩, rfl⟩
  · go_enter Try.func48, Try.ntmps48
    go_wp2
    go_ret
    exact ⟨⟨_, rfl, by omega, by omega⟩, rfl⟩
  · rcases Int.lt_trichotomy n 1000 with h' | rfl | h'
    all_goals
      go_enter Try.func48, Try.ntmps48
      go_wp2
      go_ret
      exact ⟨⟨_, rfl, by omega, by omega⟩, rfl⟩
def SomeList (g n : Nat) (w : World) (e : Ending) (w' : World) : Prop := ∃ (v : Value) (L : List Int), e = .returned v ∧ w'.ownsRow w.heap.size 3 1 v n (zs L) ∧ L.length = n ∧ Sam L ∧ Ok w' g ∧ Ch g w w'
set_option maxHeartbeats 16000000 in
set_option maxRecDepth 100000 in
theorem list_any (g n0 : Nat) (hn : n0 ≤ 1000) (w : World) (h : Ok w g) :
    Calls Try.prog 9 #[.pointer (some ⟨g, 0, none⟩), .int .i64 (n0 : Int)] w (SomeList g n0 w) := by
  obtain ⟨i0, hi0, hz0, hz1, hz2⟩ := info_parts info_int
  have HI := Lib.hid (And.intro hi0 (And.intro hz0 (And.intro hz1 hz2)))
  clear hi0 hz0 hz1 hz2
  obtain ⟨n, hnn⟩ : ∃ n, (n0 : Int) = n := ⟨_, rfl⟩
  have n1 : 0 ≤ n := by omega
  have n2 : n ≤ 1000 := by omega
  rw [hnn]
  have HNN := Lib.hid hnn
  have HGB := Lib.hid h.lt
  have HO0 := Lib.hid h
  clear h hnn hn
  go_enter Try.func9, Try.ntmps9
  go_wp2_with fail
  go_at_call 10
  refine (n_any g 6 (by decide) (by decide) _ HO0.out).mono ?_
  rintro e w1 ⟨kd, rfl, kd0, kd1, ho, hc⟩
  have HO1 := Lib.hid ho
  have HC1 := Lib.hid hc
  clear ho hc
  go_wp2_with fail
  go_at_call 46
  refine (pick_any g w1.heap.size [1, 3, 10, 100, 1000] 5 (by rfl) (by decide) (by decide) (by have := HGB.out; have := HC1.out.sz; omega) _ (HO1.out.bel (Bel.rf.al _)) (lst_new _ _ _ _ (by rfl) _ rfl)).mono ?_
  rintro e w2 ⟨sz, rfl, hsz, ho, hc⟩
  have hs1 : 1 ≤ sz ∧ sz ≤ 1000 := by simp at hsz; omega
  obtain ⟨sz0, sz1⟩ := hs1
  have HO2 := Lib.hid ho
  have HC2 : Hid (Ch g w w2) := (HC1.out.al _).tr hc
  clear ho hc hsz
  go_wp2_with fail
  go_at_call 10
  refine (n_any g 3 (by decide) (by decide) _ HO2.out).mono ?_
  rintro e w3 ⟨b, rfl, bd0, bd1, ho, hc⟩
  have HO3 := Lib.hid ho
  have HC3 : Hid (Ch g w w3) := HC2.out.tr hc
  clear ho hc
  have HB : (∃ x, -1000 ≤ x ∧ x ≤ 1000) := ⟨0, by decide, by decide⟩
  rcases (show b = 0 ∨ b ≠ 0 by omega) with rfl | hb
  · go_wp2_with fail
    go_at_call 47
    refine (range_any g (-1000) 1000 (by decide) (by decide) (by decide) _ HO3.out).mono ?_
    rintro e w4 ⟨x0, rfl, x00, x01, ho, hc⟩
    have HO4 := Lib.hid ho
    have HC4 : Hid (Ch g w w4) := HC3.out.tr hc
    clear ho hc
    go_wp2
    have HR0 : Hid (LI n g w.heap.size w (.int .i64 x0) (.slice none 0 0) (.int .i64 0) w4) :=
      ⟨0, [], x0, _, _, rfl, rfl, by omega, rfl, rfl, ⟨x00, x01⟩, World.ownsRow_nil _ _ _ _, rfl, by simp [Sam], HO4.out, HC4.out, HC4.out.sz⟩
    go_loopw [7, 8, 9] (fun s7 s8 s9 wr => LI n g w.heap.size w s7 s8 s9 wr) (fun _ _ s9 _ => n.toNat - (intOf s9).toNat)
    case atStart => exact HR0.out
    case round =>
      clear HR0
      obtain ⟨k, L, x, wr, u8, hwr, hu8, hk, rfl, rfl, hx, hown, hL, hv, hog, hcw, hbase⟩ := hrel
      subst hwr hu8
      have HO := Lib.hid hown
      have HL := Lib.hid hL
      have HV := Lib.hid hv
      have HG := Lib.hid hog
      have HCW := Lib.hid hcw
      have HX := Lib.hid hx
      obtain ⟨x0', x1'⟩ := hx
      clear hown hL hv hog hcw
      rcases Int.lt_or_le (k : Int) n with hki | hneg
      · rcases (show (kd = 0 ∨ kd = 1) ∨ (kd = 2 ∨ kd = 3) ∨ kd = 4 ∨ kd = 5 by omega) with (rfl | rfl) | (rfl | rfl) | rfl | rfl
        · skip
          go_wp2_with fail
          go_at_call 47
          refine (range_any g (-sz) sz (by omega) (by omega) (by omega) _ HG.out).mono ?_
          rintro e w6 ⟨y, rfl, y0, y1, ho, hc⟩
          have HOK := Lib.hid ho
          have HCK : Hid (Ch g wr w6) := hc
          clear ho hc
          have hown1 := HO.out.kept (HCK.out) (by
            rcases hob : u8.ownBlock with _ | q
            · exact .inl rfl
            · exact .inr (fun e => by injection e with e; have := (HO.out.lt q hob).1; have := HGB.out; omega))
          have hsz := Ch.sz (HCK.out)
          have hgb := HGB.out
          have HOW := Lib.hid hown1
          clear hown1
          go_wp2_with (at_builtin; refine wpList_append_lies _ (by rfl) _ _ 22 (by rfl) w.heap.size 3 i0 _ 1 8 Try.underlying22 HI.out.1 HI.out.2.1 HI.out.2.2.1 HI.out.2.2.2 (by rfl) (by omega) u8 k (zs L) (by rfl) (HOW.out.alloc _) ⟨w6.heap.size, 0, none⟩ 1 1 [.int .i64 (y)] (by rfl) (by rfl) (World.news_of_block (cs := #[.int .i64 (y)]) (t := 3) (fr := (0, 0)) (heap_alloc_new w6 _)) (by simp [Value.oneCell']) (by omega) (by unfold maxLen; omega) (by omega) (by simp; omega) (w6.heap.size + 1) (by simp) ?_; intro h cap w5 hown4 hgrow hat hlt4)
          have hstep := li_step (n := n) (y := y) hgb hki HL.out HV.out (by omega) (by omega) HO.out HX.out (HOK.out) (HCK.out) HCW.out hbase hown4 hgrow
          have HST := Lib.hid hstep
          clear hstep hown4 hgrow hat
          go_wp2
          go_roundw
          case rel => exact HST.out
          case measure => simp [intOf]; omega
        · skip
          go_wp2_with fail
          go_at_call 47
          refine (range_any g (-sz) sz (by omega) (by omega) (by omega) _ HG.out).mono ?_
          rintro e w6 ⟨y, rfl, y0, y1, ho, hc⟩
          have HOK := Lib.hid ho
          have HCK : Hid (Ch g wr w6) := hc
          clear ho hc
          have hown1 := HO.out.kept (HCK.out) (by
            rcases hob : u8.ownBlock with _ | q
            · exact .inl rfl
            · exact .inr (fun e => by injection e with e; have := (HO.out.lt q hob).1; have := HGB.out; omega))
          have hsz := Ch.sz (HCK.out)
          have hgb := HGB.out
          have HOW := Lib.hid hown1
          clear hown1
          go_wp2_with (at_builtin; refine wpList_append_lies _ (by rfl) _ _ 22 (by rfl) w.heap.size 3 i0 _ 1 8 Try.underlying22 HI.out.1 HI.out.2.1 HI.out.2.2.1 HI.out.2.2.2 (by rfl) (by omega) u8 k (zs L) (by rfl) (HOW.out.alloc _) ⟨w6.heap.size, 0, none⟩ 1 1 [.int .i64 (y)] (by rfl) (by rfl) (World.news_of_block (cs := #[.int .i64 (y)]) (t := 3) (fr := (0, 0)) (heap_alloc_new w6 _)) (by simp [Value.oneCell']) (by omega) (by unfold maxLen; omega) (by omega) (by simp; omega) (w6.heap.size + 1) (by simp) ?_; intro h cap w5 hown4 hgrow hat hlt4)
          have hstep := li_step (n := n) (y := y) hgb hki HL.out HV.out (by omega) (by omega) HO.out HX.out (HOK.out) (HCK.out) HCW.out hbase hown4 hgrow
          have HST := Lib.hid hstep
          clear hstep hown4 hgrow hat
          go_wp2
          go_roundw
          case rel => exact HST.out
          case measure => simp [intOf]; omega
        · skip
          go_wp2_with fail
          go_at_call 47
          refine (range_any g (-sz) sz (by omega) (by omega) (by omega) _ HG.out).mono ?_
          rintro e w6 ⟨y, rfl, y0, y1, ho, hc⟩
          have HOK := Lib.hid ho
          have HCK : Hid (Ch g wr w6) := hc
          clear ho hc
          go_wp2_with fail
          go_at_call 48
          refine (clip_any (x + y) (by omega) (by omega) _).mono ?_
          rintro e w7 ⟨⟨z, rfl, z0, z1⟩, rfl⟩
          have HX := Lib.hid (And.intro z0 z1)
          have hown1 := HO.out.kept (HCK.out) (by
            rcases hob : u8.ownBlock with _ | q
            · exact .inl rfl
            · exact .inr (fun e => by injection e with e; have := (HO.out.lt q hob).1; have := HGB.out; omega))
          have hsz := Ch.sz (HCK.out)
          have hgb := HGB.out
          have HOW := Lib.hid hown1
          clear hown1
          go_wp2_with (at_builtin; refine wpList_append_lies _ (by rfl) _ _ 22 (by rfl) w.heap.size 3 i0 _ 1 8 Try.underlying22 HI.out.1 HI.out.2.1 HI.out.2.2.1 HI.out.2.2.2 (by rfl) (by omega) u8 k (zs L) (by rfl) (HOW.out.alloc _) ⟨w6.heap.size, 0, none⟩ 1 1 [.int .i64 (z)] (by rfl) (by rfl) (World.news_of_block (cs := #[.int .i64 (z)]) (t := 3) (fr := (0, 0)) (heap_alloc_new w6 _)) (by simp [Value.oneCell']) (by omega) (by unfold maxLen; omega) (by omega) (by simp; omega) (w6.heap.size + 1) (by simp) ?_; intro h cap w5 hown4 hgrow hat hlt4)
          have hstep := li_step (n := n) (y := z) hgb hki HL.out HV.out (by omega) (by omega) HO.out HX.out (HOK.out) (HCK.out) HCW.out hbase hown4 hgrow
          have HST := Lib.hid hstep
          clear hstep hown4 hgrow hat
          go_wp2
          go_roundw
          case rel => exact HST.out
          case measure => simp [intOf]; omega
        · skip
          go_wp2_with fail
          go_at_call 47
          refine (range_any g (-sz) sz (by omega) (by omega) (by omega) _ HG.out).mono ?_
          rintro e w6 ⟨y, rfl, y0, y1, ho, hc⟩
          have HOK := Lib.hid ho
          have HCK : Hid (Ch g wr w6) := hc
          clear ho hc
          go_wp2_with fail
          go_at_call 48
          refine (clip_any (x + y) (by omega) (by omega) _).mono ?_
          rintro e w7 ⟨⟨z, rfl, z0, z1⟩, rfl⟩
          have HX := Lib.hid (And.intro z0 z1)
          have hown1 := HO.out.kept (HCK.out) (by
            rcases hob : u8.ownBlock with _ | q
            · exact .inl rfl
            · exact .inr (fun e => by injection e with e; have := (HO.out.lt q hob).1; have := HGB.out; omega))
          have hsz := Ch.sz (HCK.out)
          have hgb := HGB.out
          have HOW := Lib.hid hown1
          clear hown1
          go_wp2_with (at_builtin; refine wpList_append_lies _ (by rfl) _ _ 22 (by rfl) w.heap.size 3 i0 _ 1 8 Try.underlying22 HI.out.1 HI.out.2.1 HI.out.2.2.1 HI.out.2.2.2 (by rfl) (by omega) u8 k (zs L) (by rfl) (HOW.out.alloc _) ⟨w6.heap.size, 0, none⟩ 1 1 [.int .i64 (z)] (by rfl) (by rfl) (World.news_of_block (cs := #[.int .i64 (z)]) (t := 3) (fr := (0, 0)) (heap_alloc_new w6 _)) (by simp [Value.oneCell']) (by omega) (by unfold maxLen; omega) (by omega) (by simp; omega) (w6.heap.size + 1) (by simp) ?_; intro h cap w5 hown4 hgrow hat hlt4)
          have hstep := li_step (n := n) (y := z) hgb hki HL.out HV.out (by omega) (by omega) HO.out HX.out (HOK.out) (HCK.out) HCW.out hbase hown4 hgrow
          have HST := Lib.hid hstep
          clear hstep hown4 hgrow hat
          go_wp2
          go_roundw
          case rel => exact HST.out
          case measure => simp [intOf]; omega
        · skip
          go_wp2_with fail
          go_at_call 10
          refine (n_any g 4 (by decide) (by decide) _ HG.out).mono ?_
          rintro e w6 ⟨b4, rfl, b40, b41, ho, hc⟩
          have HOK := Lib.hid ho
          have HCK := Lib.hid hc
          clear ho hc
          rcases (show b4 = 0 ∨ b4 ≠ 0 by omega) with rfl | hb4
          · skip
            go_wp2_with fail
            go_at_call 47
            refine (range_any g (-sz) sz (by omega) (by omega) (by omega) _ HOK.out).mono ?_
            rintro e w7 ⟨y, rfl, y0, y1, ho, hc⟩
            have HOK := Lib.hid ho
            have HCK : Hid (Ch g wr w7) := HCK.out.tr hc
            clear ho hc
            have HX : Hid (-1000 ≤ y ∧ y ≤ 1000) := ⟨by omega, by omega⟩
            have hown1 := HO.out.kept (HCK.out) (by
              rcases hob : u8.ownBlock with _ | q
              · exact .inl rfl
              · exact .inr (fun e => by injection e with e; have := (HO.out.lt q hob).1; have := HGB.out; omega))
            have hsz := Ch.sz (HCK.out)
            have hgb := HGB.out
            have HOW := Lib.hid hown1
            clear hown1
            go_wp2_with (at_builtin; refine wpList_append_lies _ (by rfl) _ _ 22 (by rfl) w.heap.size 3 i0 _ 1 8 Try.underlying22 HI.out.1 HI.out.2.1 HI.out.2.2.1 HI.out.2.2.2 (by rfl) (by omega) u8 k (zs L) (by rfl) (HOW.out.alloc _) ⟨w7.heap.size, 0, none⟩ 1 1 [.int .i64 (y)] (by rfl) (by rfl) (World.news_of_block (cs := #[.int .i64 (y)]) (t := 3) (fr := (0, 0)) (heap_alloc_new w7 _)) (by simp [Value.oneCell']) (by omega) (by unfold maxLen; omega) (by omega) (by simp; omega) (w7.heap.size + 1) (by simp) ?_; intro h cap w5 hown4 hgrow hat hlt4)
            have hstep := li_step (n := n) (y := y) hgb hki HL.out HV.out (by omega) (by omega) HO.out HX.out (HOK.out) (HCK.out) HCW.out hbase hown4 hgrow
            have HST := Lib.hid hstep
            clear hstep hown4 hgrow hat
            go_wp2
            go_roundw
            case rel => exact HST.out
            case measure => simp [intOf]; omega
          · skip
            have hown1 := HO.out.kept (HCK.out) (by
              rcases hob : u8.ownBlock with _ | q
              · exact .inl rfl
              · exact .inr (fun e => by injection e with e; have := (HO.out.lt q hob).1; have := HGB.out; omega))
            have hsz := Ch.sz (HCK.out)
            have hgb := HGB.out
            have HOW := Lib.hid hown1
            clear hown1
            go_wp2_with (at_builtin; refine wpList_append_lies _ (by rfl) _ _ 22 (by rfl) w.heap.size 3 i0 _ 1 8 Try.underlying22 HI.out.1 HI.out.2.1 HI.out.2.2.1 HI.out.2.2.2 (by rfl) (by omega) u8 k (zs L) (by rfl) (HOW.out.alloc _) ⟨w6.heap.size, 0, none⟩ 1 1 [.int .i64 (x)] (by rfl) (by rfl) (World.news_of_block (cs := #[.int .i64 (x)]) (t := 3) (fr := (0, 0)) (heap_alloc_new w6 _)) (by simp [Value.oneCell']) (by omega) (by unfold maxLen; omega) (by omega) (by simp; omega) (w6.heap.size + 1) (by simp) ?_; intro h cap w5 hown4 hgrow hat hlt4)
            have hstep := li_step (n := n) (y := x) hgb hki HL.out HV.out (by omega) (by omega) HO.out HX.out (HOK.out) (HCK.out) HCW.out hbase hown4 hgrow
            have HST := Lib.hid hstep
            clear hstep hown4 hgrow hat
            go_wp2
            go_roundw
            case rel => exact HST.out
            case measure => simp [intOf]; omega
        · skip
          go_wp2_with fail
          go_at_call 46
          refine (pick_any g wr.heap.size [-1000, 1000, 1000, 0] 4 (by rfl) (by decide) (by decide) (by have := HGB.out; have := HCW.out.sz; omega) _ (HG.out.bel (Bel.rf.al _)) (lst_new _ _ _ _ (by rfl) _ rfl)).mono ?_
          rintro e w6 ⟨y, rfl, hy, ho, hc⟩
          have hy1 : -1000 ≤ y ∧ y ≤ 1000 := by simp at hy; omega
          obtain ⟨y0, y1⟩ := hy1
          have HOK := Lib.hid ho
          have HCK : Hid (Ch g wr w6) := (Ch.rf.al _).tr hc
          clear ho hc hy
          have hown1 := HO.out.kept (HCK.out) (by
            rcases hob : u8.ownBlock with _ | q
            · exact .inl rfl
            · exact .inr (fun e => by injection e with e; have := (HO.out.lt q hob).1; have := HGB.out; omega))
          have hsz := Ch.sz (HCK.out)
          have hgb := HGB.out
          have HOW := Lib.hid hown1
          clear hown1
          go_wp2_with (at_builtin; refine wpList_append_lies _ (by rfl) _ _ 22 (by rfl) w.heap.size 3 i0 _ 1 8 Try.underlying22 HI.out.1 HI.out.2.1 HI.out.2.2.1 HI.out.2.2.2 (by rfl) (by omega) u8 k (zs L) (by rfl) (HOW.out.alloc _) ⟨w6.heap.size, 0, none⟩ 1 1 [.int .i64 (y)] (by rfl) (by rfl) (World.news_of_block (cs := #[.int .i64 (y)]) (t := 3) (fr := (0, 0)) (heap_alloc_new w6 _)) (by simp [Value.oneCell']) (by omega) (by unfold maxLen; omega) (by omega) (by simp; omega) (w6.heap.size + 1) (by simp) ?_; intro h cap w5 hown4 hgrow hat hlt4)
          have hstep := li_step (n := n) (y := y) hgb hki HL.out HV.out (by omega) (by omega) HO.out HX.out (HOK.out) (HCK.out) HCW.out hbase hown4 hgrow
          have HST := Lib.hid hstep
          clear hstep hown4 hgrow hat
          go_wp2
          go_roundw
          case rel => exact HST.out
          case measure => simp [intOf]; omega
      · obtain rfl : n = (k : Int) := by omega
        have hnk : n0 = k := by have := HNN.out; omega
        subst hnk
        go_wp2
        go_ret
        exact ⟨_, L, rfl, HO.out, HL.out, HV.out, HG.out, HCW.out⟩
  · have bz : (b == 0) = false := by simpa using hb
    go_wp2
    have HR0 : Hid (LI n g w.heap.size w (.int .i64 0) (.slice none 0 0) (.int .i64 0) w3) :=
      ⟨0, [], 0, _, _, rfl, rfl, by omega, rfl, rfl, ⟨by decide, by decide⟩, World.ownsRow_nil _ _ _ _, rfl, by simp [Sam], HO3.out, HC3.out, HC3.out.sz⟩
    go_loopw [7, 8, 9] (fun s7 s8 s9 wr => LI n g w.heap.size w s7 s8 s9 wr) (fun _ _ s9 _ => n.toNat - (intOf s9).toNat)
    case atStart => exact HR0.out
    case round =>
      clear HR0
      obtain ⟨k, L, x, wr, u8, hwr, hu8, hk, rfl, rfl, hx, hown, hL, hv, hog, hcw, hbase⟩ := hrel
      subst hwr hu8
      have HO := Lib.hid hown
      have HL := Lib.hid hL
      have HV := Lib.hid hv
      have HG := Lib.hid hog
      have HCW := Lib.hid hcw
      have HX := Lib.hid hx
      obtain ⟨x0', x1'⟩ := hx
      clear hown hL hv hog hcw
      rcases Int.lt_or_le (k : Int) n with hki | hneg
      · rcases (show (kd = 0 ∨ kd = 1) ∨ (kd = 2 ∨ kd = 3) ∨ kd = 4 ∨ kd = 5 by omega) with (rfl | rfl) | (rfl | rfl) | rfl | rfl
        · skip
          go_wp2_with fail
          go_at_call 47
          refine (range_any g (-sz) sz (by omega) (by omega) (by omega) _ HG.out).mono ?_
          rintro e w6 ⟨y, rfl, y0, y1, ho, hc⟩
          have HOK := Lib.hid ho
          have HCK : Hid (Ch g wr w6) := hc
          clear ho hc
          have hown1 := HO.out.kept (HCK.out) (by
            rcases hob : u8.ownBlock with _ | q
            · exact .inl rfl
            · exact .inr (fun e => by injection e with e; have := (HO.out.lt q hob).1; have := HGB.out; omega))
          have hsz := Ch.sz (HCK.out)
          have hgb := HGB.out
          have HOW := Lib.hid hown1
          clear hown1
          go_wp2_with (at_builtin; refine wpList_append_lies _ (by rfl) _ _ 22 (by rfl) w.heap.size 3 i0 _ 1 8 Try.underlying22 HI.out.1 HI.out.2.1 HI.out.2.2.1 HI.out.2.2.2 (by rfl) (by omega) u8 k (zs L) (by rfl) (HOW.out.alloc _) ⟨w6.heap.size, 0, none⟩ 1 1 [.int .i64 (y)] (by rfl) (by rfl) (World.news_of_block (cs := #[.int .i64 (y)]) (t := 3) (fr := (0, 0)) (heap_alloc_new w6 _)) (by simp [Value.oneCell']) (by omega) (by unfold maxLen; omega) (by omega) (by simp; omega) (w6.heap.size + 1) (by simp) ?_; intro h cap w5 hown4 hgrow hat hlt4)
          have hstep := li_step (n := n) (y := y) hgb hki HL.out HV.out (by omega) (by omega) HO.out HX.out (HOK.out) (HCK.out) HCW.out hbase hown4 hgrow
          have HST := Lib.hid hstep
          clear hstep hown4 hgrow hat
          go_wp2
          go_roundw
          case rel => exact HST.out
          case measure => simp [intOf]; omega
        · skip
          go_wp2_with fail
          go_at_call 47
          refine (range_any g (-sz) sz (by omega) (by omega) (by omega) _ HG.out).mono ?_
          rintro e w6 ⟨y, rfl, y0, y1, ho, hc⟩
          have HOK := Lib.hid ho
          have HCK : Hid (Ch g wr w6) := hc
          clear ho hc
          have hown1 := HO.out.kept (HCK.out) (by
            rcases hob : u8.ownBlock with _ | q
            · exact .inl rfl
            · exact .inr (fun e => by injection e with e; have := (HO.out.lt q hob).1; have := HGB.out; omega))
          have hsz := Ch.sz (HCK.out)
          have hgb := HGB.out
          have HOW := Lib.hid hown1
          clear hown1
          go_wp2_with (at_builtin; refine wpList_append_lies _ (by rfl) _ _ 22 (by rfl) w.heap.size 3 i0 _ 1 8 Try.underlying22 HI.out.1 HI.out.2.1 HI.out.2.2.1 HI.out.2.2.2 (by rfl) (by omega) u8 k (zs L) (by rfl) (HOW.out.alloc _) ⟨w6.heap.size, 0, none⟩ 1 1 [.int .i64 (y)] (by rfl) (by rfl) (World.news_of_block (cs := #[.int .i64 (y)]) (t := 3) (fr := (0, 0)) (heap_alloc_new w6 _)) (by simp [Value.oneCell']) (by omega) (by unfold maxLen; omega) (by omega) (by simp; omega) (w6.heap.size + 1) (by simp) ?_; intro h cap w5 hown4 hgrow hat hlt4)
          have hstep := li_step (n := n) (y := y) hgb hki HL.out HV.out (by omega) (by omega) HO.out HX.out (HOK.out) (HCK.out) HCW.out hbase hown4 hgrow
          have HST := Lib.hid hstep
          clear hstep hown4 hgrow hat
          go_wp2
          go_roundw
          case rel => exact HST.out
          case measure => simp [intOf]; omega
        · skip
          go_wp2_with fail
          go_at_call 47
          refine (range_any g (-sz) sz (by omega) (by omega) (by omega) _ HG.out).mono ?_
          rintro e w6 ⟨y, rfl, y0, y1, ho, hc⟩
          have HOK := Lib.hid ho
          have HCK : Hid (Ch g wr w6) := hc
          clear ho hc
          go_wp2_with fail
          go_at_call 48
          refine (clip_any (x + y) (by omega) (by omega) _).mono ?_
          rintro e w7 ⟨⟨z, rfl, z0, z1⟩, rfl⟩
          have HX := Lib.hid (And.intro z0 z1)
          have hown1 := HO.out.kept (HCK.out) (by
            rcases hob : u8.ownBlock with _ | q
            · exact .inl rfl
            · exact .inr (fun e => by injection e with e; have := (HO.out.lt q hob).1; have := HGB.out; omega))
          have hsz := Ch.sz (HCK.out)
          have hgb := HGB.out
          have HOW := Lib.hid hown1
          clear hown1
          go_wp2_with (at_builtin; refine wpList_append_lies _ (by rfl) _ _ 22 (by rfl) w.heap.size 3 i0 _ 1 8 Try.underlying22 HI.out.1 HI.out.2.1 HI.out.2.2.1 HI.out.2.2.2 (by rfl) (by omega) u8 k (zs L) (by rfl) (HOW.out.alloc _) ⟨w6.heap.size, 0, none⟩ 1 1 [.int .i64 (z)] (by rfl) (by rfl) (World.news_of_block (cs := #[.int .i64 (z)]) (t := 3) (fr := (0, 0)) (heap_alloc_new w6 _)) (by simp [Value.oneCell']) (by omega) (by unfold maxLen; omega) (by omega) (by simp; omega) (w6.heap.size + 1) (by simp) ?_; intro h cap w5 hown4 hgrow hat hlt4)
          have hstep := li_step (n := n) (y := z) hgb hki HL.out HV.out (by omega) (by omega) HO.out HX.out (HOK.out) (HCK.out) HCW.out hbase hown4 hgrow
          have HST := Lib.hid hstep
          clear hstep hown4 hgrow hat
          go_wp2
          go_roundw
          case rel => exact HST.out
          case measure => simp [intOf]; omega
        · skip
          go_wp2_with fail
          go_at_call 47
          refine (range_any g (-sz) sz (by omega) (by omega) (by omega) _ HG.out).mono ?_
          rintro e w6 ⟨y, rfl, y0, y1, ho, hc⟩
          have HOK := Lib.hid ho
          have HCK : Hid (Ch g wr w6) := hc
          clear ho hc
          go_wp2_with fail
          go_at_call 48
          refine (clip_any (x + y) (by omega) (by omega) _).mono ?_
          rintro e w7 ⟨⟨z, rfl, z0, z1⟩, rfl⟩
          have HX := Lib.hid (And.intro z0 z1)
          have hown1 := HO.out.kept (HCK.out) (by
            rcases hob : u8.ownBlock with _ | q
            · exact .inl rfl
            · exact .inr (fun e => by injection e with e; have := (HO.out.lt q hob).1; have := HGB.out; omega))
          have hsz := Ch.sz (HCK.out)
          have hgb := HGB.out
          have HOW := Lib.hid hown1
          clear hown1
          go_wp2_with (at_builtin; refine wpList_append_lies _ (by rfl) _ _ 22 (by rfl) w.heap.size 3 i0 _ 1 8 Try.underlying22 HI.out.1 HI.out.2.1 HI.out.2.2.1 HI.out.2.2.2 (by rfl) (by omega) u8 k (zs L) (by rfl) (HOW.out.alloc _) ⟨w6.heap.size, 0, none⟩ 1 1 [.int .i64 (z)] (by rfl) (by rfl) (World.news_of_block (cs := #[.int .i64 (z)]) (t := 3) (fr := (0, 0)) (heap_alloc_new w6 _)) (by simp [Value.oneCell']) (by omega) (by unfold maxLen; omega) (by omega) (by simp; omega) (w6.heap.size + 1) (by simp) ?_; intro h cap w5 hown4 hgrow hat hlt4)
          have hstep := li_step (n := n) (y := z) hgb hki HL.out HV.out (by omega) (by omega) HO.out HX.out (HOK.out) (HCK.out) HCW.out hbase hown4 hgrow
          have HST := Lib.hid hstep
          clear hstep hown4 hgrow hat
          go_wp2
          go_roundw
          case rel => exact HST.out
          case measure => simp [intOf]; omega
        · skip
          go_wp2_with fail
          go_at_call 10
          refine (n_any g 4 (by decide) (by decide) _ HG.out).mono ?_
          rintro e w6 ⟨b4, rfl, b40, b41, ho, hc⟩
          have HOK := Lib.hid ho
          have HCK := Lib.hid hc
          clear ho hc
          rcases (show b4 = 0 ∨ b4 ≠ 0 by omega) with rfl | hb4
          · skip
            go_wp2_with fail
            go_at_call 47
            refine (range_any g (-sz) sz (by omega) (by omega) (by omega) _ HOK.out).mono ?_
            rintro e w7 ⟨y, rfl, y0, y1, ho, hc⟩
            have HOK := Lib.hid ho
            have HCK : Hid (Ch g wr w7) := HCK.out.tr hc
            clear ho hc
            have HX : Hid (-1000 ≤ y ∧ y ≤ 1000) := ⟨by omega, by omega⟩
            have hown1 := HO.out.kept (HCK.out) (by
              rcases hob : u8.ownBlock with _ | q
              · exact .inl rfl
              · exact .inr (fun e => by injection e with e; have := (HO.out.lt q hob).1; have := HGB.out; omega))
            have hsz := Ch.sz (HCK.out)
            have hgb := HGB.out
            have HOW := Lib.hid hown1
            clear hown1
            go_wp2_with (at_builtin; refine wpList_append_lies _ (by rfl) _ _ 22 (by rfl) w.heap.size 3 i0 _ 1 8 Try.underlying22 HI.out.1 HI.out.2.1 HI.out.2.2.1 HI.out.2.2.2 (by rfl) (by omega) u8 k (zs L) (by rfl) (HOW.out.alloc _) ⟨w7.heap.size, 0, none⟩ 1 1 [.int .i64 (y)] (by rfl) (by rfl) (World.news_of_block (cs := #[.int .i64 (y)]) (t := 3) (fr := (0, 0)) (heap_alloc_new w7 _)) (by simp [Value.oneCell']) (by omega) (by unfold maxLen; omega) (by omega) (by simp; omega) (w7.heap.size + 1) (by simp) ?_; intro h cap w5 hown4 hgrow hat hlt4)
            have hstep := li_step (n := n) (y := y) hgb hki HL.out HV.out (by omega) (by omega) HO.out HX.out (HOK.out) (HCK.out) HCW.out hbase hown4 hgrow
            have HST := Lib.hid hstep
            clear hstep hown4 hgrow hat
            go_wp2
            go_roundw
            case rel => exact HST.out
            case measure => simp [intOf]; omega
          · skip
            have hown1 := HO.out.kept (HCK.out) (by
              rcases hob : u8.ownBlock with _ | q
              · exact .inl rfl
              · exact .inr (fun e => by injection e with e; have := (HO.out.lt q hob).1; have := HGB.out; omega))
            have hsz := Ch.sz (HCK.out)
            have hgb := HGB.out
            have HOW := Lib.hid hown1
            clear hown1
            go_wp2_with (at_builtin; refine wpList_append_lies _ (by rfl) _ _ 22 (by rfl) w.heap.size 3 i0 _ 1 8 Try.underlying22 HI.out.1 HI.out.2.1 HI.out.2.2.1 HI.out.2.2.2 (by rfl) (by omega) u8 k (zs L) (by rfl) (HOW.out.alloc _) ⟨w6.heap.size, 0, none⟩ 1 1 [.int .i64 (x)] (by rfl) (by rfl) (World.news_of_block (cs := #[.int .i64 (x)]) (t := 3) (fr := (0, 0)) (heap_alloc_new w6 _)) (by simp [Value.oneCell']) (by omega) (by unfold maxLen; omega) (by omega) (by simp; omega) (w6.heap.size + 1) (by simp) ?_; intro h cap w5 hown4 hgrow hat hlt4)
            have hstep := li_step (n := n) (y := x) hgb hki HL.out HV.out (by omega) (by omega) HO.out HX.out (HOK.out) (HCK.out) HCW.out hbase hown4 hgrow
            have HST := Lib.hid hstep
            clear hstep hown4 hgrow hat
            go_wp2
            go_roundw
            case rel => exact HST.out
            case measure => simp [intOf]; omega
        · skip
          go_wp2_with fail
          go_at_call 46
          refine (pick_any g wr.heap.size [-1000, 1000, 1000, 0] 4 (by rfl) (by decide) (by decide) (by have := HGB.out; have := HCW.out.sz; omega) _ (HG.out.bel (Bel.rf.al _)) (lst_new _ _ _ _ (by rfl) _ rfl)).mono ?_
          rintro e w6 ⟨y, rfl, hy, ho, hc⟩
          have hy1 : -1000 ≤ y ∧ y ≤ 1000 := by simp at hy; omega
          obtain ⟨y0, y1⟩ := hy1
          have HOK := Lib.hid ho
          have HCK : Hid (Ch g wr w6) := (Ch.rf.al _).tr hc
          clear ho hc hy
          have hown1 := HO.out.kept (HCK.out) (by
            rcases hob : u8.ownBlock with _ | q
            · exact .inl rfl
            · exact .inr (fun e => by injection e with e; have := (HO.out.lt q hob).1; have := HGB.out; omega))
          have hsz := Ch.sz (HCK.out)
          have hgb := HGB.out
          have HOW := Lib.hid hown1
          clear hown1
          go_wp2_with (at_builtin; refine wpList_append_lies _ (by rfl) _ _ 22 (by rfl) w.heap.size 3 i0 _ 1 8 Try.underlying22 HI.out.1 HI.out.2.1 HI.out.2.2.1 HI.out.2.2.2 (by rfl) (by omega) u8 k (zs L) (by rfl) (HOW.out.alloc _) ⟨w6.heap.size, 0, none⟩ 1 1 [.int .i64 (y)] (by rfl) (by rfl) (World.news_of_block (cs := #[.int .i64 (y)]) (t := 3) (fr := (0, 0)) (heap_alloc_new w6 _)) (by simp [Value.oneCell']) (by omega) (by unfold maxLen; omega) (by omega) (by simp; omega) (w6.heap.size + 1) (by simp) ?_; intro h cap w5 hown4 hgrow hat hlt4)
          have hstep := li_step (n := n) (y := y) hgb hki HL.out HV.out (by omega) (by omega) HO.out HX.out (HOK.out) (HCK.out) HCW.out hbase hown4 hgrow
          have HST := Lib.hid hstep
          clear hstep hown4 hgrow hat
          go_wp2
          go_roundw
          case rel => exact HST.out
          case measure => simp [intOf]; omega
      · obtain rfl : n = (k : Int) := by omega
        have hnk : n0 = k := by have := HNN.out; omega
        subst hnk
        go_wp2
        go_ret
        exact ⟨_, L, rfl, HO.out, HL.out, HV.out, HG.out, HCW.out⟩
end Go.Proofs.Ytmgdoglnckkobaa.Sr
namespace Go.Proofs.Ytmgdoglnckkobaa.Wi
open Go.ChangeShapes Go.WideShapes Go.RowKit Wo Sr
set_option linter.unusedVariables false
/-- a slice that reads as these numbers -/
def Zi (w : World) (A : Option Addr) (n : Nat) (L : List Int) : Prop := L.length = n ∧ (0 < n → ∃ ad : Addr, A = some ad ∧ ad.block < w.heap.size ∧ ∀ j, j < n → w.cell? (ad.add j) = some (.int .i64 (L.getD j 0)))
theorem Zi.bel {w w' : World} {A : Option Addr} {n : Nat} {L : List Int} (h : Zi w A n L) (hb : Bel w w') : Zi w' A n L :=
  ⟨h.1, fun hn => by
    obtain ⟨ad, e, hx, hc⟩ := h.2 hn
    exact ⟨ad, e, by have := hb.size; omega, fun j hj => hb.kp (hc j hj)⟩⟩
theorem row_zi {w : World} {base k : Nat} {v : Value} {L : List Int} (h : w.ownsRow base 3 1 v k (zs L)) (hk : L.length = k) : ∃ A c, v = .slice A k c ∧ Zi w A k L ∧ (A = none → c = 0) := by
  rcases Nat.eq_zero_or_pos k with h0 | h0
  · subst h0
    have hL : L = [] := List.eq_nil_of_length_eq_zero hk
    subst hL
    rcases h.2 with ⟨rfl, _⟩ | ⟨g, cap, cur, rfl, _⟩
    · exact ⟨none, 0, rfl, ⟨rfl, fun h => by omega⟩, fun _ => rfl⟩
    · exact ⟨some ⟨g, 0, none⟩, cap, rfl, ⟨rfl, fun h => by omega⟩, fun h => by cases h⟩
  · obtain ⟨g, cap, rfl, hb, hlt⟩ := h.form h0
    refine ⟨some ⟨g, 0, none⟩, cap, rfl, ⟨hk, fun _ => ⟨_, rfl, hlt, fun j hj => ?_⟩⟩, fun h => by cases h⟩
    exact h.cells (g := g) rfl j _ (zs_at (by omega))
theorem own_zi {w : World} {base k h c : Nat} {L : List Int} (hr : w.ownsRow base 3 1 (.slice (some ⟨h, 0, none⟩) k c) k (zs L)) (hk : L.length = k) : Zi w (some ⟨h, 0, none⟩) k L := by
  obtain ⟨A, c', e, hz, _⟩ := row_zi hr hk
  injection e with e1 e2 e3
  subst e1
  exact hz
theorem sample_ok (n : Int) (h0 : -1000 ≤ n) (h1 : n ≤ 1000) (w : World) : Calls Try.prog 95 #[.int .i64 n] w fun e w' => e = .returned (.bool true) ∧ w = w' := by
  go_enter Try.func95, Try.ntmps95
  go_wp2
  go_ret
  exact ⟨rfl, rfl⟩
set_option maxHeartbeats 4000000 in
theorem samples_ok (A : Option Addr) (c n : Nat) (L : List Int) (hn : n ≤ 1000000) (hs : Sam L) (w : World) (h : Zi w A n L) :
    Calls Try.prog 57 #[.slice A n c] w fun e w' => e = .returned (.bool true) ∧ Bel w w' := by
  have H1 := Lib.hid h
  have HS := Lib.hid hs
  have ni : (n : Int) ≤ 1000000 := by omega
  clear h hs
  go_enter Try.func57, Try.ntmps57
  go_wp2
  go_loopw [7] (fun s7 wr => ∃ (k : Nat) (V : World), V = wr ∧ k ≤ n ∧ s7 = .int .i64 (k : Int) ∧ Bel w wr) (fun s7 _ => n - (intOf s7).toNat)
  case atStart => exact ⟨0, _, rfl, by omega, rfl, Bel.rf⟩
  case round =>
    obtain ⟨k, wr, hwr, hk, rfl, hb⟩ := hrel
    subst hwr
    have HB := Lib.hid hb
    rcases Nat.lt_or_ge k n with hlt | hge
    · obtain ⟨ad, rfl, hab, hac⟩ := (H1.out.bel hb).2 (by omega)
      have c1 := hac k hlt
      have hx := HS.out.at k
      obtain ⟨x, hxe⟩ : ∃ x, L.getD k 0 = x := ⟨_, rfl⟩
      rw [hxe] at c1 hx
      obtain ⟨x0, x1⟩ := hx
      have ki : (k : Int) < (n : Int) := by omega
      clear hb hac hab hxe
      go_wp2_with (go_at_call 95; refine (sample_ok x x0 x1 _).mono ?_; rintro e w' ⟨rfl, rfl⟩)
      go_roundw
      case rel => exact ⟨k + 1, _, rfl, by omega, by go_num, by first | exact HB.out | exact HB.out.drwN _ | exact HB.out.drw⟩
      case measure => simp [intOf]; omega
    · obtain rfl : k = n := by omega
      clear hb
      go_wp2
      go_ret
      exact ⟨rfl, HB.out⟩
theorem made_i64 (n : Nat) : madeCells (Value.int .i64 0).cells (n * 1) = (zs (List.replicate n 0)).toArray := by
  apply Array.ext
  · simp [madeCells, zs]
  · intro i h1 h2
    simp [madeCells, zs, Nat.mod_one, Value.cells]
/-- 'make([]T, l, c)', the length and the capacity variables -/
theorem wpList_make_any {P : Program} (w : World) {ops : Array Oper} {rest : List Oper} {o : Oper} {a : Act} {Q : Exit → Act → World → Prop}
    (hg : o.guard = none) (l c : Operand) (t : TypeId) (hop : o.op = Op.makeSlice t l c)
    (e : TypeId) (i : TypeInfo) (z : Value) (size : Nat) (h1 : P.underlying t = some (.slice e)) (h2 : P.info? e = some i) (h3 : i.zero = some z) (h4 : i.size = size)
    (kl kc : IntKind) (L C : Int) (m n : Nat) (hl : a.eval l = .int kl L) (hc : a.eval c = .int kc C) (hL : L = (m : Int)) (hC : C = (n : Int)) (hmn : m ≤ n) (b2 : i.bytes * n ≤ 281474976710656) (b3 : n ≤ 4611686018427387904)
    (hK : wpList P ops Q rest (a.put o.dst (.slice (some ⟨w.heap.size, 0, none⟩) m n)) (w.alloc (.cells (madeCells z.cells (n * size)) e))) :
    wpList P ops Q (o :: rest) a w := by
  refine wpList_plain hg fun K hK' => ?_
  have hb' : (i.bytes : Int) * (n : Int) ≤ 281474976710656 := by
    have h : ((i.bytes * n : Nat) : Int) ≤ 281474976710656 := by omega
    rwa [Int.natCast_mul] at h
  have hr := run_make (P := P) w t e i z h1 h2 h3 kl kc m n (by omega) (by omega) hb' (by omega)
  simp only [Int.toNat_natCast] at hr
  subst hL
  subst hC
  subst h4
  unfold Oper.wp
  simp [execOp, hop, hl, hc, hr, Result.andThen]
  exact hK' _ _ hK
theorem add_row (h j : Nat) : (⟨h, 0, none⟩ : Addr).add j = ⟨h, j, none⟩ := by unfold Addr.add; split <;> simp_all
/-- the numbers at their cells -/
theorem Zi.at {w : World} {g n : Nat} {L : List Int} (h : Zi w (some ⟨g, 0, none⟩) n L) (j : Nat) (hj : j < n) : w.cell? ⟨g, j, none⟩ = some (.int .i64 (L.getD j 0)) := by
  obtain ⟨ad, e, _, hc⟩ := h.2 (by omega)
  cases e
  have := hc j hj
  rwa [add_row] at this
theorem zi_bk {w : World} {h : Nat} {t : TypeId} {L : List Int} (hb : Bk w h t (zs L).toArray) (n : Nat) (hn : L.length = n) : Zi w (some ⟨h, 0, none⟩) n L := by
  subst hn
  refine ⟨rfl, fun _ => ⟨_, rfl, hb.lt, fun j hj => ?_⟩⟩
  rw [add_row, hb.cell j]
  simpa using zs_at hj
/-- a store into a block that holds slices leaves the numbers as they are -/
theorem zi_st {w : World} {A : Option Addr} {n : Nat} {L : List Int} (h : Zi w A n L) {p : Addr} {a : Option Addr} {x y : Nat} (hp : w.cell? p = some (.slice a x y)) (u : Value) : Zi (w.setCell p u) A n L :=
  ⟨h.1, fun hn => by
    obtain ⟨ad, e, hx, hcc⟩ := h.2 hn
    refine ⟨ad, e, by simpa [World.setCell] using hx, fun j hj => ?_⟩
    have h1 := hcc j hj
    refine (World.cell?_setCell_other _ _ _ _ (fun e => ?_)).trans h1
    rw [e] at hp
    rw [hp] at h1
    cases h1⟩
theorem row_form {w : World} {base n : Nat} {v : Value} {L : List Int} (h : w.ownsRow base 3 1 v n (zs L)) (hn : 0 < n) : ∃ g c, v = .slice (some ⟨g, 0, none⟩) n c ∧ n ≤ c ∧ base ≤ g := by
  rcases h.2 with ⟨_, h0⟩ | ⟨g, cap, cur, hv, hb, hg, h1, _⟩
  · omega
  · exact ⟨g, cap, hv, h1, hb⟩
theorem ne_self (x : Int) : (x != x) = false := by simp
set_option maxHeartbeats 4000000 in
theorem ints_same (A A' : Option Addr) (c c' n : Nat) (L : List Int) (hn : n ≤ 1000000) (w : World) (h1 : Zi w A n L) (h2 : Zi w A' n L) :
    Calls Try.prog 20 #[.slice A n c, .slice A' n c'] w fun e w' => e = .returned (.bool true) ∧ Bel w w' := by
  have H1 := Lib.hid h1
  have H2 := Lib.hid h2
  have ni : (n : Int) ≤ 1000000 := by omega
  clear h1 h2
  go_enter Try.func20, Try.ntmps20
  go_wp2
  go_loopw [13] (fun s13 wr => ∃ (k : Nat) (V : World), V = wr ∧ k ≤ n ∧ s13 = .int .i64 (k : Int) ∧ Bel w wr) (fun s13 _ => n - (intOf s13).toNat)
  case atStart => exact ⟨0, _, rfl, by omega, rfl, Bel.rf⟩
  case round =>
    obtain ⟨k, wr, hwr, hk, rfl, hb⟩ := hrel
    subst hwr
    have HB := Lib.hid hb
    rcases Nat.lt_or_ge k n with hlt | hge
    · obtain ⟨ad, rfl, hab, hac⟩ := (H1.out.bel hb).2 (by omega)
      obtain ⟨ad', rfl, hab', hac'⟩ := (H2.out.bel hb).2 (by omega)
      have c1 := hac k hlt
      have c2 := hac' k hlt
      obtain ⟨x, hx⟩ : ∃ x, L.getD k 0 = x := ⟨_, rfl⟩
      rw [hx] at c1 c2
      have ki : (k : Int) < (n : Int) := by omega
      have kn := ne_self x
      clear hb hac hac' hab hab' hx
      go_wp2
      go_quiet (fail)
      go_wp2
      go_roundw
      case rel => exact ⟨k + 1, _, rfl, by omega, by go_num, HB.out.drwN _⟩
      case measure => simp [intOf]; omega
    · obtain rfl : k = n := by omega
      clear hb
      go_wp2
      go_ret
      exact ⟨rfl, HB.out⟩
theorem length_ok (m : Int) (h0 : 2 ≤ m) (h1 : m ≤ 32) (w : World) : Calls Try.prog 68 #[.int .i64 m] w fun e w' => e = .returned (.bool true) ∧ w = w' := by
  go_enter Try.func68, Try.ntmps68
  go_wp2
  go_ret
  exact ⟨rfl, rfl⟩
theorem own_bel {w w' : World} {base : Nat} {e : TypeId} {size : Nat} {v : Value} {n : Nat} {xs : List Value} (h : w.ownsRow base e size v n xs) (hb : Bel w w') : w'.ownsRow base e size v n xs := by
  refine ⟨h.1, ?_⟩
  rcases h.2 with hn | ⟨g, cap, cur, rfl, hbb, hg, rest⟩
  · exact .inl hn
  · exact .inr ⟨g, cap, cur, rfl, hbb, (Below.block hb g (Array.getElem?_eq_some_iff.1 hg).1).trans hg, rest⟩
theorem own_set {w : World} {base h n c t : Nat} {L : List Int} {e : TypeId} (hown : w.ownsRow base e 1 (.slice (some ⟨h, 0, none⟩) n c) n (zs L)) (y : Int) : (w.setCell ⟨h, t, none⟩ (.int .i64 y)).ownsRow base e 1 (.slice (some ⟨h, 0, none⟩) n c) n (zs (L.set t y)) := by
  refine ⟨by have := hown.1; simp only [zs_len, List.length_set] at *; exact this, ?_⟩
  rcases hown.2 with ⟨h0, _⟩ | ⟨g, cap, cur, e1, hb, hg, h1, h2, h3, h4⟩
  · cases h0
  · injection e1 with e1 e2 e3
    injection e1 with e1
    cases e1
    subst e3
    refine .inr ⟨h, c, cur.setIfInBounds t (.int .i64 y), rfl, hb, Bk.st (t := e) hg t _, h1, h2, by simpa using h3, ?_⟩
    rw [Array.toList_setIfInBounds, List.take_set, h4]
    simp [zs, List.map_set]
theorem own_fr {w : World} {base h n c : Nat} {xs : List Value} {e : TypeId} (hown : w.ownsRow base e 1 (.slice (some ⟨h, 0, none⟩) n c) n xs) (t : Nat) : w.frozen? ⟨h, t, none⟩ = false := by
  rcases hown.2 with ⟨h0, _⟩ | ⟨g, cap, cur, e1, hb, hg, _⟩
  · cases h0
  · injection e1 with e1 e2 e3
    injection e1 with e1
    cases e1
    exact Bk.fr (t := e) hg t
theorem own_any {w : World} {base k size : Nat} {e : TypeId} {v : Value} {xs : List Value} (h : w.ownsRow base e size v k xs) : ∃ A c, v = .slice A k c ∧ (0 < k → ∃ g, A = some ⟨g, 0, none⟩) := by
  rcases h.2 with ⟨rfl, rfl⟩ | ⟨g, cap, cur, rfl, _⟩
  · exact ⟨none, 0, rfl, fun h => by omega⟩
  · exact ⟨some ⟨g, 0, none⟩, cap, rfl, fun _ => ⟨g, rfl⟩⟩
theorem Zi.ch {w w' : World} {A : Option Addr} {n g : Nat} {L : List Int} (h : Zi w A n L) (hc : Ch g w w') (hn : ∀ ad, A = some ad → ad.block ≠ g) : Zi w' A n L :=
  ⟨h.1, fun h0 => by
    obtain ⟨ad, e, hx, hcc⟩ := h.2 h0
    exact ⟨ad, e, by have := hc.sz; omega, fun j hj => hc.kp (hcc j hj) (by rw [add_block]; exact hn ad e)⟩⟩
theorem own_ch {w w' : World} {base g : Nat} {e : TypeId} {size : Nat} {v : Value} {n : Nat} {xs : List Value} (h : w.ownsRow base e size v n xs) (hc : Ch g w w') (hg : g < base) : w'.ownsRow base e size v n xs :=
  h.kept hc (by
    rcases hob : v.ownBlock with _ | q
    · exact .inl rfl
    · exact .inr (fun e => by injection e with e; have := (h.lt q hob).1; omega))
end Go.Proofs.Ytmgdoglnckkobaa.Wi
namespace Go.Proofs.Ytmgdoglnckkobaa.Ri9In
open Go
set_option linter.unusedVariables false
theorem filter_le {p q : Nat → Bool} (h : ∀ x, q x = true → p x = true) : ∀ l : List Nat, (l.filter q).length ≤ (l.filter p).length
  | [] => Nat.le_refl _
  | y :: l => by
    have ih := filter_le h l
    rw [List.filter_cons, List.filter_cons]
    cases hqy : q y
    · rw [if_neg (by decide)]
      split
      · rw [List.length_cons]; omega
      · exact ih
    · rw [h y hqy, if_pos rfl, if_pos rfl, List.length_cons, List.length_cons]; omega
theorem filter_lt {p q : Nat → Bool} (h : ∀ x, q x = true → p x = true) {i : Nat} (hp : p i = true) (hq : q i = false) : ∀ l : List Nat, i ∈ l → (l.filter q).length < (l.filter p).length
  | [], hi => by cases hi
  | x :: l, hi => by
    rcases List.mem_cons.1 hi with rfl | hl
    · have := filter_le h l
      rw [List.filter_cons, List.filter_cons, hp, hq, if_neg (by decide), if_pos rfl, List.length_cons]
      omega
    · have ih := filter_lt h hp hq l hl
      rw [List.filter_cons, List.filter_cons]
      cases hqx : q x
      · rw [if_neg (by decide)]
        split
        · rw [List.length_cons]; omega
        · exact ih
      · rw [h x hqx, if_pos rfl, if_pos rfl, List.length_cons, List.length_cons]; omega
section
variable {F : Fence} {n : Nat} {P : Program} {ops : Array Oper} {Q : Exit → Act → World → Prop} {md : Region.Mode}
theorem wpAnyIn_inv (J : Array Bool → Act → World → Prop)
    (hstep : ∀ i o, ops[i]? = some o → ∀ listed a w, listed.size = ops.size → J listed a w → (∀ e ∈ o.after, Region.binds md e = true → listed.getD e.on false = true) → listed.getD i true = false → wpOpIn F n P ops Q i (J (listed.setIfInBounds i true)) a w)
    (hdone : ∀ listed a w, listed.size = ops.size → J listed a w → Region.ready md ops listed = [] → Q .normal a w) :
    ∀ fuel listed a w, listed.size = ops.size → ((List.range ops.size).filter fun i => !listed.getD i true).length ≤ fuel → J listed a w → wpAnyIn F n P md ops Q fuel listed a w := by
  intro fuel
  induction fuel with
  | zero =>
    intro listed a w hs hf hJ
    have hr : Region.ready md ops listed = [] := by
      apply List.eq_nil_iff_forall_not_mem.2
      intro j hj
      obtain ⟨h1, o, ho, _⟩ := mem_ready.1 hj
      have hlt : j < ops.size := (Array.getElem?_eq_some_iff.1 ho).1
      have hm : j ∈ (List.range ops.size).filter fun i => !listed.getD i true := List.mem_filter.2 ⟨List.mem_range.2 hlt, by rw [h1]; rfl⟩
      have := List.length_pos_of_mem hm
      omega
    exact ⟨hr, hdone _ _ _ hs hJ hr⟩
  | succ fuel ih =>
    intro listed a w hs hf hJ
    refine ⟨fun hr => hdone _ _ _ hs hJ hr, fun i hi => ?_⟩
    obtain ⟨h1, o, ho, h2⟩ := mem_ready.1 hi
    have hlt : i < ops.size := (Array.getElem?_eq_some_iff.1 ho).1
    refine wpOpIn_mono (fun a w h => ih _ _ _ (by simpa using hs) ?_ h) (hstep i o ho listed a w hs hJ h2 h1)
    have hset : ∀ x, (listed.setIfInBounds i true).getD x true = if x = i then true else listed.getD x true := by
      intro x
      simp only [Array.getD_eq_getD_getElem?, Array.getElem?_setIfInBounds]
      rcases Classical.em (i = x) with h | h
      · subst h
        simp [hs, hlt]
      · have : ¬ x = i := fun e => h e.symm
        simp [h, this]
    have := filter_lt (p := fun i => !listed.getD i true) (q := fun x => !(listed.setIfInBounds i true).getD x true)
      (fun x hx => by
        simp only [hset] at hx
        split at hx
        · cases hx
        · exact hx) (i := i) (by simp only [h1]; rfl) (by simp [hset]) (List.range ops.size) (List.mem_range.2 hlt)
    omega
theorem ready_nil (hac : ∀ i o, ops[i]? = some o → ∀ e ∈ o.after, Region.binds md e = true → e.on < i) {listed : Array Bool} (hs : listed.size = ops.size) (hr : Region.ready md ops listed = []) :
    ∀ n i, i < n → i < ops.size → listed.getD i false = true := by
  intro n
  induction n with
  | zero => intro i h; omega
  | succ n ih =>
    intro i hi hl
    cases hv : listed.getD i false
    · exfalso
      have ho : ops[i]? = some ops[i] := Array.getElem?_eq_getElem hl
      have hm : i ∈ Region.ready md ops listed := mem_ready.2 ⟨by
        rw [Array.getD_eq_getD_getElem?, Array.getElem?_eq_getElem (by omega)] at hv ⊢
        exact hv, _, ho, fun e he hb => ih e.on (by have := hac i _ ho e he hb; omega) (by have := hac i _ ho e he hb; omega)⟩
      rw [hr] at hm
      cases hm
    · rfl
theorem wpIn_region_inv {id : Nat} {a : Act} {w : World} (hm : P.follows .mixedOrders = true) (hac : ∀ i o, ops[i]? = some o → ∀ e ∈ o.after, Region.binds .any e = true → e.on < i)
    (J : Array Bool → Act → World → Prop) (h0 : J (Array.replicate ops.size false) a { w with drawn := w.drawn + 1 })
    (hstep : ∀ i o, ops[i]? = some o → ∀ listed a w, listed.size = ops.size → J listed a w → (∀ e ∈ o.after, Region.binds .any e = true → listed.getD e.on false = true) → listed.getD i true = false → wpOpIn F n P ops Q i (J (listed.setIfInBounds i true)) a w)
    (hdone : ∀ listed a w, J listed a w → (∀ i, i < ops.size → listed.getD i false = true) → Q .normal a w) : (Code.region id ops true).wpIn F n P Q a w :=
  wpIn_region_any hm (wpAnyIn_inv J hstep (fun listed a w hs hJ hr => hdone listed a w hJ fun i hi => ready_nil hac hs hr (i + 1) i (by omega) hi) ops.size _ _ _ (by simp) (Nat.le_trans (List.length_filter_le _ _) (by simp)) h0)
/-- what is listed has its binding edges listed -/
def Closed (md : Region.Mode) (ops : Array Oper) (listed : Array Bool) : Prop := ∀ i o, ops[i]? = some o → listed.getD i false = true → ∀ e ∈ o.after, Region.binds md e = true → listed.getD e.on false = true
theorem wpIn_region_inv2 {id : Nat} {a : Act} {w : World} (hm : P.follows .mixedOrders = true) (hac : ∀ i o, ops[i]? = some o → ∀ e ∈ o.after, Region.binds .any e = true → e.on < i)
    (J : Array Bool → Act → World → Prop) (h0 : J (Array.replicate ops.size false) a { w with drawn := w.drawn + 1 })
    (hstep : ∀ i o, ops[i]? = some o → ∀ listed a w, Closed .any ops listed → J listed a w → (∀ e ∈ o.after, Region.binds .any e = true → listed.getD e.on false = true) → listed.getD i true = false → wpOpIn F n P ops Q i (J (listed.setIfInBounds i true)) a w)
    (hdone : ∀ listed a w, J listed a w → (∀ i, i < ops.size → listed.getD i false = true) → Q .normal a w) : (Code.region id ops true).wpIn F n P Q a w :=
  wpIn_region_inv hm hac (fun l a w => Closed .any ops l ∧ J l a w) ⟨fun i o _ h => absurd h (by
      rw [Array.getD_eq_getD_getElem?, Array.getElem?_replicate]
      split <;> simp), h0⟩
    (fun i o ho l a w _ hj haft hun => wpOpIn_mono (fun a w h => ⟨fun j oj hoj hl e he hb => by
      rcases Classical.em (i = j) with hij | hij
      · subst hij
        rw [ho] at hoj
        cases hoj
        exact getD_set_true (haft e he hb)
      · rw [getD_set_ne _ hij] at hl
        exact getD_set_true (hj.1 j oj hoj hl e he hb), h⟩) (hstep i o ho l a w hj.1 hj.2 haft hun))
    (fun l a w hj hall => hdone l a w hj.2 hall)
/-- one operation walked as a list of one -/
def Only (K : Act → World → Prop) (Q : Exit → Act → World → Prop) : Exit → Act → World → Prop
  | .normal, a, w => K a w
  | e, a, w => Q e a w
theorem wpOpIn_list {i : Nat} {o : Oper} {K : Act → World → Prop} {a : Act} {w : World} (ho : ops[i]? = some o) (h : wpListIn F n P ops (Only K Q) [o] a w) : wpOpIn F n P ops Q i K a w := by
  unfold wpListIn at h
  unfold wpOpIn
  rw [ho]
  have up : o.wpIn F n P a w (wpListIn F n P ops (Only K Q) []) (Only K Q) → o.wpIn F n P a w K Q := by
    intro hh
    unfold Oper.wpIn at *
    refine ⟨hh.1, ?_⟩
    have hh := hh.2
    generalize (o.semAt F.round a.eval).run P w = r at *
    cases r with
    | ok n w' =>
      cases n <;> simp only [Oper.uponIn] at hh ⊢ <;>
        first
          | exact hh
          | exact ⟨hh.1, CallsIn.mono hh.2 (fun e w'' he => by cases e <;> exact he)⟩
          | exact ⟨hh.1, RoundIn.mono hh.2 (fun e w'' he => by cases e <;> exact he)⟩
          | exact ⟨hh.1, RowsIn.mono hh.2 (fun _ _ he => he)⟩
    | halt x w' => cases x <;> simp only [Oper.uponIn] at hh ⊢ <;> exact hh
  show if Region.wanted o (yielded ops a.tmps) then o.wpIn F n P a w K Q else (∀ f, o.about P w a.eval = some f → F.fn f) ∧ K (a.put o.dst undef) w
  split
  · rename_i hw
    rw [if_pos hw] at h
    exact up h
  · rename_i hw
    rw [if_neg hw] at h
    exact h
end
end Go.Proofs.Ytmgdoglnckkobaa.Ri9In
