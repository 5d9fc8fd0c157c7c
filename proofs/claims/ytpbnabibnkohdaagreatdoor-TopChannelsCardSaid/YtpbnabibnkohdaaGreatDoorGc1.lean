/- Merged: Words Src SrcN0 SrcNew0 SrcP0 SrcR0 WinMath SrcList Zi SrcLen Near EucMath RatioMath NorMath RatioMake Ref01 App. -/
import Derived.Test.YtpbnabibnkohdaaGreatDoorRows
import Derived.WalkKit
import Derived.WalkSmall
import Derived.Lib.Hide
import Derived.Deep.Draws
import Derived.Deep.QuietTactic
import Derived.ChangeSame
import Derived.WalkLawsBesides
import Derived.WalkSpells
import Derived.Outline
import Derived.IntWalk
import Derived.BigQuiet
import Derived.RegionTactic
import Derived.Laws.ResultCell
import Derived.OpenShut
import Derived.Below
import Derived.Deep.AppendLies
import Derived.Deep.RegionHeld3
import Derived.Deep.Onto
import Derived.WalkMore
import Derived.Deep.DeepCutAuto
import Derived.Deep.RegionLaw
namespace Go.Proofs.YtpbnabibnkohdaaGreatDoor.Wo
open Go.RowKit
/-- of what was there nothing has changed -/
def Bel (w w' : World) : Prop := Below w.heap.size w w'
section
variable {a b c : World}
theorem Bel.rf : Bel a a := Below.refl _ _
theorem Bel.size (h : Bel a b) : a.heap.size ≤ b.heap.size := Below.size h
theorem Bel.tr (h : Bel a b) (k : Bel b c) : Bel a c := Below.trans h (Below.mono k h.size)
theorem Bel.al (h : Bel a b) (o : Obj) : Bel a (b.alloc o) := Below.alloc h h.size o
theorem Bel.drw (h : Bel a b) : Bel a b.drew := Below.drew h
theorem Bel.drwN (h : Bel a b) (n : Nat) : Bel a (b.drewN n) := below_drewN h n
theorem Bel.st (h : Bel a b) {p : Addr} (hp : a.heap.size ≤ p.block) (u : Value) : Bel a (b.setCell p u) := Below.setCell h hp u
theorem Bel.st2 {p : Addr} (hp : a.heap.size ≤ p.block) (h : Bel a b) (u : Value) : Bel a (b.setCell p u) := Below.setCell h hp u
theorem Bel.cells (h : Bel a b) : (∀ k o, k < a.heap.size → b.cell? ⟨k, o, none⟩ = a.cell? ⟨k, o, none⟩) ∧ (∀ k o, k < a.heap.size → b.frozen? ⟨k, o, none⟩ = a.frozen? ⟨k, o, none⟩) :=
  ⟨fun k o hk => Below.cell (p := ⟨k, o, none⟩) h hk, fun k o hk => Below.frozen (p := ⟨k, o, none⟩) h hk⟩
theorem Bel.kp (h : Bel a b) {p : Addr} {v : Value} (hc : a.cell? p = some v) : b.cell? p = some v := (Below.cell h (World.block_lt_of_cell? a p hc)).trans hc
theorem Bel.bl (h : Bel a b) : Below a.heap.size a b := h
end
/-- block g is just these cells, none of them frozen -/
def Bk (w : World) (g : Nat) (t : TypeId) (cs : Array Value) : Prop := w.heap[g]? = some (.cells cs t (0, 0))
section
variable {w w' : World} {g : Nat} {t : TypeId} {cs : Array Value}
theorem Bk.lt (h : Bk w g t cs) : g < w.heap.size := by
  rcases Nat.lt_or_ge g w.heap.size with hlt | hge
  · exact hlt
  · unfold Bk at h; rw [Array.getElem?_eq_none hge] at h; cases h
theorem Bk.cell (h : Bk w g t cs) (i : Nat) : w.cell? ⟨g, i, none⟩ = cs[i]? := cell_of_row w g i cs t (0, 0) h
theorem Bk.fr (h : Bk w g t cs) (i : Nat) : w.frozen? ⟨g, i, none⟩ = false := by
  unfold Bk at h
  simp [World.frozen?, h]
theorem Bk.nw (w : World) (t : TypeId) (cs : Array Value) : Bk (w.alloc (.cells cs t)) w.heap.size t cs := heap_alloc_new w _
theorem Bk.nq (w : World) (t : TypeId) (cs : Array Value) {g : Nat} (hg : w.heap.size = g) : Bk (w.alloc (.cells cs t)) g t cs := hg ▸ Bk.nw w t cs
theorem Bk.drw (h : Bk w g t cs) : Bk w.drew g t cs := h
theorem Bk.drwN (h : Bk w g t cs) (n : Nat) : Bk (w.drewN n) g t cs := h
theorem Bk.al (h : Bk w g t cs) (o : Obj) : Bk (w.alloc o) g t cs := (Below.heap_alloc w o g h.lt).trans h
theorem Bk.st (h : Bk w g t cs) (i : Nat) (u : Value) : Bk (w.setCell ⟨g, i, none⟩ u) g t (cs.setIfInBounds i u) := by
  unfold Bk at h ⊢
  simp [World.setCell, Array.getElem?_modify, h]
theorem Bk.far (h : Bk w g t cs) {p : Addr} (hp : g ≠ p.block) (u : Value) : Bk (w.setCell p u) g t cs := (Below.heap_setCell w p u g hp).trans h
theorem Bk.bel (h : Bk w g t cs) (hb : Bel w w') : Bk w' g t cs := (Below.block hb g h.lt).trans h
end
theorem kp_al {w : World} {p : Addr} {v : Value} (h : w.cell? p = some v) (o : Obj) : (w.alloc o).cell? p = some v :=
  (World.cell?_alloc_lt w o p (World.block_lt_of_cell? w p h)).trans h
theorem kp_drw {w : World} {p : Addr} {v : Value} (h : w.cell? p = some v) : w.drew.cell? p = some v := h
theorem kp_drwN {w : World} {p : Addr} {v : Value} (h : w.cell? p = some v) (n : Nat) : (w.drewN n).cell? p = some v := h
theorem ret_int {k : IntKind} {a b : Int} (h : a = b) : Ending.returned (.int k a) = .returned (.int k b) := by rw [h]
theorem ret_bool {a b : Bool} (h : a = b) : Ending.returned (.bool a) = .returned (.bool b) := by rw [h]
theorem ret_int2 {k : IntKind} {a b c : Int} (h : a = b) : Ending.returned (.tuple #[.int k a, .int k c]) = .returned (.tuple #[.int k b, .int k c]) := by rw [h]
theorem quiet_same {P : Program} {f : FuncId} {args : Array Value} {w : World} {n : Nat} {v : Value}
    (h : Calls P f args (w.drewN n) fun e w' => e = .returned v ∧ w.drewN n = w') : Calls P f args (w.drewN n) fun e w'' => e = .returned v ∧ ∃ m, w'' = w.drewN m :=
  h.mono fun _ _ ⟨he, hm⟩ => ⟨he, n, hm.symm⟩
section
open Go.WideShapes Go.ChangeShapes
variable {H : Type} {enc : TypeId × Value → H} {P : Program}
/-- the step of a row whose call has changed nothing that was there, and makes memory of any kind -/
theorem post_below {f : Func} {s : ChangeSpec} {apart fresh handsOn again : Bool} {W W' : World} {args : Array Value} {v : Value} {ds gs : List (DataW H)} {before pa pv : List MemPlace}
    (hW : DataW.Whole enc P f.params.toList s.vars apart W args.toList ds gs before)
    (hres : ∀ (b : Nat) (sp : Nat → Bool) (hd : Bool), DataW.TrodAll enc P W' b sp hd f.resultTypes.toList (v.resultList f.resultTypes.size) (s.fn H (ds ++ gs)).results [])
    (hargs : ∀ sp : Nat → Bool, (∀ p ∈ before, sp p.block = true) → DataW.TrodAll enc P W' 0 sp true f.params.toList args.toList (s.fn H (ds ++ gs)).args pa)
    (hvars : ∀ sp : Nat → Bool, (∀ p ∈ before, sp p.block = true) → DataW.TrodVars enc P W' sp s.vars (s.fn H (ds ++ gs)).vars pv)
    (hps : before = pa ++ pv) (hb : Below W.heap.size W W')
    (hok : ∀ (j : Nat) (t : TypeId) (r : Value), f.resultTypes[j]? = some t → (v.resultList f.resultTypes.size)[j]? = some r → Value.okWide P W' .any 0 t r) :
    s.post enc P f apart fresh handsOn again W args v W' := by
  have hlt : ∀ p ∈ before, p.block < W.heap.size := fun p hp => hW.lt p hp
  have hold : ∀ p ∈ before, (fun b => decide (b < W.heap.size)) p.block = true := fun p hp => by simpa using hlt p hp
  refine ⟨ds, gs, before, [], pa, pv, hW, hres _ _ _, hargs _ hold, hvars _ hold, World.keptBut_mono (fun p hp => ⟨hp, ?_⟩) (hb.frame (· ∈ before)), fun _ => ?_⟩
  · rw [hps, List.mem_append] at hp
    exact Or.inr hp
  · obtain ⟨_, _, _, _, _, hz, hn⟩ := hW
    refine ⟨hok, _, _, ([] ++ pa) ++ pv, ⟨[] ++ pa, pv, trodAll_append (hargs _ (fun _ _ => rfl)) (hres _ _ _), hvars _ (fun _ _ => rfl), rfl, ?_, ?_⟩, ?_⟩
    · intro b off hp
      have hin : MemPlace.cell b off ∈ before := by rw [hps]; simpa using hp
      rw [hb.frozen (hlt _ hin)]
      exact hz b off hin
    · intro ha
      have := hn ha
      rw [hps] at this
      simpa using this
    · intro p hp _
      rw [hps]
      simpa using hp
end
end Go.Proofs.YtpbnabibnkohdaaGreatDoor.Wo
namespace Go.Proofs.YtpbnabibnkohdaaGreatDoor.Sr
open Go.ChangeShapes Go.WideShapes Go.RowKit Wo
set_option linter.unusedVariables false
/-- only block g has changed, and what is new -/
def Ch (g : Nat) (w w' : World) : Prop := w.grownBy w' (some g)
section
variable {g : Nat} {a b c : World}
theorem Ch.rf : Ch g a a := World.grownBy.refl _ _
theorem Ch.tr (h : Ch g a b) (k : Ch g b c) : Ch g a c :=
  ⟨k.os.trans h.os, k.tape.trans h.tape, k.output.trans h.output, Nat.le_trans h.size k.size, fun i hi hn => (k.block i (Nat.lt_of_lt_of_le hi h.size) hn).trans (h.block i hi hn)⟩
theorem Ch.al (h : Ch g a b) (o : Obj) : Ch g a (b.alloc o) := h.tr (World.grownBy_alloc _ _ _)
theorem Ch.drwN (h : Ch g a b) (n : Nat) : Ch g a (b.drewN n) := ⟨h.os, h.tape, h.output, h.size, h.block⟩
theorem Ch.drw (h : Ch g a b) : Ch g a b.drew := ⟨h.os, h.tape, h.output, h.size, h.block⟩
theorem Ch.st (h : Ch g a b) (i : Nat) (u : Value) : Ch g a (b.setCell ⟨g, i, none⟩ u) :=
  ⟨h.os, h.tape, h.output, by simpa [World.setCell] using h.size, fun k hk hn => (Below.heap_setCell b ⟨g, i, none⟩ u k (fun e => hn (by rw [e]))).trans (h.block k hk hn)⟩
theorem Ch.st2 (h : Ch g a b) {p : Addr} (hp : a.heap.size ≤ p.block) (u : Value) : Ch g a (b.setCell p u) :=
  ⟨h.os, h.tape, h.output, by simpa [World.setCell] using h.size, fun k hk hn => (Below.heap_setCell b p u k (by omega)).trans (h.block k hk hn)⟩
theorem Ch.of_bel (h : Bel a b) : Ch g a b := ⟨h.bl.os, h.bl.tape, h.bl.output, h.size, fun k hk _ => h.bl.block k hk⟩
theorem Ch.sz (h : Ch g a b) : a.heap.size ≤ b.heap.size := h.size
/-- seen from before the reader was made, nothing has changed -/
theorem Bel.ch (h : Bel a b) (k : Ch g b c) (hg : a.heap.size ≤ g) : Bel a c :=
  ⟨k.os.trans h.bl.os, k.tape.trans h.bl.tape, k.output.trans h.bl.output, Nat.le_trans h.size k.size, fun i hi => (k.block i (Nat.lt_of_lt_of_le hi h.size) (fun e => by injection e with e; omega)).trans (h.bl.block i hi)⟩
theorem Ch.kp (h : Ch g a b) {p : Addr} {v : Value} (hc : a.cell? p = some v) (hn : p.block ≠ g) : b.cell? p = some v :=
  World.grownBy.cell h hc (fun e => hn (by injection e))
theorem Ch.bk {k : Nat} {t : TypeId} {cs : Array Value} (h : Ch g a b) (hc : Bk a k t cs) (hn : k ≠ g) : Bk b k t cs := (h.block k hc.lt (fun e => hn (by injection e))).trans hc
end
/-- block g is a reader -/
def Ok (w : World) (g : Nat) : Prop := ∃ (A : Option Addr) (n c k : Nat) (zs : List Int), Bk w g 49 #[.slice A n c, .int .i64 (k : Int)] ∧ k ≤ n ∧ n ≤ 2000 ∧
  (∀ j, -9223372036854775808 ≤ zs.getD j 0 ∧ zs.getD j 0 ≤ 9223372036854775807) ∧ (0 < n → ∃ x : Addr, A = some x ∧ x.block < g ∧ ∀ i, i < n → w.cell? (x.add i) = some (.int .i64 (zs.getD i 0)))
theorem add_block (a : Addr) (n : Nat) : (a.add n).block = a.block := by unfold Addr.add; split <;> rfl
theorem Ok.lt {w : World} {g : Nat} (h : Ok w g) : g < w.heap.size := by
  obtain ⟨A, n, c, k, zs, hb, _⟩ := h
  exact hb.lt
theorem Ok.bel {w w' : World} {g : Nat} (h : Ok w g) (hb : Bel w w') : Ok w' g := by
  obtain ⟨A, n, c, k, zs, h1, h2, h3, h4, h5⟩ := h
  refine ⟨A, n, c, k, zs, h1.bel hb, h2, h3, h4, fun hn => ?_⟩
  obtain ⟨x, e, hx, hc⟩ := h5 hn
  exact ⟨x, e, hx, fun i hi => hb.kp (hc i hi)⟩
theorem Ok.st {w : World} {g : Nat} (h : Ok w g) {p : Addr} (hp : g < p.block) (u : Value) : Ok (w.setCell p u) g := by
  obtain ⟨A, n, c, k, zs, h1, h2, h3, h4, h5⟩ := h
  refine ⟨A, n, c, k, zs, h1.far (by omega) u, h2, h3, h4, fun hn => ?_⟩
  obtain ⟨x, e, hx, hc⟩ := h5 hn
  exact ⟨x, e, hx, fun i hi => (World.cell?_setCell_other _ _ _ _ (fun e => by have := congrArg Addr.block e; rw [add_block] at this; omega)).trans (hc i hi)⟩
theorem Ok.drwN {w : World} {g : Nat} (h : Ok w g) (m : Nat) : Ok (w.drewN m) g := h.bel (Bel.rf.drwN m)
theorem mod_eq (x n : Int) (h1 : 1 ≤ n) : (x < 0 → x.tmod n < 0 → x.tmod n + n = x % n) ∧ (0 ≤ x.tmod n → x.tmod n = x % n) ∧ (-n < x.tmod n ∧ x.tmod n < n) := by
  have e := Int.emod_nonneg x (b := n) (by omega)
  have e2 := Int.emod_lt_of_pos x (b := n) (by omega)
  rcases Int.lt_or_le x 0 with hx | hx
  · have hy : x.tmod n = -((-x) % n) := by
      have := Int.neg_tmod (a := -x) (b := n)
      rw [Int.neg_neg] at this
      rw [this, Int.tmod_eq_emod_of_nonneg (by omega)]
    have a := Int.emod_nonneg (-x) (b := n) (by omega)
    have b := Int.emod_lt_of_pos (-x) (b := n) (by omega)
    have d1 := Int.emod_add_mul_ediv x n
    have d2 := Int.emod_add_mul_ediv (-x) n
    have hs : ∃ q : Int, x % n = -((-x) % n) + n * q := ⟨-((-x) / n) - x / n, by grind⟩
    obtain ⟨q, hq⟩ := hs
    rw [hy]
    refine ⟨fun _ h => ?_, fun h => ?_, by omega⟩
    · have hq1 : q = 1 := by
        rcases Int.lt_or_le q 1 with h' | h'
        · have := Int.mul_le_mul_of_nonneg_left (show q ≤ 0 by omega) (show 0 ≤ n by omega); simp at this; omega
        · rcases Int.lt_or_le 1 q with h2 | h2
          · have := Int.mul_le_mul_of_nonneg_left (show 2 ≤ q by omega) (show 0 ≤ n by omega); omega
          · omega
      subst hq1
      omega
    · have hz : (-x) % n = 0 := by omega
      have hq0 : q = 0 := by
        rcases Int.lt_or_le q 0 with h' | h'
        · have := Int.mul_le_mul_of_nonneg_left (show q ≤ -1 by omega) (show 0 ≤ n by omega); omega
        · rcases Int.lt_or_le 0 q with h2 | h2
          · have := Int.mul_le_mul_of_nonneg_left (show 1 ≤ q by omega) (show 0 ≤ n by omega); omega
          · omega
      subst hq0
      omega
  · rw [Int.tmod_eq_emod_of_nonneg hx]
    refine ⟨fun h => by omega, fun _ => rfl, by omega⟩
theorem mod_any (x n : Int) (h1 : 1 ≤ n) (h2 : n ≤ 9223372036854775807) (hx : -9223372036854775808 ≤ x) (hx2 : x ≤ 9223372036854775807) (w : World) :
    Calls Tryz.prog 23 #[.int .i64 x, .int .i64 n] w fun e w' => e = .returned (.int .i64 (x % n)) ∧ w = w' := by
  have m := mod_eq x n h1
  have hne : n ≠ 0 := by omega
  have e1 := m.2.2.1
  have e2 := m.2.2.2
  rcases Int.lt_or_le (x.tmod n) 0 with h | h
  · have hx0 : x < 0 := by
      rcases Int.lt_or_le x 0 with h' | h'
      · exact h'
      · have := Int.tmod_nonneg n h'; omega
    have HE := Lib.hid (m.1 hx0 h)
    clear m
    go_enter Tryz.func23, Tryz.ntmps23
    go_wp2
    go_ret
    exact ⟨ret_int HE.out, rfl⟩
  · have HE := Lib.hid (m.2.1 h)
    clear m
    go_enter Tryz.func23, Tryz.ntmps23
    go_wp2
    go_ret
    exact ⟨ret_int HE.out, rfl⟩
def SomeRaw (g : Nat) (w : World) (e : Ending) (w' : World) : Prop := ∃ x : Int, e = .returned (.int .i64 x) ∧ -9223372036854775808 ≤ x ∧ x ≤ 9223372036854775807 ∧ Ok w' g ∧ Ch g w w'
theorem raw_any (g : Nat) (w : World) (h : Ok w g) :
    Calls Tryz.prog 45 #[.pointer (some ⟨g, 0, none⟩)] w (SomeRaw g w) := by
  obtain ⟨A, n, c, k, zs, hb, h2, h3, h4, h5⟩ := id h
  have k0 : w.cell? ⟨g, 0, none⟩ = some (.slice A n c) := hb.cell 0
  have k1 : w.cell? ⟨g, 1, none⟩ = some (.int .i64 (k : Int)) := hb.cell 1
  rcases Nat.lt_or_ge k n with hk | hk
  · obtain ⟨x, rfl, hx, hc⟩ := h5 (by omega)
    have hcell := hc k hk
    have hxk := h4 k
    have HOK : Hid (Ok w g) := h
    have f1 : w.frozen? ⟨g, 1, none⟩ = false := hb.fr 1
    have bk : decide ((n : Int) ≤ (k : Int)) = false := by simp; omega
    have hk1 : (k : Int) < (n : Int) := by omega
    have hk0 : (0 : Int) ≤ (k : Int) := by omega
    have hn : (n : Int) ≤ 2000 := by omega
    have sm : IntKind.i64.wrap ((k : Int) + 1 - 1) = (k : Int) := by rw [show (k : Int) + 1 - 1 = k by omega]; exact IntWalk.i64_in _ (by omega)
    have hne : (x.add k).block ≠ g := by rw [add_block]; omega
    have HH5 := Lib.hid h5
    have HB := Lib.hid hb
    clear h h5 hc hb
    go_enter Tryz.func45, Tryz.ntmps45
    have hc2 : ∀ (m : Nat) (v : Value), ((w.drewN m).setCell ⟨g, 1, none⟩ v).cell? (x.add k) = some (.int .i64 (zs.getD k 0)) := fun m v => by
      rw [World.cell?_setCell_other _ _ _ _ (fun e => hne (by rw [← e]))]
      exact hcell
    have sm2 : IntKind.i64.wrap (k : Int) = (k : Int) := IntWalk.i64_in _ (by omega)
    go_wp2
    go_quiet (fail)
    go_wp2
    go_quiet (fail)
    go_wp2
    go_ret
    have h6 : ∀ p q : Nat, Ok (((w.drewN p).setCell ⟨g, 1, none⟩ (.int .i64 ((k : Int) + 1))).drewN q) g := fun p q => by
      refine ⟨some x, n, c, k + 1, zs, HB.out.st 1 _, by omega, h3, h4, fun hn => ?_⟩
      refine ⟨x, rfl, hx, fun i hi => ?_⟩
      obtain ⟨x', e, _, hcc⟩ := HH5.out hn
      injection e with e
      subst e
      exact (World.cell?_setCell_other _ _ _ _ (fun e => by have := congrArg Addr.block e; rw [add_block] at this; simp at this; omega)).trans (hcc i hi)
    exact ⟨_, rfl, hxk.1, hxk.2, h6 _ _, ((Ch.rf.drwN _).st 1 _).drwN _⟩
  · have HOK : Hid (Ok w g) := h
    have bk : decide ((n : Int) ≤ (k : Int)) = true := by simp; omega
    clear h h5 hb
    go_enter Tryz.func45, Tryz.ntmps45
    go_wp2
    go_quiet (fail)
    go_wp2
    go_ret
    exact ⟨0, rfl, by decide, by decide, HOK.out, Ch.rf.drwN _⟩
end Go.Proofs.YtpbnabibnkohdaaGreatDoor.Sr
namespace Go.Proofs.YtpbnabibnkohdaaGreatDoor.Sr
open Go.ChangeShapes Go.WideShapes Go.RowKit Wo
set_option linter.unusedVariables false
def SomeN (g : Nat) (n : Int) (w : World) (e : Ending) (w' : World) : Prop := ∃ x : Int, e = .returned (.int .i64 x) ∧ 0 ≤ x ∧ x < n ∧ Ok w' g ∧ Ch g w w'
theorem n_any (g : Nat) (n : Int) (h1 : 1 ≤ n) (h2 : n ≤ 9223372036854775807) (w : World) (h : Ok w g) :
    Calls Tryz.prog 20 #[.pointer (some ⟨g, 0, none⟩), .int .i64 n] w (SomeN g n w) := by
  have HO := Lib.hid h
  clear h
  go_enter Tryz.func20, Tryz.ntmps20
  go_wp2_with fail
  go_at_call 45
  refine (raw_any g _ HO.out).mono ?_
  rintro e w1 ⟨x, rfl, hx0, hx1, ho, hc⟩
  have HOK := Lib.hid ho
  have HCH := Lib.hid hc
  clear ho hc
  have e0 := Int.emod_nonneg x (b := n) (by omega)
  have e1 := Int.emod_lt_of_pos x (b := n) (by omega)
  go_wp2_with (go_at_call 23; refine (mod_any x n h1 h2 hx0 hx1 _).mono ?_; rintro e w' ⟨rfl, rfl⟩)
  go_ret
  exact ⟨x % n, rfl, e0, e1, HOK.out, HCH.out⟩
end Go.Proofs.YtpbnabibnkohdaaGreatDoor.Sr
namespace Go.Proofs.YtpbnabibnkohdaaGreatDoor.Sr
open Go.ChangeShapes Go.WideShapes Go.RowKit Wo
set_option linter.unusedVariables false
def SomeNew (w : World) (e : Ending) (w' : World) : Prop := ∃ g : Nat, e = .returned (.pointer (some ⟨g, 0, none⟩)) ∧ w.heap.size ≤ g ∧ Ok w' g ∧ Bel w w'
theorem wf_range {zs : List Int} (h : ∀ n ∈ zs, (Lit.int .i64 n).wf = true) (j : Nat) : -9223372036854775808 ≤ zs.getD j 0 ∧ zs.getD j 0 ≤ 9223372036854775807 := by
  rw [List.getD_eq_getElem?_getD]
  exact range_i64 h j
set_option maxHeartbeats 1000000 in
theorem new_any (A : Option Addr) (len cap : Nat) (zs : List Int) (w : World)
    (h : (A = none ∧ len = 0 ∧ cap = 0 ∧ zs = []) ∨ ∃ x, A = some x ∧ len ≤ cap ∧ cap ≤ maxLen ∧ zs.length = cap ∧ (∀ i, i < zs.length → w.cell? (x.add i) = some (.int .i64 (zs.getD i 0))) ∧ ∀ n ∈ zs, (Lit.int .i64 n).wf = true) :
    Calls Tryz.prog 6 #[.slice A len cap] w (SomeNew w) := by
  rcases h with ⟨rfl, rfl, rfl, rfl⟩ | ⟨x, rfl, hl, hm, hz, hc, hw⟩
  · go_enter Tryz.func6, Tryz.ntmps6
    go_wp2
    go_ret
    exact ⟨_, rfl, Nat.le_refl _, ⟨none, 0, 0, 0, [], Bk.nw _ _ _, by omega, by omega, by simp, fun hn => by omega⟩, Bel.rf.al _⟩
  · unfold maxLen at hm
    have HW := Lib.hid hw
    have HC := Lib.hid hc
    have HZ := Lib.hid hz
    clear hw hc hz
    have hx : 0 < cap → x.block < w.heap.size := fun h0 => by
      have := World.block_lt_of_cell? w _ (HC.out 0 (by rw [HZ.out]; exact h0))
      rwa [add_block] at this
    have HX := Lib.hid hx
    clear hx
    have fin : ∀ n : Nat, n ≤ len → n ≤ 2000 → Ok (w.alloc (.cells #[.slice (some x) n cap, .int .i64 0] 49)) w.heap.size := fun n h1 h2 =>
      ⟨some x, n, cap, 0, zs, Bk.nw _ _ _, by omega, h2, wf_range HW.out, fun hn => ⟨x, rfl, HX.out (by omega), fun i hi => kp_al (HC.out i (by rw [HZ.out]; omega)) _⟩⟩
    have HF := Lib.hid fin
    clear fin
    rcases Nat.lt_or_ge 2000 len with h2 | h2
    · have bm : decide ((2000 : Int) < (len : Int)) = true := by simp; omega
      go_enter Tryz.func6, Tryz.ntmps6
      go_wp2
      go_ret
      exact ⟨_, rfl, Nat.le_refl _, HF.out 2000 (by omega) (by omega), Bel.rf.al _⟩
    · have bm : decide ((2000 : Int) < (len : Int)) = false := by simp; omega
      go_enter Tryz.func6, Tryz.ntmps6
      go_wp2
      go_ret
      exact ⟨_, rfl, Nat.le_refl _, HF.out len (by omega) (by omega), Bel.rf.al _⟩
end Go.Proofs.YtpbnabibnkohdaaGreatDoor.Sr
namespace Go.Proofs.YtpbnabibnkohdaaGreatDoor.Sr
open Go.ChangeShapes Go.WideShapes Go.RowKit Wo
set_option linter.unusedVariables false
def SomePick (g : Nat) (L : List Int) (w : World) (e : Ending) (w' : World) : Prop := ∃ x : Int, e = .returned (.int .i64 x) ∧ x ∈ L ∧ Ok w' g ∧ Ch g w w'
/-- the block holds the numbers of a list -/
def Lst (w : World) (b : Nat) (L : List Int) : Prop := b < w.heap.size ∧ ∀ i, i < L.length → w.cell? ⟨b, i, none⟩ = some (.int .i64 (L.getD i 0))
theorem lst_new (w : World) (L : List Int) (t : TypeId) (cs : Array Value) (hc : cs = (L.map (Value.int .i64)).toArray) (b : Nat) (hb : w.heap.size = b) : Lst (w.alloc (.cells cs t)) b L := by
  subst hb hc
  refine ⟨by simp, fun i hi => ?_⟩
  rw [cell_of_row _ _ i _ t (0, 0) (heap_alloc_new w _)]
  simp [List.getD_eq_getElem?_getD, hi]
theorem pick_any (g b : Nat) (L : List Int) (m : Nat) (hm : m = L.length) (h1 : 1 ≤ m) (h2 : m ≤ 1000000) (hbg : b ≠ g) (w : World) (h : Ok w g) (hl : Lst w b L) :
    Calls Tryz.prog 40 #[.pointer (some ⟨g, 0, none⟩), .slice (some ⟨b, 0, none⟩) m m] w (SomePick g L w) := by
  have HO := Lib.hid h
  have HLs := Lib.hid hl
  have HM := Lib.hid hm
  clear h hl hm
  go_enter Tryz.func40, Tryz.ntmps40
  go_wp2_with fail
  go_at_call 20
  refine (n_any g (m : Int) (by omega) (by omega) _ HO.out).mono ?_
  rintro e w1 ⟨x, rfl, hx0, hx1, ho, hc⟩
  obtain ⟨k, rfl⟩ := Int.eq_ofNat_of_zero_le hx0
  have hk : k < m := by omega
  have hcell : w1.cell? ⟨b, k, none⟩ = some (.int .i64 (L.getD k 0)) := hc.kp (HLs.out.2 k (by have := HM.out; omega)) hbg
  have hmem : Hid (L.getD k 0 ∈ L) := by
    have hkl : k < L.length := by have := HM.out; omega
    show L.getD k 0 ∈ L
    rw [List.getD_eq_getElem?_getD, List.getElem?_eq_getElem hkl]
    exact List.getElem_mem hkl
  have HOK := Lib.hid ho
  have HCH := Lib.hid hc
  clear ho hc
  generalize L.getD k 0 = v at *
  go_wp2
  go_ret
  exact ⟨v, rfl, hmem.out, HOK.out, HCH.out⟩
end Go.Proofs.YtpbnabibnkohdaaGreatDoor.Sr
namespace Go.Proofs.YtpbnabibnkohdaaGreatDoor.Sr
open Go.ChangeShapes Go.WideShapes Go.RowKit Wo
set_option linter.unusedVariables false
def SomeRange (g : Nat) (lo hi : Int) (w : World) (e : Ending) (w' : World) : Prop := ∃ x : Int, e = .returned (.int .i64 x) ∧ lo ≤ x ∧ x ≤ hi ∧ Ok w' g ∧ Ch g w w'
theorem range_any (g : Nat) (lo hi : Int) (h0 : -2305843009213693952 ≤ lo) (h1 : lo ≤ hi) (h2 : hi ≤ 2305843009213693952) (w : World) (h : Ok w g) :
    Calls Tryz.prog 21 #[.pointer (some ⟨g, 0, none⟩), .int .i64 lo, .int .i64 hi] w (SomeRange g lo hi w) := by
  have HN : Hid (∀ W, Ok W g → Calls Tryz.prog 20 #[.pointer (some ⟨g, 0, none⟩), .int .i64 (hi - lo + 1)] W (SomeN g (hi - lo + 1) W)) := fun W hW => n_any g _ (by omega) (by omega) W hW
  have HO := Lib.hid h
  clear h
  go_enter Tryz.func21, Tryz.ntmps21
  go_wp2_with fail
  go_at_call 20
  refine (HN.out _ HO.out).mono ?_
  rintro e w1 ⟨x, rfl, hx0, hx1, ho, hc⟩
  have HOK := Lib.hid ho
  have HCH := Lib.hid hc
  clear ho hc
  go_wp2
  go_ret
  exact ⟨lo + x, rfl, by omega, by omega, HOK.out, HCH.out⟩
end Go.Proofs.YtpbnabibnkohdaaGreatDoor.Sr
namespace Go.Proofs.YtpbnabibnkohdaaGreatDoor.Wi
set_option linter.unusedVariables false
def su (f : Int → Int) : List Int → Int
  | [] => 0
  | x :: L => f x + su f L
def sq (x : Int) : Int := x * x
def ix (x : Int) : Int := x
theorem su_append (f : Int → Int) (A B : List Int) : su f (A ++ B) = su f A + su f B := by
  induction A with
  | nil => simp [su]
  | cons x A ih => simp only [List.cons_append, su, ih]; omega
theorem su_snoc (f : Int → Int) (A : List Int) (x : Int) : su f (A ++ [x]) = su f A + f x := by
  rw [su_append]; simp [su]
/-- the samples are in their range -/
def Sam (L : List Int) : Prop := ∀ x ∈ L, -1000 ≤ x ∧ x ≤ 1000
theorem Sam.take {L : List Int} (h : Sam L) (n : Nat) : Sam (L.take n) := fun x hx => h x (List.mem_of_mem_take hx)
theorem Sam.drop {L : List Int} (h : Sam L) (n : Nat) : Sam (L.drop n) := fun x hx => h x (List.mem_of_mem_drop hx)
theorem Sam.at {L : List Int} (h : Sam L) (i : Nat) : -1000 ≤ L.getD i 0 ∧ L.getD i 0 ≤ 1000 := by
  rw [List.getD_eq_getElem?_getD]
  rcases Nat.lt_or_ge i L.length with hi | hi
  · rw [List.getElem?_eq_getElem hi]; exact h _ (List.getElem_mem hi)
  · rw [List.getElem?_eq_none hi]; decide
theorem sq_in {x : Int} (h1 : -1000 ≤ x) (h2 : x ≤ 1000) : 0 ≤ x * x ∧ x * x ≤ 1000000 := by
  have a : 0 ≤ (1000 - x) * (1000 + x) := Int.mul_nonneg (by omega) (by omega)
  have e : (1000 - x) * (1000 + x) = 1000000 - x * x := by grind
  have b : 0 ≤ x * x := by
    rcases Int.lt_or_le x 0 with h | h
    · have := Int.mul_nonneg (show 0 ≤ -x by omega) (show 0 ≤ -x by omega); rwa [Int.neg_mul_neg] at this
    · exact Int.mul_nonneg h h
  omega
theorem sq_nn (x : Int) : 0 ≤ x * x := by
  rcases Int.lt_or_le x 0 with h | h
  · have := Int.mul_nonneg (show 0 ≤ -x by omega) (show 0 ≤ -x by omega); rwa [Int.neg_mul_neg] at this
  · exact Int.mul_nonneg h h
theorem su_in {L : List Int} (h : Sam L) : -(1000 * (L.length : Int)) ≤ su ix L ∧ su ix L ≤ 1000 * (L.length : Int) := by
  induction L with
  | nil => simp [su]
  | cons x L ih =>
    have := ih (fun y hy => h y (by simp [hy]))
    have := h x (by simp)
    simp only [su, ix, List.length_cons]
    omega
theorem sq_su_in {L : List Int} (h : Sam L) : 0 ≤ su sq L ∧ su sq L ≤ 1000000 * (L.length : Int) := by
  induction L with
  | nil => simp [su]
  | cons x L ih =>
    have := ih (fun y hy => h y (by simp [hy]))
    have hx := h x (by simp)
    have := sq_in hx.1 hx.2
    simp only [su, sq, List.length_cons]
    omega
theorem take_snoc (L : List Int) (k : Nat) (h : k < L.length) : L.take (k + 1) = L.take k ++ [L.getD k 0] := by
  rw [List.take_succ_eq_append_getElem h, List.getD_eq_getElem?_getD, List.getElem?_eq_getElem h]; rfl
theorem su_next (f : Int → Int) (L : List Int) (k : Nat) (h : k < L.length) : su f (L.take (k + 1)) = su f (L.take k) + f (L.getD k 0) := by
  rw [take_snoc L k h, su_snoc]
/-- the sums of the beginnings -/
def begs (f : Int → Int) (L : List Int) : List Int := (List.range (L.length + 1)).map fun i => su f (L.take i)
theorem begs_len (f : Int → Int) (L : List Int) : (begs f L).length = L.length + 1 := by simp [begs]
theorem begs_at (f : Int → Int) (L : List Int) (i : Nat) (h : i ≤ L.length) : (begs f L).getD i 0 = su f (L.take i) := by
  rw [List.getD_eq_getElem?_getD, begs, List.getElem?_map, List.getElem?_range (by omega)]; rfl
/-- the sum over a part -/
theorem su_part (f : Int → Int) (L : List Int) (i k : Nat) : su f (L.take (i + k)) - su f (L.take i) = su f ((L.drop i).take k) := by
  rw [List.take_add, su_append]; omega
/-- the sum of the squares of the differences to a number -/
theorem dif_nn (L : List Int) (x : Int) : 0 ≤ (L.length : Int) * (x * x) - 2 * x * su ix L + su sq L := by
  induction L with
  | nil => simp [su]
  | cons y L ih =>
    simp only [su, ix, sq, List.length_cons] at *
    have h := sq_nn (x - y)
    have e : ((L.length + 1 : Nat) : Int) * (x * x) - 2 * x * (y + su ix L) + (y * y + su sq L) = ((L.length : Int) * (x * x) - 2 * x * su ix L + su sq L) + (x - y) * (x - y) := by
      rw [show ((L.length + 1 : Nat) : Int) = (L.length : Int) + 1 by omega]; grind
    have e2 : su (fun x => x) L = su ix L := rfl
    have e3 : su (fun x => x * x) L = su sq L := rfl
    rw [e]
    omega
theorem pair_nn (A B : List Int) : 0 ≤ (B.length : Int) * su sq A - 2 * su ix A * su ix B + (A.length : Int) * su sq B := by
  induction A with
  | nil => simp [su]
  | cons x A ih =>
    have h := dif_nn B x
    have e : (B.length : Int) * su sq (x :: A) - 2 * su ix (x :: A) * su ix B + ((x :: A).length : Int) * su sq B =
        ((B.length : Int) * su sq A - 2 * su ix A * su ix B + (A.length : Int) * su sq B) + ((B.length : Int) * (x * x) - 2 * x * su ix B + su sq B) := by
      rw [show ((x :: A).length : Int) = (A.length : Int) + 1 by simp, show su sq (x :: A) = x * x + su sq A from rfl, show su ix (x :: A) = x + su ix A from rfl]; grind
    rw [e]
    omega
/-- the variance -/
def vr (L : List Int) : Int := (L.length : Int) * su sq L - su ix L * su ix L
theorem vr_nn (L : List Int) : 0 ≤ vr L := by
  have := pair_nn L L
  have e : (L.length : Int) * su sq L - 2 * su ix L * su ix L + (L.length : Int) * su sq L = 2 * vr L := by unfold vr; grind
  omega
theorem vr_parts (A B : List Int) : vr A + vr B ≤ vr (A ++ B) := by
  have := pair_nn A B
  have e : vr (A ++ B) = vr A + vr B + ((B.length : Int) * su sq A - 2 * su ix A * su ix B + (A.length : Int) * su sq B) := by
    unfold vr
    rw [su_append, su_append, List.length_append, show ((A.length + B.length : Nat) : Int) = (A.length : Int) + (B.length : Int) by omega]
    grind
  omega
/-- the squares of the differences of a number and those ahead of it -/
def difs (x : Int) : List Int → Int
  | [] => 0
  | y :: L => (x - y) * (x - y) + difs x L
theorem difs_snoc (x : Int) (L : List Int) (y : Int) : difs x (L ++ [y]) = difs x L + (x - y) * (x - y) := by
  induction L with
  | nil => simp [difs]
  | cons z L ih => simp only [List.cons_append, difs, ih]; omega
theorem difs_eq (x : Int) (L : List Int) : difs x L = (L.length : Int) * (x * x) - 2 * x * su ix L + su sq L := by
  induction L with
  | nil => simp [difs, su]
  | cons y L ih =>
    rw [show difs x (y :: L) = (x - y) * (x - y) + difs x L from rfl, ih, show su sq (y :: L) = y * y + su sq L from rfl, show su ix (y :: L) = y + su ix L from rfl, show ((y :: L).length : Int) = (L.length : Int) + 1 by simp]
    grind
theorem vr_snoc (L : List Int) (x : Int) : vr (L ++ [x]) = vr L + difs x L := by
  rw [difs_eq]
  unfold vr
  rw [su_snoc, su_snoc, List.length_append, show ((L.length + [x].length : Nat) : Int) = (L.length : Int) + 1 by simp]
  unfold ix sq
  grind
theorem difs_in {L : List Int} (h : Sam L) {x : Int} (h1 : -1000 ≤ x) (h2 : x ≤ 1000) : 0 ≤ difs x L ∧ difs x L ≤ 4000000 * (L.length : Int) := by
  induction L with
  | nil => simp [difs]
  | cons y L ih =>
    have := ih (fun z hz => h z (by simp [hz]))
    have hy := h y (by simp)
    have a : 0 ≤ (x - y) * (x - y) := sq_nn _
    have b : 0 ≤ (2000 - (x - y)) * (2000 + (x - y)) := Int.mul_nonneg (by omega) (by omega)
    have e : (2000 - (x - y)) * (2000 + (x - y)) = 4000000 - (x - y) * (x - y) := by grind
    simp only [difs, List.length_cons]
    omega
/-- shifted lists -/
theorem su_shift (L : List Int) (b : Int) : su ix (L.map (· + b)) = su ix L + (L.length : Int) * b := by
  induction L with
  | nil => simp [su]
  | cons x L ih =>
    simp only [List.map_cons, su, ih, ix, List.length_cons]
    rw [show ((L.length + 1 : Nat) : Int) = (L.length : Int) + 1 by omega]; grind
theorem sq_shift (L : List Int) (b : Int) : su sq (L.map (· + b)) = su sq L + 2 * b * su ix L + (L.length : Int) * (b * b) := by
  induction L with
  | nil => simp [su]
  | cons x L ih =>
    rw [List.map_cons, show su sq ((x + b) :: L.map (· + b)) = (x + b) * (x + b) + su sq (L.map (· + b)) from rfl, ih, show su sq (x :: L) = x * x + su sq L from rfl, show su ix (x :: L) = x + su ix L from rfl,
      show ((x :: L).length : Int) = (L.length : Int) + 1 by simp]
    grind
theorem vr_shift (L : List Int) (b : Int) : vr (L.map (· + b)) = vr L := by
  unfold vr
  rw [sq_shift, su_shift, List.length_map]
  grind
theorem mul_le2 {n : Int} {a c : Int} (h0 : 0 ≤ n) (h : n ≤ a) (c0 : 0 ≤ c) : n * c ≤ a * c := Int.mul_le_mul_of_nonneg_right h c0
end Go.Proofs.YtpbnabibnkohdaaGreatDoor.Wi
namespace Go.Proofs.YtpbnabibnkohdaaGreatDoor.Sr
open Go.ChangeShapes Go.WideShapes Go.RowKit Wo Wi
set_option linter.unusedVariables false
/-- numbers as values -/
def zs (L : List Int) : List Value := L.map (Value.int .i64)
theorem zs_len (L : List Int) : (zs L).length = L.length := by simp [zs]
theorem zs_app (L M : List Int) : zs (L ++ M) = zs L ++ zs M := by simp [zs]
theorem zs_at {L : List Int} {j : Nat} (h : j < L.length) : (zs L)[j]? = some (.int .i64 (L.getD j 0)) := by simp [zs, List.getD_eq_getElem?_getD, h]
theorem info_int : (Tryz.prog.info? 3).map (fun i => (i.zero, i.size, i.bytes)) = some (some (.int .i64 0), 1, 8) := by kernel_rfl
theorem ok_grown {w w' : World} {g : Nat} {row : Option Nat} (h : Ok w g) (hg : w.grownBy w' row) (hr : ∀ b, row = some b → g < b) : Ok w' g := by
  obtain ⟨A, n, c, k, zs, h1, h2, h3, h4, h5⟩ := h
  refine ⟨A, n, c, k, zs, (hg.block g h1.lt (fun e => by have := hr _ e.symm; omega)).trans h1, h2, h3, h4, fun hn => ?_⟩
  obtain ⟨x, e, hx, hc⟩ := h5 hn
  exact ⟨x, e, hx, fun i hi => World.grownBy.cell hg (hc i hi) (fun e => by have := hr _ e.symm; rw [add_block] at this; omega)⟩
theorem ch_grown {a b c : World} {g : Nat} {row : Option Nat} (h : Ch g a b) (hg : b.grownBy c row) (hr : ∀ q, row = some q → a.heap.size ≤ q) : Ch g a c :=
  ⟨hg.os.trans h.os, hg.tape.trans h.tape, hg.output.trans h.output, Nat.le_trans h.size hg.size, fun i hi hn => (hg.block i (Nat.lt_of_lt_of_le hi h.size) (fun e => by have := hr _ e.symm; omega)).trans (h.block i hi hn)⟩
theorem sam_snoc {L : List Int} (h : Sam L) {y : Int} (h1 : -1000 ≤ y) (h2 : y ≤ 1000) : Sam (L ++ [y]) := by
  intro p hp
  rcases List.mem_append.1 hp with h' | h'
  · exact h p h'
  · simp at h'; subst h'; exact ⟨h1, h2⟩
/-- k samples have been appended -/
def LI (n : Int) (g base : Nat) (w : World) (s7 s8 s9 : Value) (wr : World) : Prop := ∃ (k : Nat) (L : List Int) (x : Int) (V : World) (u : Value), V = wr ∧ u = s8 ∧ (k : Int) ≤ n ∧ s9 = .int .i64 (k : Int) ∧ s7 = .int .i64 x ∧ (-1000 ≤ x ∧ x ≤ 1000) ∧
  wr.ownsRow base 3 1 s8 k (zs L) ∧ L.length = k ∧ Sam L ∧ Ok wr g ∧ Ch g w wr ∧ base ≤ wr.heap.size
theorem li_step {n : Int} {g k h cap : Nat} {w wr w1 w2 : World} {s8 : Value} {L : List Int} {x y : Int} (hgb : g < w.heap.size) (hk : (k : Int) < n) (hL : L.length = k) (hv : Sam L) (hy0 : -1000 ≤ y) (hy1 : y ≤ 1000)
    (hown : wr.ownsRow w.heap.size 3 1 s8 k (zs L)) (hx : -1000 ≤ x ∧ x ≤ 1000) (ho1 : Ok w1 g) (hc1 : Ch g wr w1) (hb : Ch g w wr) (hbase : w.heap.size ≤ wr.heap.size)
    (hown2 : w2.ownsRow w.heap.size 3 1 (.slice (some ⟨h, 0, none⟩) (k + 1) cap) (k + 1) (zs L ++ [.int .i64 y])) (hgr : (w1.alloc (.cells #[.int .i64 y] 3)).grownBy w2 s8.ownBlock) :
    LI n g w.heap.size w (.int .i64 x) (.slice (some ⟨h, 0, none⟩) (k + 1) cap) (.int .i64 ((k : Int) + 1)) w2 := by
  have hrow : ∀ b, s8.ownBlock = some b → w.heap.size ≤ b := fun b e => (hown.lt b e).1
  refine ⟨k + 1, L ++ [y], x, _, _, rfl, rfl, by omega, by congr 1, rfl, hx, by rw [zs_app]; exact hown2, by simp [hL], sam_snoc hv hy0 hy1, ?_, ?_, ?_⟩
  · exact ok_grown (ho1.bel (Bel.rf.al _)) hgr (fun b e => by have := hrow b e; omega)
  · exact ch_grown ((hb.tr hc1).al _) hgr hrow
  · have := hgr.size
    have := hc1.sz
    simp at *
    omega
theorem clip_any (n : Int) (h0 : -4000 ≤ n) (h1 : n ≤ 4000) (w : World) : Calls Tryz.prog 22 #[.int .i64 n] w fun e w' => (∃ y, e = .returned (.int .i64 y) ∧ -1000 ≤ y ∧ y ≤ 1000) ∧ w = w' := by
  rcases Int.lt_trichotomy n (-1000) with h | rfl | h
  · go_enter Tryz.func22, Tryz.ntmps22
    go_wp2
    go_ret
    exact ⟨⟨_, rfl, by omega, by omega⟩, rfl⟩
  · go_enter Tryz.func22, Tryz.ntmps22
    go_wp2
    go_ret
    exact ⟨⟨_, rfl, by omega, by omega⟩, rfl⟩
  · rcases Int.lt_trichotomy n 1000 with h' | rfl | h'
    all_goals
      go_enter Tryz.func22, Tryz.ntmps22
      go_wp2
      go_ret
      exact ⟨⟨_, rfl, by omega, by omega⟩, rfl⟩
def SomeList (g n : Nat) (w : World) (e : Ending) (w' : World) : Prop := ∃ (v : Value) (L : List Int), e = .returned v ∧ w'.ownsRow w.heap.size 3 1 v n (zs L) ∧ L.length = n ∧ Sam L ∧ Ok w' g ∧ Ch g w w'
set_option maxHeartbeats 16000000 in
set_option maxRecDepth 100000 in
theorem list_any (g n0 : Nat) (hn : n0 ≤ 1000) (w : World) (h : Ok w g) :
    Calls Tryz.prog 18 #[.pointer (some ⟨g, 0, none⟩), .int .i64 (n0 : Int)] w (SomeList g n0 w) := by
  obtain ⟨i0, hi0, hz0, hz1, hz2⟩ := info_parts info_int
  have HI := Lib.hid (And.intro hi0 (And.intro hz0 (And.intro hz1 hz2)))
  clear hi0 hz0 hz1 hz2
  obtain ⟨n, hnn⟩ : ∃ n, (n0 : Int) = n := ⟨_, rfl⟩
  have n1 : 0 ≤ n := by omega
  have n2 : n ≤ 1000 := by omega
  rw [hnn]
  have HNN := Lib.hid hnn
  have HGB := Lib.hid h.lt
  have HO0 := Lib.hid h
  clear h hnn hn
  go_enter Tryz.func18, Tryz.ntmps18
  go_wp2_with fail
  go_at_call 20
  refine (n_any g 6 (by decide) (by decide) _ HO0.out).mono ?_
  rintro e w1 ⟨kd, rfl, kd0, kd1, ho, hc⟩
  have HO1 := Lib.hid ho
  have HC1 := Lib.hid hc
  clear ho hc
  go_wp2_with fail
  go_at_call 40
  refine (pick_any g w1.heap.size [1, 3, 10, 100, 1000] 5 (by rfl) (by decide) (by decide) (by have := HGB.out; have := HC1.out.sz; omega) _ (HO1.out.bel (Bel.rf.al _)) (lst_new _ _ _ _ (by rfl) _ rfl)).mono ?_
  rintro e w2 ⟨sz, rfl, hsz, ho, hc⟩
  have hs1 : 1 ≤ sz ∧ sz ≤ 1000 := by simp at hsz; omega
  obtain ⟨sz0, sz1⟩ := hs1
  have HO2 := Lib.hid ho
  have HC2 : Hid (Ch g w w2) := (HC1.out.al _).tr hc
  clear ho hc hsz
  go_wp2_with fail
  go_at_call 20
  refine (n_any g 3 (by decide) (by decide) _ HO2.out).mono ?_
  rintro e w3 ⟨b, rfl, bd0, bd1, ho, hc⟩
  have HO3 := Lib.hid ho
  have HC3 : Hid (Ch g w w3) := HC2.out.tr hc
  clear ho hc
  have HB : (∃ x, -1000 ≤ x ∧ x ≤ 1000) := ⟨0, by decide, by decide⟩
  rcases (show b = 0 ∨ b ≠ 0 by omega) with rfl | hb
  · go_wp2_with fail
    go_at_call 21
    refine (range_any g (-1000) 1000 (by decide) (by decide) (by decide) _ HO3.out).mono ?_
    rintro e w4 ⟨x0, rfl, x00, x01, ho, hc⟩
    have HO4 := Lib.hid ho
    have HC4 : Hid (Ch g w w4) := HC3.out.tr hc
    clear ho hc
    go_wp2
    have HR0 : Hid (LI n g w.heap.size w (.int .i64 x0) (.slice none 0 0) (.int .i64 0) w4) :=
      ⟨0, [], x0, _, _, rfl, rfl, by omega, rfl, rfl, ⟨x00, x01⟩, World.ownsRow_nil _ _ _ _, rfl, by simp [Sam], HO4.out, HC4.out, HC4.out.sz⟩
    go_loopw [7, 8, 9] (fun s7 s8 s9 wr => LI n g w.heap.size w s7 s8 s9 wr) (fun _ _ s9 _ => n.toNat - (intOf s9).toNat)
    case atStart => exact HR0.out
    case round =>
      clear HR0
      obtain ⟨k, L, x, wr, u8, hwr, hu8, hk, rfl, rfl, hx, hown, hL, hv, hog, hcw, hbase⟩ := hrel
      subst hwr hu8
      have HO := Lib.hid hown
      have HL := Lib.hid hL
      have HV := Lib.hid hv
      have HG := Lib.hid hog
      have HCW := Lib.hid hcw
      have HX := Lib.hid hx
      obtain ⟨x0', x1'⟩ := hx
      clear hown hL hv hog hcw
      rcases Int.lt_or_le (k : Int) n with hki | hneg
      · rcases (show (kd = 0 ∨ kd = 1) ∨ (kd = 2 ∨ kd = 3) ∨ kd = 4 ∨ kd = 5 by omega) with (rfl | rfl) | (rfl | rfl) | rfl | rfl
        · skip
          go_wp2_with fail
          go_at_call 21
          refine (range_any g (-sz) sz (by omega) (by omega) (by omega) _ HG.out).mono ?_
          rintro e w6 ⟨y, rfl, y0, y1, ho, hc⟩
          have HOK := Lib.hid ho
          have HCK : Hid (Ch g wr w6) := hc
          clear ho hc
          have hown1 := HO.out.kept (HCK.out) (by
            rcases hob : u8.ownBlock with _ | q
            · exact .inl rfl
            · exact .inr (fun e => by injection e with e; have := (HO.out.lt q hob).1; have := HGB.out; omega))
          have hsz := Ch.sz (HCK.out)
          have hgb := HGB.out
          have HOW := Lib.hid hown1
          clear hown1
          go_wp2_with (at_builtin; refine wpList_append_lies _ (by rfl) _ _ 22 (by rfl) w.heap.size 3 i0 _ 1 8 Tryz.underlying22 HI.out.1 HI.out.2.1 HI.out.2.2.1 HI.out.2.2.2 (by rfl) (by omega) u8 k (zs L) (by rfl) (HOW.out.alloc _) ⟨w6.heap.size, 0, none⟩ 1 1 [.int .i64 (y)] (by rfl) (by rfl) (World.news_of_block (cs := #[.int .i64 (y)]) (t := 3) (fr := (0, 0)) (heap_alloc_new w6 _)) (by simp [Value.oneCell']) (by omega) (by unfold maxLen; omega) (by omega) (by simp; omega) (w6.heap.size + 1) (by simp) ?_; intro h cap w5 hown4 hgrow hat hlt4)
          have hstep := li_step (n := n) (y := y) hgb hki HL.out HV.out (by omega) (by omega) HO.out HX.out (HOK.out) (HCK.out) HCW.out hbase hown4 hgrow
          have HST := Lib.hid hstep
          clear hstep hown4 hgrow hat
          go_wp2
          go_roundw
          case rel => exact HST.out
          case measure => simp [intOf]; omega
        · skip
          go_wp2_with fail
          go_at_call 21
          refine (range_any g (-sz) sz (by omega) (by omega) (by omega) _ HG.out).mono ?_
          rintro e w6 ⟨y, rfl, y0, y1, ho, hc⟩
          have HOK := Lib.hid ho
          have HCK : Hid (Ch g wr w6) := hc
          clear ho hc
          have hown1 := HO.out.kept (HCK.out) (by
            rcases hob : u8.ownBlock with _ | q
            · exact .inl rfl
            · exact .inr (fun e => by injection e with e; have := (HO.out.lt q hob).1; have := HGB.out; omega))
          have hsz := Ch.sz (HCK.out)
          have hgb := HGB.out
          have HOW := Lib.hid hown1
          clear hown1
          go_wp2_with (at_builtin; refine wpList_append_lies _ (by rfl) _ _ 22 (by rfl) w.heap.size 3 i0 _ 1 8 Tryz.underlying22 HI.out.1 HI.out.2.1 HI.out.2.2.1 HI.out.2.2.2 (by rfl) (by omega) u8 k (zs L) (by rfl) (HOW.out.alloc _) ⟨w6.heap.size, 0, none⟩ 1 1 [.int .i64 (y)] (by rfl) (by rfl) (World.news_of_block (cs := #[.int .i64 (y)]) (t := 3) (fr := (0, 0)) (heap_alloc_new w6 _)) (by simp [Value.oneCell']) (by omega) (by unfold maxLen; omega) (by omega) (by simp; omega) (w6.heap.size + 1) (by simp) ?_; intro h cap w5 hown4 hgrow hat hlt4)
          have hstep := li_step (n := n) (y := y) hgb hki HL.out HV.out (by omega) (by omega) HO.out HX.out (HOK.out) (HCK.out) HCW.out hbase hown4 hgrow
          have HST := Lib.hid hstep
          clear hstep hown4 hgrow hat
          go_wp2
          go_roundw
          case rel => exact HST.out
          case measure => simp [intOf]; omega
        · skip
          go_wp2_with fail
          go_at_call 21
          refine (range_any g (-sz) sz (by omega) (by omega) (by omega) _ HG.out).mono ?_
          rintro e w6 ⟨y, rfl, y0, y1, ho, hc⟩
          have HOK := Lib.hid ho
          have HCK : Hid (Ch g wr w6) := hc
          clear ho hc
          go_wp2_with fail
          go_at_call 22
          refine (clip_any (x + y) (by omega) (by omega) _).mono ?_
          rintro e w7 ⟨⟨z, rfl, z0, z1⟩, rfl⟩
          have HX := Lib.hid (And.intro z0 z1)
          have hown1 := HO.out.kept (HCK.out) (by
            rcases hob : u8.ownBlock with _ | q
            · exact .inl rfl
            · exact .inr (fun e => by injection e with e; have := (HO.out.lt q hob).1; have := HGB.out; omega))
          have hsz := Ch.sz (HCK.out)
          have hgb := HGB.out
          have HOW := Lib.hid hown1
          clear hown1
          go_wp2_with (at_builtin; refine wpList_append_lies _ (by rfl) _ _ 22 (by rfl) w.heap.size 3 i0 _ 1 8 Tryz.underlying22 HI.out.1 HI.out.2.1 HI.out.2.2.1 HI.out.2.2.2 (by rfl) (by omega) u8 k (zs L) (by rfl) (HOW.out.alloc _) ⟨w6.heap.size, 0, none⟩ 1 1 [.int .i64 (z)] (by rfl) (by rfl) (World.news_of_block (cs := #[.int .i64 (z)]) (t := 3) (fr := (0, 0)) (heap_alloc_new w6 _)) (by simp [Value.oneCell']) (by omega) (by unfold maxLen; omega) (by omega) (by simp; omega) (w6.heap.size + 1) (by simp) ?_; intro h cap w5 hown4 hgrow hat hlt4)
          have hstep := li_step (n := n) (y := z) hgb hki HL.out HV.out (by omega) (by omega) HO.out HX.out (HOK.out) (HCK.out) HCW.out hbase hown4 hgrow
          have HST := Lib.hid hstep
          clear hstep hown4 hgrow hat
          go_wp2
          go_roundw
          case rel => exact HST.out
          case measure => simp [intOf]; omega
        · skip
          go_wp2_with fail
          go_at_call 21
          refine (range_any g (-sz) sz (by omega) (by omega) (by omega) _ HG.out).mono ?_
          rintro e w6 ⟨y, rfl, y0, y1, ho, hc⟩
          have HOK := Lib.hid ho
          have HCK : Hid (Ch g wr w6) := hc
          clear ho hc
          go_wp2_with fail
          go_at_call 22
          refine (clip_any (x + y) (by omega) (by omega) _).mono ?_
          rintro e w7 ⟨⟨z, rfl, z0, z1⟩, rfl⟩
          have HX := Lib.hid (And.intro z0 z1)
          have hown1 := HO.out.kept (HCK.out) (by
            rcases hob : u8.ownBlock with _ | q
            · exact .inl rfl
            · exact .inr (fun e => by injection e with e; have := (HO.out.lt q hob).1; have := HGB.out; omega))
          have hsz := Ch.sz (HCK.out)
          have hgb := HGB.out
          have HOW := Lib.hid hown1
          clear hown1
          go_wp2_with (at_builtin; refine wpList_append_lies _ (by rfl) _ _ 22 (by rfl) w.heap.size 3 i0 _ 1 8 Tryz.underlying22 HI.out.1 HI.out.2.1 HI.out.2.2.1 HI.out.2.2.2 (by rfl) (by omega) u8 k (zs L) (by rfl) (HOW.out.alloc _) ⟨w6.heap.size, 0, none⟩ 1 1 [.int .i64 (z)] (by rfl) (by rfl) (World.news_of_block (cs := #[.int .i64 (z)]) (t := 3) (fr := (0, 0)) (heap_alloc_new w6 _)) (by simp [Value.oneCell']) (by omega) (by unfold maxLen; omega) (by omega) (by simp; omega) (w6.heap.size + 1) (by simp) ?_; intro h cap w5 hown4 hgrow hat hlt4)
          have hstep := li_step (n := n) (y := z) hgb hki HL.out HV.out (by omega) (by omega) HO.out HX.out (HOK.out) (HCK.out) HCW.out hbase hown4 hgrow
          have HST := Lib.hid hstep
          clear hstep hown4 hgrow hat
          go_wp2
          go_roundw
          case rel => exact HST.out
          case measure => simp [intOf]; omega
        · skip
          go_wp2_with fail
          go_at_call 20
          refine (n_any g 4 (by decide) (by decide) _ HG.out).mono ?_
          rintro e w6 ⟨b4, rfl, b40, b41, ho, hc⟩
          have HOK := Lib.hid ho
          have HCK := Lib.hid hc
          clear ho hc
          rcases (show b4 = 0 ∨ b4 ≠ 0 by omega) with rfl | hb4
          · skip
            go_wp2_with fail
            go_at_call 21
            refine (range_any g (-sz) sz (by omega) (by omega) (by omega) _ HOK.out).mono ?_
            rintro e w7 ⟨y, rfl, y0, y1, ho, hc⟩
            have HOK := Lib.hid ho
            have HCK : Hid (Ch g wr w7) := HCK.out.tr hc
            clear ho hc
            have HX : Hid (-1000 ≤ y ∧ y ≤ 1000) := ⟨by omega, by omega⟩
            have hown1 := HO.out.kept (HCK.out) (by
              rcases hob : u8.ownBlock with _ | q
              · exact .inl rfl
              · exact .inr (fun e => by injection e with e; have := (HO.out.lt q hob).1; have := HGB.out; omega))
            have hsz := Ch.sz (HCK.out)
            have hgb := HGB.out
            have HOW := Lib.hid hown1
            clear hown1
            go_wp2_with (at_builtin; refine wpList_append_lies _ (by rfl) _ _ 22 (by rfl) w.heap.size 3 i0 _ 1 8 Tryz.underlying22 HI.out.1 HI.out.2.1 HI.out.2.2.1 HI.out.2.2.2 (by rfl) (by omega) u8 k (zs L) (by rfl) (HOW.out.alloc _) ⟨w7.heap.size, 0, none⟩ 1 1 [.int .i64 (y)] (by rfl) (by rfl) (World.news_of_block (cs := #[.int .i64 (y)]) (t := 3) (fr := (0, 0)) (heap_alloc_new w7 _)) (by simp [Value.oneCell']) (by omega) (by unfold maxLen; omega) (by omega) (by simp; omega) (w7.heap.size + 1) (by simp) ?_; intro h cap w5 hown4 hgrow hat hlt4)
            have hstep := li_step (n := n) (y := y) hgb hki HL.out HV.out (by omega) (by omega) HO.out HX.out (HOK.out) (HCK.out) HCW.out hbase hown4 hgrow
            have HST := Lib.hid hstep
            clear hstep hown4 hgrow hat
            go_wp2
            go_roundw
            case rel => exact HST.out
            case measure => simp [intOf]; omega
          · skip
            have hown1 := HO.out.kept (HCK.out) (by
              rcases hob : u8.ownBlock with _ | q
              · exact .inl rfl
              · exact .inr (fun e => by injection e with e; have := (HO.out.lt q hob).1; have := HGB.out; omega))
            have hsz := Ch.sz (HCK.out)
            have hgb := HGB.out
            have HOW := Lib.hid hown1
            clear hown1
            go_wp2_with (at_builtin; refine wpList_append_lies _ (by rfl) _ _ 22 (by rfl) w.heap.size 3 i0 _ 1 8 Tryz.underlying22 HI.out.1 HI.out.2.1 HI.out.2.2.1 HI.out.2.2.2 (by rfl) (by omega) u8 k (zs L) (by rfl) (HOW.out.alloc _) ⟨w6.heap.size, 0, none⟩ 1 1 [.int .i64 (x)] (by rfl) (by rfl) (World.news_of_block (cs := #[.int .i64 (x)]) (t := 3) (fr := (0, 0)) (heap_alloc_new w6 _)) (by simp [Value.oneCell']) (by omega) (by unfold maxLen; omega) (by omega) (by simp; omega) (w6.heap.size + 1) (by simp) ?_; intro h cap w5 hown4 hgrow hat hlt4)
            have hstep := li_step (n := n) (y := x) hgb hki HL.out HV.out (by omega) (by omega) HO.out HX.out (HOK.out) (HCK.out) HCW.out hbase hown4 hgrow
            have HST := Lib.hid hstep
            clear hstep hown4 hgrow hat
            go_wp2
            go_roundw
            case rel => exact HST.out
            case measure => simp [intOf]; omega
        · skip
          go_wp2_with fail
          go_at_call 40
          refine (pick_any g wr.heap.size [-1000, 1000, 1000, 0] 4 (by rfl) (by decide) (by decide) (by have := HGB.out; have := HCW.out.sz; omega) _ (HG.out.bel (Bel.rf.al _)) (lst_new _ _ _ _ (by rfl) _ rfl)).mono ?_
          rintro e w6 ⟨y, rfl, hy, ho, hc⟩
          have hy1 : -1000 ≤ y ∧ y ≤ 1000 := by simp at hy; omega
          obtain ⟨y0, y1⟩ := hy1
          have HOK := Lib.hid ho
          have HCK : Hid (Ch g wr w6) := (Ch.rf.al _).tr hc
          clear ho hc hy
          have hown1 := HO.out.kept (HCK.out) (by
            rcases hob : u8.ownBlock with _ | q
            · exact .inl rfl
            · exact .inr (fun e => by injection e with e; have := (HO.out.lt q hob).1; have := HGB.out; omega))
          have hsz := Ch.sz (HCK.out)
          have hgb := HGB.out
          have HOW := Lib.hid hown1
          clear hown1
          go_wp2_with (at_builtin; refine wpList_append_lies _ (by rfl) _ _ 22 (by rfl) w.heap.size 3 i0 _ 1 8 Tryz.underlying22 HI.out.1 HI.out.2.1 HI.out.2.2.1 HI.out.2.2.2 (by rfl) (by omega) u8 k (zs L) (by rfl) (HOW.out.alloc _) ⟨w6.heap.size, 0, none⟩ 1 1 [.int .i64 (y)] (by rfl) (by rfl) (World.news_of_block (cs := #[.int .i64 (y)]) (t := 3) (fr := (0, 0)) (heap_alloc_new w6 _)) (by simp [Value.oneCell']) (by omega) (by unfold maxLen; omega) (by omega) (by simp; omega) (w6.heap.size + 1) (by simp) ?_; intro h cap w5 hown4 hgrow hat hlt4)
          have hstep := li_step (n := n) (y := y) hgb hki HL.out HV.out (by omega) (by omega) HO.out HX.out (HOK.out) (HCK.out) HCW.out hbase hown4 hgrow
          have HST := Lib.hid hstep
          clear hstep hown4 hgrow hat
          go_wp2
          go_roundw
          case rel => exact HST.out
          case measure => simp [intOf]; omega
      · obtain rfl : n = (k : Int) := by omega
        have hnk : n0 = k := by have := HNN.out; omega
        subst hnk
        go_wp2
        go_ret
        exact ⟨_, L, rfl, HO.out, HL.out, HV.out, HG.out, HCW.out⟩
  · have bz : (b == 0) = false := by simpa using hb
    go_wp2
    have HR0 : Hid (LI n g w.heap.size w (.int .i64 0) (.slice none 0 0) (.int .i64 0) w3) :=
      ⟨0, [], 0, _, _, rfl, rfl, by omega, rfl, rfl, ⟨by decide, by decide⟩, World.ownsRow_nil _ _ _ _, rfl, by simp [Sam], HO3.out, HC3.out, HC3.out.sz⟩
    go_loopw [7, 8, 9] (fun s7 s8 s9 wr => LI n g w.heap.size w s7 s8 s9 wr) (fun _ _ s9 _ => n.toNat - (intOf s9).toNat)
    case atStart => exact HR0.out
    case round =>
      clear HR0
      obtain ⟨k, L, x, wr, u8, hwr, hu8, hk, rfl, rfl, hx, hown, hL, hv, hog, hcw, hbase⟩ := hrel
      subst hwr hu8
      have HO := Lib.hid hown
      have HL := Lib.hid hL
      have HV := Lib.hid hv
      have HG := Lib.hid hog
      have HCW := Lib.hid hcw
      have HX := Lib.hid hx
      obtain ⟨x0', x1'⟩ := hx
      clear hown hL hv hog hcw
      rcases Int.lt_or_le (k : Int) n with hki | hneg
      · rcases (show (kd = 0 ∨ kd = 1) ∨ (kd = 2 ∨ kd = 3) ∨ kd = 4 ∨ kd = 5 by omega) with (rfl | rfl) | (rfl | rfl) | rfl | rfl
        · skip
          go_wp2_with fail
          go_at_call 21
          refine (range_any g (-sz) sz (by omega) (by omega) (by omega) _ HG.out).mono ?_
          rintro e w6 ⟨y, rfl, y0, y1, ho, hc⟩
          have HOK := Lib.hid ho
          have HCK : Hid (Ch g wr w6) := hc
          clear ho hc
          have hown1 := HO.out.kept (HCK.out) (by
            rcases hob : u8.ownBlock with _ | q
            · exact .inl rfl
            · exact .inr (fun e => by injection e with e; have := (HO.out.lt q hob).1; have := HGB.out; omega))
          have hsz := Ch.sz (HCK.out)
          have hgb := HGB.out
          have HOW := Lib.hid hown1
          clear hown1
          go_wp2_with (at_builtin; refine wpList_append_lies _ (by rfl) _ _ 22 (by rfl) w.heap.size 3 i0 _ 1 8 Tryz.underlying22 HI.out.1 HI.out.2.1 HI.out.2.2.1 HI.out.2.2.2 (by rfl) (by omega) u8 k (zs L) (by rfl) (HOW.out.alloc _) ⟨w6.heap.size, 0, none⟩ 1 1 [.int .i64 (y)] (by rfl) (by rfl) (World.news_of_block (cs := #[.int .i64 (y)]) (t := 3) (fr := (0, 0)) (heap_alloc_new w6 _)) (by simp [Value.oneCell']) (by omega) (by unfold maxLen; omega) (by omega) (by simp; omega) (w6.heap.size + 1) (by simp) ?_; intro h cap w5 hown4 hgrow hat hlt4)
          have hstep := li_step (n := n) (y := y) hgb hki HL.out HV.out (by omega) (by omega) HO.out HX.out (HOK.out) (HCK.out) HCW.out hbase hown4 hgrow
          have HST := Lib.hid hstep
          clear hstep hown4 hgrow hat
          go_wp2
          go_roundw
          case rel => exact HST.out
          case measure => simp [intOf]; omega
        · skip
          go_wp2_with fail
          go_at_call 21
          refine (range_any g (-sz) sz (by omega) (by omega) (by omega) _ HG.out).mono ?_
          rintro e w6 ⟨y, rfl, y0, y1, ho, hc⟩
          have HOK := Lib.hid ho
          have HCK : Hid (Ch g wr w6) := hc
          clear ho hc
          have hown1 := HO.out.kept (HCK.out) (by
            rcases hob : u8.ownBlock with _ | q
            · exact .inl rfl
            · exact .inr (fun e => by injection e with e; have := (HO.out.lt q hob).1; have := HGB.out; omega))
          have hsz := Ch.sz (HCK.out)
          have hgb := HGB.out
          have HOW := Lib.hid hown1
          clear hown1
          go_wp2_with (at_builtin; refine wpList_append_lies _ (by rfl) _ _ 22 (by rfl) w.heap.size 3 i0 _ 1 8 Tryz.underlying22 HI.out.1 HI.out.2.1 HI.out.2.2.1 HI.out.2.2.2 (by rfl) (by omega) u8 k (zs L) (by rfl) (HOW.out.alloc _) ⟨w6.heap.size, 0, none⟩ 1 1 [.int .i64 (y)] (by rfl) (by rfl) (World.news_of_block (cs := #[.int .i64 (y)]) (t := 3) (fr := (0, 0)) (heap_alloc_new w6 _)) (by simp [Value.oneCell']) (by omega) (by unfold maxLen; omega) (by omega) (by simp; omega) (w6.heap.size + 1) (by simp) ?_; intro h cap w5 hown4 hgrow hat hlt4)
          have hstep := li_step (n := n) (y := y) hgb hki HL.out HV.out (by omega) (by omega) HO.out HX.out (HOK.out) (HCK.out) HCW.out hbase hown4 hgrow
          have HST := Lib.hid hstep
          clear hstep hown4 hgrow hat
          go_wp2
          go_roundw
          case rel => exact HST.out
          case measure => simp [intOf]; omega
        · skip
          go_wp2_with fail
          go_at_call 21
          refine (range_any g (-sz) sz (by omega) (by omega) (by omega) _ HG.out).mono ?_
          rintro e w6 ⟨y, rfl, y0, y1, ho, hc⟩
          have HOK := Lib.hid ho
          have HCK : Hid (Ch g wr w6) := hc
          clear ho hc
          go_wp2_with fail
          go_at_call 22
          refine (clip_any (x + y) (by omega) (by omega) _).mono ?_
          rintro e w7 ⟨⟨z, rfl, z0, z1⟩, rfl⟩
          have HX := Lib.hid (And.intro z0 z1)
          have hown1 := HO.out.kept (HCK.out) (by
            rcases hob : u8.ownBlock with _ | q
            · exact .inl rfl
            · exact .inr (fun e => by injection e with e; have := (HO.out.lt q hob).1; have := HGB.out; omega))
          have hsz := Ch.sz (HCK.out)
          have hgb := HGB.out
          have HOW := Lib.hid hown1
          clear hown1
          go_wp2_with (at_builtin; refine wpList_append_lies _ (by rfl) _ _ 22 (by rfl) w.heap.size 3 i0 _ 1 8 Tryz.underlying22 HI.out.1 HI.out.2.1 HI.out.2.2.1 HI.out.2.2.2 (by rfl) (by omega) u8 k (zs L) (by rfl) (HOW.out.alloc _) ⟨w6.heap.size, 0, none⟩ 1 1 [.int .i64 (z)] (by rfl) (by rfl) (World.news_of_block (cs := #[.int .i64 (z)]) (t := 3) (fr := (0, 0)) (heap_alloc_new w6 _)) (by simp [Value.oneCell']) (by omega) (by unfold maxLen; omega) (by omega) (by simp; omega) (w6.heap.size + 1) (by simp) ?_; intro h cap w5 hown4 hgrow hat hlt4)
          have hstep := li_step (n := n) (y := z) hgb hki HL.out HV.out (by omega) (by omega) HO.out HX.out (HOK.out) (HCK.out) HCW.out hbase hown4 hgrow
          have HST := Lib.hid hstep
          clear hstep hown4 hgrow hat
          go_wp2
          go_roundw
          case rel => exact HST.out
          case measure => simp [intOf]; omega
        · skip
          go_wp2_with fail
          go_at_call 21
          refine (range_any g (-sz) sz (by omega) (by omega) (by omega) _ HG.out).mono ?_
          rintro e w6 ⟨y, rfl, y0, y1, ho, hc⟩
          have HOK := Lib.hid ho
          have HCK : Hid (Ch g wr w6) := hc
          clear ho hc
          go_wp2_with fail
          go_at_call 22
          refine (clip_any (x + y) (by omega) (by omega) _).mono ?_
          rintro e w7 ⟨⟨z, rfl, z0, z1⟩, rfl⟩
          have HX := Lib.hid (And.intro z0 z1)
          have hown1 := HO.out.kept (HCK.out) (by
            rcases hob : u8.ownBlock with _ | q
            · exact .inl rfl
            · exact .inr (fun e => by injection e with e; have := (HO.out.lt q hob).1; have := HGB.out; omega))
          have hsz := Ch.sz (HCK.out)
          have hgb := HGB.out
          have HOW := Lib.hid hown1
          clear hown1
          go_wp2_with (at_builtin; refine wpList_append_lies _ (by rfl) _ _ 22 (by rfl) w.heap.size 3 i0 _ 1 8 Tryz.underlying22 HI.out.1 HI.out.2.1 HI.out.2.2.1 HI.out.2.2.2 (by rfl) (by omega) u8 k (zs L) (by rfl) (HOW.out.alloc _) ⟨w6.heap.size, 0, none⟩ 1 1 [.int .i64 (z)] (by rfl) (by rfl) (World.news_of_block (cs := #[.int .i64 (z)]) (t := 3) (fr := (0, 0)) (heap_alloc_new w6 _)) (by simp [Value.oneCell']) (by omega) (by unfold maxLen; omega) (by omega) (by simp; omega) (w6.heap.size + 1) (by simp) ?_; intro h cap w5 hown4 hgrow hat hlt4)
          have hstep := li_step (n := n) (y := z) hgb hki HL.out HV.out (by omega) (by omega) HO.out HX.out (HOK.out) (HCK.out) HCW.out hbase hown4 hgrow
          have HST := Lib.hid hstep
          clear hstep hown4 hgrow hat
          go_wp2
          go_roundw
          case rel => exact HST.out
          case measure => simp [intOf]; omega
        · skip
          go_wp2_with fail
          go_at_call 20
          refine (n_any g 4 (by decide) (by decide) _ HG.out).mono ?_
          rintro e w6 ⟨b4, rfl, b40, b41, ho, hc⟩
          have HOK := Lib.hid ho
          have HCK := Lib.hid hc
          clear ho hc
          rcases (show b4 = 0 ∨ b4 ≠ 0 by omega) with rfl | hb4
          · skip
            go_wp2_with fail
            go_at_call 21
            refine (range_any g (-sz) sz (by omega) (by omega) (by omega) _ HOK.out).mono ?_
            rintro e w7 ⟨y, rfl, y0, y1, ho, hc⟩
            have HOK := Lib.hid ho
            have HCK : Hid (Ch g wr w7) := HCK.out.tr hc
            clear ho hc
            have HX : Hid (-1000 ≤ y ∧ y ≤ 1000) := ⟨by omega, by omega⟩
            have hown1 := HO.out.kept (HCK.out) (by
              rcases hob : u8.ownBlock with _ | q
              · exact .inl rfl
              · exact .inr (fun e => by injection e with e; have := (HO.out.lt q hob).1; have := HGB.out; omega))
            have hsz := Ch.sz (HCK.out)
            have hgb := HGB.out
            have HOW := Lib.hid hown1
            clear hown1
            go_wp2_with (at_builtin; refine wpList_append_lies _ (by rfl) _ _ 22 (by rfl) w.heap.size 3 i0 _ 1 8 Tryz.underlying22 HI.out.1 HI.out.2.1 HI.out.2.2.1 HI.out.2.2.2 (by rfl) (by omega) u8 k (zs L) (by rfl) (HOW.out.alloc _) ⟨w7.heap.size, 0, none⟩ 1 1 [.int .i64 (y)] (by rfl) (by rfl) (World.news_of_block (cs := #[.int .i64 (y)]) (t := 3) (fr := (0, 0)) (heap_alloc_new w7 _)) (by simp [Value.oneCell']) (by omega) (by unfold maxLen; omega) (by omega) (by simp; omega) (w7.heap.size + 1) (by simp) ?_; intro h cap w5 hown4 hgrow hat hlt4)
            have hstep := li_step (n := n) (y := y) hgb hki HL.out HV.out (by omega) (by omega) HO.out HX.out (HOK.out) (HCK.out) HCW.out hbase hown4 hgrow
            have HST := Lib.hid hstep
            clear hstep hown4 hgrow hat
            go_wp2
            go_roundw
            case rel => exact HST.out
            case measure => simp [intOf]; omega
          · skip
            have hown1 := HO.out.kept (HCK.out) (by
              rcases hob : u8.ownBlock with _ | q
              · exact .inl rfl
              · exact .inr (fun e => by injection e with e; have := (HO.out.lt q hob).1; have := HGB.out; omega))
            have hsz := Ch.sz (HCK.out)
            have hgb := HGB.out
            have HOW := Lib.hid hown1
            clear hown1
            go_wp2_with (at_builtin; refine wpList_append_lies _ (by rfl) _ _ 22 (by rfl) w.heap.size 3 i0 _ 1 8 Tryz.underlying22 HI.out.1 HI.out.2.1 HI.out.2.2.1 HI.out.2.2.2 (by rfl) (by omega) u8 k (zs L) (by rfl) (HOW.out.alloc _) ⟨w6.heap.size, 0, none⟩ 1 1 [.int .i64 (x)] (by rfl) (by rfl) (World.news_of_block (cs := #[.int .i64 (x)]) (t := 3) (fr := (0, 0)) (heap_alloc_new w6 _)) (by simp [Value.oneCell']) (by omega) (by unfold maxLen; omega) (by omega) (by simp; omega) (w6.heap.size + 1) (by simp) ?_; intro h cap w5 hown4 hgrow hat hlt4)
            have hstep := li_step (n := n) (y := x) hgb hki HL.out HV.out (by omega) (by omega) HO.out HX.out (HOK.out) (HCK.out) HCW.out hbase hown4 hgrow
            have HST := Lib.hid hstep
            clear hstep hown4 hgrow hat
            go_wp2
            go_roundw
            case rel => exact HST.out
            case measure => simp [intOf]; omega
        · skip
          go_wp2_with fail
          go_at_call 40
          refine (pick_any g wr.heap.size [-1000, 1000, 1000, 0] 4 (by rfl) (by decide) (by decide) (by have := HGB.out; have := HCW.out.sz; omega) _ (HG.out.bel (Bel.rf.al _)) (lst_new _ _ _ _ (by rfl) _ rfl)).mono ?_
          rintro e w6 ⟨y, rfl, hy, ho, hc⟩
          have hy1 : -1000 ≤ y ∧ y ≤ 1000 := by simp at hy; omega
          obtain ⟨y0, y1⟩ := hy1
          have HOK := Lib.hid ho
          have HCK : Hid (Ch g wr w6) := (Ch.rf.al _).tr hc
          clear ho hc hy
          have hown1 := HO.out.kept (HCK.out) (by
            rcases hob : u8.ownBlock with _ | q
            · exact .inl rfl
            · exact .inr (fun e => by injection e with e; have := (HO.out.lt q hob).1; have := HGB.out; omega))
          have hsz := Ch.sz (HCK.out)
          have hgb := HGB.out
          have HOW := Lib.hid hown1
          clear hown1
          go_wp2_with (at_builtin; refine wpList_append_lies _ (by rfl) _ _ 22 (by rfl) w.heap.size 3 i0 _ 1 8 Tryz.underlying22 HI.out.1 HI.out.2.1 HI.out.2.2.1 HI.out.2.2.2 (by rfl) (by omega) u8 k (zs L) (by rfl) (HOW.out.alloc _) ⟨w6.heap.size, 0, none⟩ 1 1 [.int .i64 (y)] (by rfl) (by rfl) (World.news_of_block (cs := #[.int .i64 (y)]) (t := 3) (fr := (0, 0)) (heap_alloc_new w6 _)) (by simp [Value.oneCell']) (by omega) (by unfold maxLen; omega) (by omega) (by simp; omega) (w6.heap.size + 1) (by simp) ?_; intro h cap w5 hown4 hgrow hat hlt4)
          have hstep := li_step (n := n) (y := y) hgb hki HL.out HV.out (by omega) (by omega) HO.out HX.out (HOK.out) (HCK.out) HCW.out hbase hown4 hgrow
          have HST := Lib.hid hstep
          clear hstep hown4 hgrow hat
          go_wp2
          go_roundw
          case rel => exact HST.out
          case measure => simp [intOf]; omega
      · obtain rfl : n = (k : Int) := by omega
        have hnk : n0 = k := by have := HNN.out; omega
        subst hnk
        go_wp2
        go_ret
        exact ⟨_, L, rfl, HO.out, HL.out, HV.out, HG.out, HCW.out⟩
end Go.Proofs.YtpbnabibnkohdaaGreatDoor.Sr
namespace Go.Proofs.YtpbnabibnkohdaaGreatDoor.Wi
open Go.ChangeShapes Go.WideShapes Go.RowKit Wo Sr
set_option linter.unusedVariables false
/-- a slice that reads as these numbers -/
def Zi (w : World) (A : Option Addr) (n : Nat) (L : List Int) : Prop := L.length = n ∧ (0 < n → ∃ ad : Addr, A = some ad ∧ ad.block < w.heap.size ∧ ∀ j, j < n → w.cell? (ad.add j) = some (.int .i64 (L.getD j 0)))
theorem Zi.bel {w w' : World} {A : Option Addr} {n : Nat} {L : List Int} (h : Zi w A n L) (hb : Bel w w') : Zi w' A n L :=
  ⟨h.1, fun hn => by
    obtain ⟨ad, e, hx, hc⟩ := h.2 hn
    exact ⟨ad, e, by have := hb.size; omega, fun j hj => hb.kp (hc j hj)⟩⟩
theorem row_zi {w : World} {base k : Nat} {v : Value} {L : List Int} (h : w.ownsRow base 3 1 v k (zs L)) (hk : L.length = k) : ∃ A c, v = .slice A k c ∧ Zi w A k L ∧ (A = none → c = 0) := by
  rcases Nat.eq_zero_or_pos k with h0 | h0
  · subst h0
    have hL : L = [] := List.eq_nil_of_length_eq_zero hk
    subst hL
    rcases h.2 with ⟨rfl, _⟩ | ⟨g, cap, cur, rfl, _⟩
    · exact ⟨none, 0, rfl, ⟨rfl, fun h => by omega⟩, fun _ => rfl⟩
    · exact ⟨some ⟨g, 0, none⟩, cap, rfl, ⟨rfl, fun h => by omega⟩, fun h => by cases h⟩
  · obtain ⟨g, cap, rfl, hb, hlt⟩ := h.form h0
    refine ⟨some ⟨g, 0, none⟩, cap, rfl, ⟨hk, fun _ => ⟨_, rfl, hlt, fun j hj => ?_⟩⟩, fun h => by cases h⟩
    exact h.cells (g := g) rfl j _ (zs_at (by omega))
theorem own_zi {w : World} {base k h c : Nat} {L : List Int} (hr : w.ownsRow base 3 1 (.slice (some ⟨h, 0, none⟩) k c) k (zs L)) (hk : L.length = k) : Zi w (some ⟨h, 0, none⟩) k L := by
  obtain ⟨A, c', e, hz, _⟩ := row_zi hr hk
  injection e with e1 e2 e3
  subst e1
  exact hz
theorem sample_ok (n : Int) (h0 : -1000 ≤ n) (h1 : n ≤ 1000) (w : World) : Calls Tryz.prog 69 #[.int .i64 n] w fun e w' => e = .returned (.bool true) ∧ w = w' := by
  go_enter Tryz.func69, Tryz.ntmps69
  go_wp2
  go_ret
  exact ⟨rfl, rfl⟩
set_option maxHeartbeats 4000000 in
theorem samples_ok (A : Option Addr) (c n : Nat) (L : List Int) (hn : n ≤ 1000000) (hs : Sam L) (w : World) (h : Zi w A n L) :
    Calls Tryz.prog 50 #[.slice A n c] w fun e w' => e = .returned (.bool true) ∧ Bel w w' := by
  have H1 := Lib.hid h
  have HS := Lib.hid hs
  have ni : (n : Int) ≤ 1000000 := by omega
  clear h hs
  go_enter Tryz.func50, Tryz.ntmps50
  go_wp2
  go_loopw [7] (fun s7 wr => ∃ (k : Nat) (V : World), V = wr ∧ k ≤ n ∧ s7 = .int .i64 (k : Int) ∧ Bel w wr) (fun s7 _ => n - (intOf s7).toNat)
  case atStart => exact ⟨0, _, rfl, by omega, rfl, Bel.rf⟩
  case round =>
    obtain ⟨k, wr, hwr, hk, rfl, hb⟩ := hrel
    subst hwr
    have HB := Lib.hid hb
    rcases Nat.lt_or_ge k n with hlt | hge
    · obtain ⟨ad, rfl, hab, hac⟩ := (H1.out.bel hb).2 (by omega)
      have c1 := hac k hlt
      have hx := HS.out.at k
      obtain ⟨x, hxe⟩ : ∃ x, L.getD k 0 = x := ⟨_, rfl⟩
      rw [hxe] at c1 hx
      obtain ⟨x0, x1⟩ := hx
      have ki : (k : Int) < (n : Int) := by omega
      clear hb hac hab hxe
      go_wp2_with (go_at_call 69; refine (sample_ok x x0 x1 _).mono ?_; rintro e w' ⟨rfl, rfl⟩)
      go_roundw
      case rel => exact ⟨k + 1, _, rfl, by omega, by go_num, by first | exact HB.out | exact HB.out.drwN _ | exact HB.out.drw⟩
      case measure => simp [intOf]; omega
    · obtain rfl : k = n := by omega
      clear hb
      go_wp2
      go_ret
      exact ⟨rfl, HB.out⟩
theorem made_i64 (n : Nat) : madeCells (Value.int .i64 0).cells (n * 1) = (zs (List.replicate n 0)).toArray := by
  apply Array.ext
  · simp [madeCells, zs]
  · intro i h1 h2
    simp [madeCells, zs, Nat.mod_one, Value.cells]
/-- 'make([]T, l, c)', the length and the capacity variables -/
theorem wpList_make_any {P : Program} (w : World) {ops : Array Oper} {rest : List Oper} {o : Oper} {a : Act} {Q : Exit → Act → World → Prop}
    (hg : o.guard = none) (l c : Operand) (t : TypeId) (hop : o.op = Op.makeSlice t l c)
    (e : TypeId) (i : TypeInfo) (z : Value) (size : Nat) (h1 : P.underlying t = some (.slice e)) (h2 : P.info? e = some i) (h3 : i.zero = some z) (h4 : i.size = size)
    (kl kc : IntKind) (L C : Int) (m n : Nat) (hl : a.eval l = .int kl L) (hc : a.eval c = .int kc C) (hL : L = (m : Int)) (hC : C = (n : Int)) (hmn : m ≤ n) (b2 : i.bytes * n ≤ 281474976710656) (b3 : n ≤ 4611686018427387904)
    (hK : wpList P ops Q rest (a.put o.dst (.slice (some ⟨w.heap.size, 0, none⟩) m n)) (w.alloc (.cells (madeCells z.cells (n * size)) e))) :
    wpList P ops Q (o :: rest) a w := by
  refine wpList_plain hg fun K hK' => ?_
  have hb' : (i.bytes : Int) * (n : Int) ≤ 281474976710656 := by
    have h : ((i.bytes * n : Nat) : Int) ≤ 281474976710656 := by omega
    rwa [Int.natCast_mul] at h
  have hr := run_make (P := P) w t e i z h1 h2 h3 kl kc m n (by omega) (by omega) hb' (by omega)
  simp only [Int.toNat_natCast] at hr
  subst hL
  subst hC
  subst h4
  unfold Oper.wp
  simp [execOp, hop, hl, hc, hr, Result.andThen]
  exact hK' _ _ hK
theorem add_row (h j : Nat) : (⟨h, 0, none⟩ : Addr).add j = ⟨h, j, none⟩ := by unfold Addr.add; split <;> simp_all
/-- the numbers at their cells -/
theorem Zi.at {w : World} {g n : Nat} {L : List Int} (h : Zi w (some ⟨g, 0, none⟩) n L) (j : Nat) (hj : j < n) : w.cell? ⟨g, j, none⟩ = some (.int .i64 (L.getD j 0)) := by
  obtain ⟨ad, e, _, hc⟩ := h.2 (by omega)
  cases e
  have := hc j hj
  rwa [add_row] at this
theorem zi_bk {w : World} {h : Nat} {t : TypeId} {L : List Int} (hb : Bk w h t (zs L).toArray) (n : Nat) (hn : L.length = n) : Zi w (some ⟨h, 0, none⟩) n L := by
  subst hn
  refine ⟨rfl, fun _ => ⟨_, rfl, hb.lt, fun j hj => ?_⟩⟩
  rw [add_row, hb.cell j]
  simpa using zs_at hj
/-- a store into a block that holds slices leaves the numbers as they are -/
theorem zi_st {w : World} {A : Option Addr} {n : Nat} {L : List Int} (h : Zi w A n L) {p : Addr} {a : Option Addr} {x y : Nat} (hp : w.cell? p = some (.slice a x y)) (u : Value) : Zi (w.setCell p u) A n L :=
  ⟨h.1, fun hn => by
    obtain ⟨ad, e, hx, hcc⟩ := h.2 hn
    refine ⟨ad, e, by simpa [World.setCell] using hx, fun j hj => ?_⟩
    have h1 := hcc j hj
    refine (World.cell?_setCell_other _ _ _ _ (fun e => ?_)).trans h1
    rw [e] at hp
    rw [hp] at h1
    cases h1⟩
theorem row_form {w : World} {base n : Nat} {v : Value} {L : List Int} (h : w.ownsRow base 3 1 v n (zs L)) (hn : 0 < n) : ∃ g c, v = .slice (some ⟨g, 0, none⟩) n c ∧ n ≤ c ∧ base ≤ g := by
  rcases h.2 with ⟨_, h0⟩ | ⟨g, cap, cur, hv, hb, hg, h1, _⟩
  · omega
  · exact ⟨g, cap, hv, h1, hb⟩
theorem ne_self (x : Int) : (x != x) = false := by simp
set_option maxHeartbeats 4000000 in
theorem ints_same (A A' : Option Addr) (c c' n : Nat) (L : List Int) (hn : n ≤ 1000000) (w : World) (h1 : Zi w A n L) (h2 : Zi w A' n L) :
    Calls Tryz.prog 39 #[.slice A n c, .slice A' n c'] w fun e w' => e = .returned (.bool true) ∧ Bel w w' := by
  have H1 := Lib.hid h1
  have H2 := Lib.hid h2
  have ni : (n : Int) ≤ 1000000 := by omega
  clear h1 h2
  go_enter Tryz.func39, Tryz.ntmps39
  go_wp2
  go_loopw [13] (fun s13 wr => ∃ (k : Nat) (V : World), V = wr ∧ k ≤ n ∧ s13 = .int .i64 (k : Int) ∧ Bel w wr) (fun s13 _ => n - (intOf s13).toNat)
  case atStart => exact ⟨0, _, rfl, by omega, rfl, Bel.rf⟩
  case round =>
    obtain ⟨k, wr, hwr, hk, rfl, hb⟩ := hrel
    subst hwr
    have HB := Lib.hid hb
    rcases Nat.lt_or_ge k n with hlt | hge
    · obtain ⟨ad, rfl, hab, hac⟩ := (H1.out.bel hb).2 (by omega)
      obtain ⟨ad', rfl, hab', hac'⟩ := (H2.out.bel hb).2 (by omega)
      have c1 := hac k hlt
      have c2 := hac' k hlt
      obtain ⟨x, hx⟩ : ∃ x, L.getD k 0 = x := ⟨_, rfl⟩
      rw [hx] at c1 c2
      have ki : (k : Int) < (n : Int) := by omega
      have kn := ne_self x
      clear hb hac hac' hab hab' hx
      go_wp2
      go_quiet (fail)
      go_wp2
      go_roundw
      case rel => exact ⟨k + 1, _, rfl, by omega, by go_num, HB.out.drwN _⟩
      case measure => simp [intOf]; omega
    · obtain rfl : k = n := by omega
      clear hb
      go_wp2
      go_ret
      exact ⟨rfl, HB.out⟩
theorem length_ok (m : Int) (h0 : 2 ≤ m) (h1 : m ≤ 32) (w : World) : Calls Tryz.prog 49 #[.int .i64 m] w fun e w' => e = .returned (.bool true) ∧ w = w' := by
  go_enter Tryz.func49, Tryz.ntmps49
  go_wp2
  go_ret
  exact ⟨rfl, rfl⟩
theorem own_bel {w w' : World} {base : Nat} {e : TypeId} {size : Nat} {v : Value} {n : Nat} {xs : List Value} (h : w.ownsRow base e size v n xs) (hb : Bel w w') : w'.ownsRow base e size v n xs := by
  refine ⟨h.1, ?_⟩
  rcases h.2 with hn | ⟨g, cap, cur, rfl, hbb, hg, rest⟩
  · exact .inl hn
  · exact .inr ⟨g, cap, cur, rfl, hbb, (Below.block hb g (Array.getElem?_eq_some_iff.1 hg).1).trans hg, rest⟩
theorem own_set {w : World} {base h n c t : Nat} {L : List Int} {e : TypeId} (hown : w.ownsRow base e 1 (.slice (some ⟨h, 0, none⟩) n c) n (zs L)) (y : Int) : (w.setCell ⟨h, t, none⟩ (.int .i64 y)).ownsRow base e 1 (.slice (some ⟨h, 0, none⟩) n c) n (zs (L.set t y)) := by
  refine ⟨by have := hown.1; simp only [zs_len, List.length_set] at *; exact this, ?_⟩
  rcases hown.2 with ⟨h0, _⟩ | ⟨g, cap, cur, e1, hb, hg, h1, h2, h3, h4⟩
  · cases h0
  · injection e1 with e1 e2 e3
    injection e1 with e1
    cases e1
    subst e3
    refine .inr ⟨h, c, cur.setIfInBounds t (.int .i64 y), rfl, hb, Bk.st (t := e) hg t _, h1, h2, by simpa using h3, ?_⟩
    rw [Array.toList_setIfInBounds, List.take_set, h4]
    simp [zs, List.map_set]
theorem own_fr {w : World} {base h n c : Nat} {xs : List Value} {e : TypeId} (hown : w.ownsRow base e 1 (.slice (some ⟨h, 0, none⟩) n c) n xs) (t : Nat) : w.frozen? ⟨h, t, none⟩ = false := by
  rcases hown.2 with ⟨h0, _⟩ | ⟨g, cap, cur, e1, hb, hg, _⟩
  · cases h0
  · injection e1 with e1 e2 e3
    injection e1 with e1
    cases e1
    exact Bk.fr (t := e) hg t
theorem own_any {w : World} {base k size : Nat} {e : TypeId} {v : Value} {xs : List Value} (h : w.ownsRow base e size v k xs) : ∃ A c, v = .slice A k c ∧ (0 < k → ∃ g, A = some ⟨g, 0, none⟩) := by
  rcases h.2 with ⟨rfl, rfl⟩ | ⟨g, cap, cur, rfl, _⟩
  · exact ⟨none, 0, rfl, fun h => by omega⟩
  · exact ⟨some ⟨g, 0, none⟩, cap, rfl, fun _ => ⟨g, rfl⟩⟩
theorem Zi.ch {w w' : World} {A : Option Addr} {n g : Nat} {L : List Int} (h : Zi w A n L) (hc : Ch g w w') (hn : ∀ ad, A = some ad → ad.block ≠ g) : Zi w' A n L :=
  ⟨h.1, fun h0 => by
    obtain ⟨ad, e, hx, hcc⟩ := h.2 h0
    exact ⟨ad, e, by have := hc.sz; omega, fun j hj => hc.kp (hcc j hj) (by rw [add_block]; exact hn ad e)⟩⟩
theorem own_ch {w w' : World} {base g : Nat} {e : TypeId} {size : Nat} {v : Value} {n : Nat} {xs : List Value} (h : w.ownsRow base e size v n xs) (hc : Ch g w w') (hg : g < base) : w'.ownsRow base e size v n xs :=
  h.kept hc (by
    rcases hob : v.ownBlock with _ | q
    · exact .inl rfl
    · exact .inr (fun e => by injection e with e; have := (h.lt q hob).1; omega))
end Go.Proofs.YtpbnabibnkohdaaGreatDoor.Wi
namespace Go.Proofs.YtpbnabibnkohdaaGreatDoor.Sr
open Go.ChangeShapes Go.WideShapes Go.RowKit Wo
set_option linter.unusedVariables false
theorem length_any (g : Nat) (w : World) (h : Ok w g) : Calls Tryz.prog 19 #[.pointer (some ⟨g, 0, none⟩)] w (SomeRange g 2 32 w) := by
  have HO := Lib.hid h
  clear h
  go_enter Tryz.func19, Tryz.ntmps19
  go_wp2_with fail
  go_at_call 20
  refine (n_any g 8 (by decide) (by decide) _ HO.out).mono ?_
  rintro e w1 ⟨x, rfl, x0, x1, ho, hc⟩
  have HO1 := Lib.hid ho
  have HC1 := Lib.hid hc
  clear ho hc
  rcases (show x = 7 ∨ x ≠ 7 by omega) with rfl | hx
  · go_wp2_with (go_at_call 21; refine (range_any g 13 32 (by decide) (by decide) (by decide) _ HO1.out).mono ?_; rintro e w2 ⟨y, rfl, y0, y1, ho, hc⟩)
    go_ret
    exact ⟨y, rfl, by omega, by omega, ho, HC1.out.tr hc⟩
  · go_wp2_with (go_at_call 21; refine (range_any g 2 12 (by decide) (by decide) (by decide) _ HO1.out).mono ?_; rintro e w2 ⟨y, rfl, y0, y1, ho, hc⟩)
    go_ret
    exact ⟨y, rfl, by omega, by omega, ho, HC1.out.tr hc⟩
end Go.Proofs.YtpbnabibnkohdaaGreatDoor.Sr
namespace Go.Proofs.YtpbnabibnkohdaaGreatDoor.Sr
open Go.ChangeShapes Go.WideShapes Go.RowKit Wo Wi
set_option linter.unusedVariables false
/-- the first k numbers have been turned to others -/
def NI (n g h c : Nat) (w : World) (s21 : Value) (wr : World) : Prop := ∃ (k : Nat) (M : List Int) (V : World), V = wr ∧ k ≤ n ∧ s21 = .int .i64 (k : Int) ∧
  wr.ownsRow w.heap.size 3 1 (.slice (some ⟨h, 0, none⟩) n c) n (zs M) ∧ M.length = n ∧ Sam M ∧ Ok wr g ∧ Ch g w wr
theorem NI.drwN {n g h c : Nat} {w wr : World} {s : Value} (hh : NI n g h c w s wr) (q : Nat) : NI n g h c w s (wr.drewN q) := by
  obtain ⟨k, M, V, rfl, h1, h2, h3, h4, h5, h6, h7⟩ := hh
  exact ⟨k, M, _, rfl, h1, h2, own_bel h3 (Bel.rf.drwN q), h4, h5, h6.drwN q, h7.drwN q⟩
theorem sam_set {M : List Int} (h : Sam M) {y : Int} (h0 : -1000 ≤ y) (h1 : y ≤ 1000) (k : Nat) : Sam (M.set k y) := by
  intro x hx
  rcases List.mem_or_eq_of_mem_set hx with h' | rfl
  · exact h x h'
  · exact ⟨h0, h1⟩
theorem ni_step {n g h c k : Nat} {w wr w1 : World} {M : List Int} {y : Int} (hgB : g < w.heap.size) (hk : k < n) (hM : M.length = n) (hs : Sam M) (y0 : -1000 ≤ y) (y1 : y ≤ 1000)
    (hown : wr.ownsRow w.heap.size 3 1 (.slice (some ⟨h, 0, none⟩) n c) n (zs M)) (hB : w.heap.size ≤ h) (hcw : Ch g w wr) (ho1 : Ok w1 g) (hc1 : Ch g wr w1) :
    NI n g h c w (.int .i64 ((k : Int) + 1)) (w1.setCell ⟨h, k, none⟩ (.int .i64 y)) :=
  ⟨k + 1, M.set k y, _, rfl, by omega, by congr 1, own_set (own_ch hown hc1 hgB) y, by rw [List.length_set]; exact hM, sam_set hs y0 y1 k, ho1.st (by show g < h; omega) _, (hcw.tr hc1).st2 (by show _ ≤ h; exact hB) _⟩
set_option maxHeartbeats 16000000 in
set_option maxRecDepth 100000 in
theorem near_any (g : Nat) (A : Option Addr) (cx n : Nat) (L : List Int) (n1 : 1 ≤ n) (n2 : n ≤ 1000) (hs : Sam L) (w : World) (h : Ok w g) (hx : Zi w A n L) (hne : ∀ ad, A = some ad → ad.block ≠ g) :
    Calls Tryz.prog 8 #[.pointer (some ⟨g, 0, none⟩), .slice A n cx] w (SomeList g n w) := by
  obtain ⟨i0, hi0, hz0, hz1, hz2⟩ := info_parts info_int
  have HI := Lib.hid (And.intro hi0 (And.intro hz0 (And.intro hz1 hz2)))
  clear hi0 hz0 hz1 hz2
  obtain ⟨ad, rfl, hab, hac⟩ := id (hx.2 (by omega))
  have HX := Lib.hid hx
  have HNE := Lib.hid hne
  have HSL := Lib.hid hs
  have HGB := Lib.hid h.lt
  have HO0 := Lib.hid h
  have hl := hx.1
  have ni1 : 1 ≤ (n : Int) := by omega
  have ni2 : (n : Int) ≤ 1000 := by omega
  clear h hx hne hs hab hac
  go_enter Tryz.func8, Tryz.ntmps8
  go_wp2_with fail
  go_at_call 20
  refine (n_any g 7 (by decide) (by decide) _ HO0.out).mono ?_
  rintro e w1 ⟨kd, rfl, kd0, kd1, ho, hc⟩
  have HO1 := Lib.hid ho
  have HC1 := Lib.hid hc
  clear ho hc
  go_wp2_with fail
  go_at_call 21
  refine (range_any g (-20) 20 (by decide) (by decide) (by decide) _ HO1.out).mono ?_
  rintro e w2 ⟨b, rfl, b0, b1, ho, hc⟩
  have HO2 := Lib.hid ho
  have HC2 : Hid (Ch g w w2) := HC1.out.tr hc
  clear ho hc
  go_wp2_with fail
  go_at_call 21
  refine (range_any g 1 3 (by decide) (by decide) (by decide) _ HO2.out).mono ?_
  rintro e w3 ⟨kk, rfl, kk0, kk1, ho, hc⟩
  have HO3 := Lib.hid ho
  have HC3 : Hid (Ch g w w3) := HC2.out.tr hc
  have hgB := HGB.out
  have hsz := HC3.out.sz
  have HOW := Lib.hid (World.ownsRow_made (base := w.heap.size) (e := 3) (size := 1) w3 #[] 0 (by omega) (by unfold maxLen; omega) rfl)
  have HX3 := Lib.hid ((HX.out.ch HC3.out HNE.out).bel (Bel.rf.al (.cells #[] 3)))
  have HXC : Hid (∀ j u, (zs L)[j]? = some u → (w3.alloc (.cells #[] 3)).cell? (ad.add j) = some u) := by
    show ∀ j u, _
    intro j u hu
    have hj : j < L.length := by
      rcases Nat.lt_or_ge j L.length with h | h
      · exact h
      · rw [List.getElem?_eq_none (by rw [zs_len]; exact h)] at hu; cases hu
    obtain ⟨ad', e, _, hcc⟩ := HX3.out.2 (by omega)
    cases e
    rw [zs_at hj] at hu
    cases hu
    exact hcc j (by omega)
  have HZL : Hid ((zs L).length = n * 1) := by show _ = _; rw [zs_len]; omega
  have HZO : Hid (∀ u ∈ zs L, u.oneCell' = true) := by
    show ∀ u ∈ zs L, _
    intro u hu
    obtain ⟨x, _, rfl⟩ := List.mem_map.1 hu
    rfl
  clear ho hc
  go_wp2_with (at_builtin; refine wpList_append_lies _ (by rfl) _ _ 22 (by rfl) w.heap.size 3 i0 _ 1 8 Tryz.underlying22 HI.out.1 HI.out.2.1 HI.out.2.2.1 HI.out.2.2.2 (by rfl) (by omega) (.slice (some ⟨w3.heap.size, 0, none⟩) 0 0) 0 [] (by rfl) HOW.out ad n cx (zs L) (by rfl) HZL.out HXC.out HZO.out (by omega) (by unfold maxLen; omega) (by omega) (by simp; omega) (w3.heap.size + 1) (by simp) ?_; intro h c w5 hown4 hgrow hat hlt4; rw [Nat.zero_add] at hown4; rw [List.nil_append] at hown4)
  obtain ⟨hB, -⟩ := hown4.lt h rfl
  have HC5 : Hid (Ch g w w5) := ch_grown (HC3.out.al _) hgrow (fun q e => by have e2 : w3.heap.size = q := Option.some.inj e; omega)
  have HR0 : Hid (NI n g h c w (.int .i64 0) w5) := ⟨0, L, _, rfl, by omega, rfl, hown4, hl, HSL.out, ok_grown (HO3.out.bel (Bel.rf.al _)) hgrow (fun q e => by have e2 : w3.heap.size = q := Option.some.inj e; omega), HC5.out⟩
  have HZ5 : Hid (Zi w (some ad) n L) := HX.out
  clear hown4 hgrow hat hlt4 HOW HX3 HXC HZL HZO
  try simp only [Nat.zero_add]
  go_wp2
  go_loopw [21] (fun s21 wr => NI n g h c w s21 wr) (fun s21 _ => n - (intOf s21).toNat)
  case atStart => exact HR0.out
  case round =>
    clear HR0
    obtain ⟨k, M, wr, hwr, hk, rfl, hown, hM, hS, hog, hcw⟩ := hrel
    subst hwr
    have HO := Lib.hid hown
    have HM := Lib.hid hM
    have HS := Lib.hid hS
    have HG := Lib.hid hog
    have HCW := Lib.hid hcw
    rcases Nat.lt_or_ge k n with hlt | hge
    · have c1 := (own_zi hown hM).at k hlt
      have f1 := own_fr hown k
      have pu := HS.out.at k
      obtain ⟨u, hu⟩ : ∃ u, M.getD k 0 = u := ⟨_, rfl⟩
      rw [hu] at c1 pu
      obtain ⟨u0, u1⟩ := pu
      obtain ⟨ad', e', _, hac⟩ := (HX.out.ch hcw HNE.out).2 (by omega)
      cases e'
      have px := fun j => HSL.out.at j
      have PX := Lib.hid px
      have HAC := Lib.hid hac
      have ki : (k : Int) < (n : Int) := by omega
      clear hown hM hS hog hcw hu px hac
      rcases (show kd = 0 ∨ kd = 1 ∨ kd = 2 ∨ kd = 3 ∨ kd = 4 ∨ kd = 5 ∨ kd = 6 by omega) with rfl | rfl | rfl | rfl | rfl | rfl | rfl
      · go_wp2
        go_roundw
        case rel => exact ⟨k + 1, M, _, rfl, by omega, by go_num, HO.out, HM.out, HS.out, HG.out, HCW.out⟩
        case measure => simp [intOf]; omega
      · go_wp2
        go_region_with (first
          | (go_at_call 21; refine (range_any g (-2) 2 (by decide) (by decide) (by decide) _ (by repeat (first | exact HG.out | refine Ok.drwN ?_ _))).mono ?_; rintro e w6 ⟨y, rfl, y0, y1, ho, hc⟩; have hc6 : Ch g wr w6 := (by repeat (first | exact hc | refine Ch.tr ?_ hc | exact Ch.rf.drwN _ | exact Ch.rf.drw)); have c2 : w6.cell? ⟨h, k, none⟩ = some (.int .i64 u) := hc6.kp c1 (by show h ≠ g; omega); have f2 : w6.frozen? ⟨h, k, none⟩ = false := own_fr (own_ch HO.out hc6 hgB) k; have wq : IntKind.i64.wrap (u + y) = u + y := IntWalk.i64_in _ (by omega); have HO6 := Lib.hid ho; have HC6 := Lib.hid hc6; clear ho hc hc6)
          | (go_at_call 22; refine (clip_any (u + y) (by omega) (by omega) _).mono ?_; rintro e w7 ⟨⟨z, rfl, z0, z1⟩, rfl⟩))
        all_goals
          go_wp2
          go_roundw
          case rel =>
            have hst := ni_step hgB hlt HM.out HS.out z0 z1 HO.out hB HCW.out HO6.out HC6.out
            first | exact hst | exact hst.drwN _ | exact hst.drwN 1
          case measure => simp [intOf]; omega
      · go_wp2_with (go_at_call 22; refine (clip_any (u + b) (by omega) (by omega) _).mono ?_; rintro e w7 ⟨⟨z, rfl, z0, z1⟩, rfl⟩)
        go_roundw
        case rel => exact ni_step hgB hlt HM.out HS.out z0 z1 HO.out hB HCW.out HG.out Ch.rf
        case measure => simp [intOf]; omega
      · rcases (show kk = 1 ∨ kk = 2 ∨ kk = 3 by omega) with rfl | rfl | rfl
        · go_wp2_with (go_at_call 22; refine (clip_any (u + b) (by omega) (by omega) _).mono ?_; rintro e w7 ⟨⟨z, rfl, z0, z1⟩, rfl⟩)
          go_roundw
          case rel => exact ni_step hgB hlt HM.out HS.out z0 z1 HO.out hB HCW.out HG.out Ch.rf
          case measure => simp [intOf]; omega
        · go_wp2_with (go_at_call 22; refine (clip_any (u * 2 + b) (by omega) (by omega) _).mono ?_; rintro e w7 ⟨⟨z, rfl, z0, z1⟩, rfl⟩)
          go_roundw
          case rel => exact ni_step hgB hlt HM.out HS.out z0 z1 HO.out hB HCW.out HG.out Ch.rf
          case measure => simp [intOf]; omega
        · go_wp2_with (go_at_call 22; refine (clip_any (u * 3 + b) (by omega) (by omega) _).mono ?_; rintro e w7 ⟨⟨z, rfl, z0, z1⟩, rfl⟩)
          go_roundw
          case rel => exact ni_step hgB hlt HM.out HS.out z0 z1 HO.out hB HCW.out HG.out Ch.rf
          case measure => simp [intOf]; omega
      · obtain ⟨j, hj⟩ : ∃ j, n - 1 - k = j := ⟨_, rfl⟩
        have hji : (n : Int) - 1 - (k : Int) = (j : Int) := by omega
        have hjn : (j : Int) < (n : Int) := by omega
        have c3 := HAC.out j (by omega)
        obtain ⟨v, hv⟩ : ∃ v, L.getD j 0 = v := ⟨_, rfl⟩
        have pv := PX.out j
        rw [hv] at c3 pv
        obtain ⟨v0, v1⟩ := pv
        clear hv hj
        go_wp2
        go_roundw
        case rel => exact ni_step hgB hlt HM.out HS.out v0 v1 HO.out hB HCW.out HG.out Ch.rf
        case measure => simp [intOf]; omega
      · go_wp2_with fail
        go_at_call 21
        refine (range_any g (-1) 1 (by decide) (by decide) (by decide) _ HG.out).mono ?_
        rintro e w6 ⟨y, rfl, y0, y1, ho, hc⟩
        have HO6 := Lib.hid ho
        have HC6 := Lib.hid hc
        have m0 := Int.emod_nonneg ((k : Int) + y) (b := (n : Int)) (by omega)
        have m1 := Int.emod_lt_of_pos ((k : Int) + y) (b := (n : Int)) (by omega)
        have HMD : Hid (∀ W, Calls Tryz.prog 23 #[.int .i64 ((k : Int) + y), .int .i64 (n : Int)] W fun e w' => e = .returned (.int .i64 (((k : Int) + y) % (n : Int))) ∧ W = w') := fun W => mod_any _ _ (by omega) (by omega) (by omega) (by omega) W
        obtain ⟨j, hj⟩ := Int.eq_ofNat_of_zero_le m0
        rw [hj] at m1 HMD
        have c3 := hc.kp (HAC.out j (by omega)) (by rw [add_block]; exact HNE.out ad rfl)
        obtain ⟨v, hv⟩ : ∃ v, L.getD j 0 = v := ⟨_, rfl⟩
        have pv := PX.out j
        rw [hv] at c3 pv
        obtain ⟨v0, v1⟩ := pv
        have c2 : w6.cell? ⟨h, k, none⟩ = some (.int .i64 u) := hc.kp c1 (by show h ≠ g; omega)
        have f2 : w6.frozen? ⟨h, k, none⟩ = false := own_fr (own_ch HO.out hc hgB) k
        clear ho hc hj hv m0
        go_wp2_with (go_at_call 23; refine (HMD.out _).mono ?_; rintro e w7 ⟨rfl, rfl⟩)
        go_roundw
        case rel => exact ni_step hgB hlt HM.out HS.out v0 v1 HO.out hB HCW.out HO6.out HC6.out
        case measure => simp [intOf]; omega
      · rcases (show kk = 1 ∨ kk = 2 ∨ kk = 3 by omega) with rfl | rfl | rfl
        · go_wp2_with (go_at_call 22; refine (clip_any (b - u) (by omega) (by omega) _).mono ?_; rintro e w7 ⟨⟨z, rfl, z0, z1⟩, rfl⟩)
          go_roundw
          case rel => exact ni_step hgB hlt HM.out HS.out z0 z1 HO.out hB HCW.out HG.out Ch.rf
          case measure => simp [intOf]; omega
        · go_wp2_with (go_at_call 22; refine (clip_any (b - u * 2) (by omega) (by omega) _).mono ?_; rintro e w7 ⟨⟨z, rfl, z0, z1⟩, rfl⟩)
          go_roundw
          case rel => exact ni_step hgB hlt HM.out HS.out z0 z1 HO.out hB HCW.out HG.out Ch.rf
          case measure => simp [intOf]; omega
        · go_wp2_with (go_at_call 22; refine (clip_any (b - u * 3) (by omega) (by omega) _).mono ?_; rintro e w7 ⟨⟨z, rfl, z0, z1⟩, rfl⟩)
          go_roundw
          case rel => exact ni_step hgB hlt HM.out HS.out z0 z1 HO.out hB HCW.out HG.out Ch.rf
          case measure => simp [intOf]; omega
    · obtain rfl : k = n := by omega
      clear hown hM hS hog hcw
      go_wp2
      go_ret
      exact ⟨_, M, rfl, HO.out, HM.out, HS.out, HG.out, HCW.out⟩
def SomePair (g : Nat) (w : World) (e : Ending) (w' : World) : Prop := ∃ (a b c d n : Nat) (L M : List Int), e = .returned (.tuple #[.slice (some ⟨a, 0, none⟩) n b, .slice (some ⟨c, 0, none⟩) n d]) ∧ 2 ≤ n ∧ n ≤ 32 ∧ a < c ∧
  w'.ownsRow w.heap.size 3 1 (.slice (some ⟨a, 0, none⟩) n b) n (zs L) ∧ w'.ownsRow w.heap.size 3 1 (.slice (some ⟨c, 0, none⟩) n d) n (zs M) ∧ L.length = n ∧ M.length = n ∧ Sam L ∧ Sam M ∧ Ok w' g ∧ Ch g w w'
set_option maxHeartbeats 4000000 in
theorem pair_any (g : Nat) (w : World) (h : Ok w g) : Calls Tryz.prog 7 #[.pointer (some ⟨g, 0, none⟩)] w (SomePair g w) := by
  have HGB := Lib.hid h.lt
  have HO0 := Lib.hid h
  clear h
  go_enter Tryz.func7, Tryz.ntmps7
  go_wp2_with fail
  go_at_call 19
  refine (length_any g _ HO0.out).mono ?_
  rintro e w1 ⟨n0, rfl, n1, n2, ho, hc⟩
  obtain ⟨n, rfl⟩ := Int.eq_ofNat_of_zero_le (show 0 ≤ n0 by omega)
  have HO1 := Lib.hid ho
  have HC1 := Lib.hid hc
  clear ho hc
  go_wp2_with fail
  go_at_call 18
  refine (list_any g n (by omega) _ HO1.out).mono ?_
  rintro e w2 ⟨v, L, rfl, hown, hL, hS, ho, hc⟩
  obtain ⟨a, b, rfl, hcap, ha⟩ := row_form hown (by omega)
  have HO2 := Lib.hid ho
  have HC2 := Lib.hid (HC1.out.tr hc)
  have HOA := Lib.hid hown
  have HL := Lib.hid hL
  have HS := Lib.hid hS
  have hga : g < a := by have := HGB.out; have := HC1.out.sz; omega
  have ha2 := (hown.lt a rfl).2
  clear ho hc hown hL hS
  go_wp2_with fail
  go_at_call 20
  refine (n_any g 3 (by decide) (by decide) _ HO2.out).mono ?_
  rintro e w3 ⟨x, rfl, x0, x1, ho, hc⟩
  have HO3 := Lib.hid ho
  have HC3 := Lib.hid (HC2.out.tr hc)
  have hz3 := hc.sz
  have HOA3 := Lib.hid (own_ch HOA.out hc (by have := HGB.out; have := HC1.out.sz; omega))
  clear ho hc
  rcases (show x = 0 ∨ x ≠ 0 by omega) with rfl | hx
  · go_wp2_with (go_at_call 18; refine (list_any g n (by omega) _ HO3.out).mono ?_; rintro e w4 ⟨v, M, rfl, hown, hM, hS, ho, hc⟩; obtain ⟨a', b', rfl, hcap', ha'⟩ := row_form hown (by omega))
    go_ret2
    exact ⟨a, b, a', b', n, L, M, rfl, by omega, by omega, by omega, (own_ch HOA3.out hc (by have := HGB.out; have := HC1.out.sz; omega)).mono HC1.out.sz, hown.mono HC3.out.sz, HL.out, hM, HS.out, hS, ho, HC3.out.tr hc⟩
  · go_wp2_with (go_at_call 8; refine (near_any g (some ⟨a, 0, none⟩) b n L (by omega) (by omega) HS.out _ HO3.out (own_zi HOA3.out HL.out) (fun ad e => by cases e; show a ≠ g; omega)).mono ?_; rintro e w4 ⟨v, M, rfl, hown, hM, hS, ho, hc⟩; obtain ⟨a', b', rfl, hcap', ha'⟩ := row_form hown (by omega))
    go_ret2
    exact ⟨a, b, a', b', n, L, M, rfl, by omega, by omega, by omega, (own_ch HOA3.out hc (by have := HGB.out; have := HC1.out.sz; omega)).mono HC1.out.sz, hown.mono HC3.out.sz, HL.out, hM, HS.out, hS, ho, HC3.out.tr hc⟩
end Go.Proofs.YtpbnabibnkohdaaGreatDoor.Sr
namespace Go.Proofs.YtpbnabibnkohdaaGreatDoor.Wi
set_option linter.unusedVariables false
def df (X Y : List Int) : List Int := List.zipWith (fun a b => a - b) X Y
theorem df_len {X Y : List Int} (h : X.length = Y.length) : (df X Y).length = X.length := by simp [df, h]
theorem df_at {X Y : List Int} (h : X.length = Y.length) (i : Nat) (hi : i < X.length) : (df X Y).getD i 0 = X.getD i 0 - Y.getD i 0 := by
  have hj : i < Y.length := by omega
  rw [List.getD_eq_getElem?_getD, List.getD_eq_getElem?_getD, List.getD_eq_getElem?_getD, df, List.getElem?_zipWith, List.getElem?_eq_getElem hi, List.getElem?_eq_getElem hj]
  rfl
theorem df_take (X Y : List Int) (k : Nat) : df (X.take k) (Y.take k) = (df X Y).take k := by simp [df, List.take_zipWith]
theorem df_drop (X Y : List Int) (k : Nat) : df (X.drop k) (Y.drop k) = (df X Y).drop k := by simp [df, List.drop_zipWith]
/-- all numbers are at most B from 0 -/
def Bd (B : Int) (L : List Int) : Prop := ∀ x ∈ L, -B ≤ x ∧ x ≤ B
theorem Bd.take {B : Int} {L : List Int} (h : Bd B L) (n : Nat) : Bd B (L.take n) := fun x hx => h x (List.mem_of_mem_take hx)
theorem sam_bd {L : List Int} (h : Sam L) : Bd 1000 L := h
theorem df_bd {A B : Int} {X Y : List Int} (h1 : Bd A X) (h2 : Bd B Y) : Bd (A + B) (df X Y) := by
  induction X generalizing Y with
  | nil => intro x hx; simp [df] at hx
  | cons a X ih =>
    rcases Y with _ | ⟨b, Y⟩
    · intro x hx; simp [df] at hx
    · intro x hx
      rcases List.mem_cons.1 (show x ∈ (a - b) :: df X Y from hx) with rfl | hx
      · have := h1 a (by simp)
        have := h2 b (by simp)
        omega
      · exact ih (fun y hy => h1 y (by simp [hy])) (fun y hy => h2 y (by simp [hy])) x hx
theorem sq_bd {B x : Int} (h1 : -B ≤ x) (h2 : x ≤ B) : 0 ≤ x * x ∧ x * x ≤ B * B := by
  have a : 0 ≤ (B - x) * (B + x) := Int.mul_nonneg (by omega) (by omega)
  have e : (B - x) * (B + x) = B * B - x * x := by grind
  have b := sq_nn x
  omega
theorem su_bd {B : Int} {L : List Int} (h : Bd B L) : -(B * (L.length : Int)) ≤ su ix L ∧ su ix L ≤ B * (L.length : Int) := by
  induction L with
  | nil => simp [su]
  | cons x L ih =>
    have h1 := ih (fun y hy => h y (by simp [hy]))
    have h2 := h x (by simp)
    have e : B * ((L.length + 1 : Nat) : Int) = B * (L.length : Int) + B := by rw [show ((L.length + 1 : Nat) : Int) = (L.length : Int) + 1 by omega]; grind
    simp only [su, ix, List.length_cons, e]
    omega
theorem susq_bd {B : Int} {L : List Int} (h : Bd B L) : 0 ≤ su sq L ∧ su sq L ≤ B * B * (L.length : Int) := by
  induction L with
  | nil => simp [su]
  | cons x L ih =>
    have h1 := ih (fun y hy => h y (by simp [hy]))
    have h2 := h x (by simp)
    have h3 := sq_bd h2.1 h2.2
    have e : B * B * ((L.length + 1 : Nat) : Int) = B * B * (L.length : Int) + B * B := by rw [show ((L.length + 1 : Nat) : Int) = (L.length : Int) + 1 by omega]; grind
    simp only [su, sq, List.length_cons, e]
    omega
theorem df_zero (X Y : List Int) (h : X.length = Y.length) : su sq (df X Y) = 0 ↔ X = Y := by
  induction X generalizing Y with
  | nil =>
    rcases Y with _ | ⟨b, Y⟩
    · simp [df, su]
    · simp at h
  | cons a X ih =>
    rcases Y with _ | ⟨b, Y⟩
    · simp at h
    · have e : su sq (df (a :: X) (b :: Y)) = (a - b) * (a - b) + su sq (df X Y) := rfl
      have n1 := sq_nn (a - b)
      have n2 : 0 ≤ su sq (df X Y) := by
        have : ∀ L, 0 ≤ su sq L := fun L => by
          induction L with
          | nil => simp [su]
          | cons x L ih2 => have := sq_nn x; simp only [su, sq]; omega
        exact this _
      rw [e]
      have i := ih Y (by simpa using h)
      constructor
      · intro h0
        have h1 : (a - b) * (a - b) = 0 := by omega
        have h2 : su sq (df X Y) = 0 := by omega
        have h3 : a - b = 0 := by rcases Int.mul_eq_zero.1 h1 with h | h <;> exact h
        rw [i.1 h2, show a = b by omega]
      · intro h0
        injection h0 with h1 h2
        subst h1
        rw [i.2 h2]
        simp
def dot : List Int → List Int → Int
  | x :: X, y :: Y => x * y + dot X Y
  | _, _ => 0
def lc (s t : Int) (X Y : List Int) : List Int := List.zipWith (fun a b => s * a + t * b) X Y
theorem lc_len (s t : Int) {X Y : List Int} (h : X.length = Y.length) : (lc s t X Y).length = X.length := by simp [lc, h]
theorem lc_su (s t : Int) (X Y : List Int) (h : X.length = Y.length) : su ix (lc s t X Y) = s * su ix X + t * su ix Y := by
  induction X generalizing Y with
  | nil =>
    rcases Y with _ | ⟨b, Y⟩
    · simp [lc, su]
    · simp at h
  | cons a X ih =>
    rcases Y with _ | ⟨b, Y⟩
    · simp at h
    · have e : su ix (lc s t (a :: X) (b :: Y)) = (s * a + t * b) + su ix (lc s t X Y) := rfl
      rw [e, ih Y (by simpa using h), show su ix (a :: X) = a + su ix X from rfl, show su ix (b :: Y) = b + su ix Y from rfl]
      grind
theorem lc_sq (s t : Int) (X Y : List Int) (h : X.length = Y.length) : su sq (lc s t X Y) = s * s * su sq X + 2 * (s * t) * dot X Y + t * t * su sq Y := by
  induction X generalizing Y with
  | nil =>
    rcases Y with _ | ⟨b, Y⟩
    · simp [lc, su, dot]
    · simp at h
  | cons a X ih =>
    rcases Y with _ | ⟨b, Y⟩
    · simp at h
    · have e : su sq (lc s t (a :: X) (b :: Y)) = (s * a + t * b) * (s * a + t * b) + su sq (lc s t X Y) := rfl
      rw [e, ih Y (by simpa using h), show su sq (a :: X) = a * a + su sq X from rfl, show su sq (b :: Y) = b * b + su sq Y from rfl, show dot (a :: X) (b :: Y) = a * b + dot X Y from rfl]
      grind
theorem susq_nn (L : List Int) : 0 ≤ su sq L := by
  induction L with
  | nil => simp [su]
  | cons x L ih2 => have := sq_nn x; simp only [su, sq]; omega
/-- a quadratic form that is never below 0 -/
theorem quad_cs {A B D : Int} (h : ∀ s t : Int, 0 ≤ s * s * A + 2 * (s * t) * D + t * t * B) : D * D ≤ A * B := by
  have hA : 0 ≤ A := by have := h 1 0; simp at this; exact this
  have hB : 0 ≤ B := by have := h 0 1; simp at this; exact this
  rcases Int.lt_or_le 0 B with hb | hb
  · have h1 := h B (-D)
    have e : B * B * A + 2 * (B * -D) * D + -D * -D * B = B * (A * B - D * D) := by grind
    rw [e] at h1
    rcases Int.lt_or_le (A * B - D * D) 0 with h2 | h2
    · have h3 : 0 < B * -(A * B - D * D) := Int.mul_pos hb (by omega)
      have e2 : B * -(A * B - D * D) = -(B * (A * B - D * D)) := by grind
      omega
    · omega
  · obtain rfl : B = 0 := by omega
    have h1 := h 1 (-((A + 1) * D))
    have e : 1 * 1 * A + 2 * (1 * -((A + 1) * D)) * D + -((A + 1) * D) * -((A + 1) * D) * 0 = A - 2 * ((A + 1) * (D * D)) := by grind
    rw [e] at h1
    have n := sq_nn D
    rcases Int.lt_or_le 0 (D * D) with h2 | h2
    · have h3 : (A + 1) * 1 ≤ (A + 1) * (D * D) := Int.mul_le_mul_of_nonneg_left (by omega) (by omega)
      omega
    · rw [Int.mul_zero]; omega
/-- the roots of sums of squares obey the triangle -/
theorem tri_of {a b c D : Int} (hc : c = a + b + 2 * D) (h : D * D ≤ a * b) : (c - a - b) * (c - a - b) ≤ 4 * (a * b) := by
  have e : (c - a - b) * (c - a - b) = 4 * (D * D) := by
    have : c - a - b = 2 * D := by omega
    rw [this]; grind
  omega
theorem df_lc (X Y Z : List Int) (h1 : X.length = Y.length) (h2 : Y.length = Z.length) : df X Z = lc 1 1 (df X Y) (df Y Z) := by
  induction X generalizing Y Z with
  | nil => simp [df, lc]
  | cons a X ih =>
    rcases Y with _ | ⟨b, Y⟩
    · simp at h1
    · rcases Z with _ | ⟨c, Z⟩
      · simp at h2
      · have e := ih Y Z (by simpa using h1) (by simpa using h2)
        show (a - c) :: df X Z = (1 * (a - b) + 1 * (b - c)) :: lc 1 1 (df X Y) (df Y Z)
        rw [e]
        congr 1
        omega
theorem dist_tri (X Y Z : List Int) (h1 : X.length = Y.length) (h2 : Y.length = Z.length) :
    (su sq (df X Z) - su sq (df X Y) - su sq (df Y Z)) * (su sq (df X Z) - su sq (df X Y) - su sq (df Y Z)) ≤ 4 * (su sq (df X Y) * su sq (df Y Z)) := by
  have hl : (df X Y).length = (df Y Z).length := by rw [df_len h1, df_len h2, h1]
  refine tri_of (D := dot (df X Y) (df Y Z)) ?_ (quad_cs fun s t => ?_)
  · rw [df_lc X Y Z h1 h2, lc_sq _ _ _ _ hl]; grind
  · rw [← lc_sq s t _ _ hl]; exact susq_nn _
theorem shift_tri (X Y Z : List Int) (h1 : X.length = Y.length) (h2 : Y.length = Z.length) :
    (vr (df X Z) - vr (df X Y) - vr (df Y Z)) * (vr (df X Z) - vr (df X Y) - vr (df Y Z)) ≤ 4 * (vr (df X Y) * vr (df Y Z)) := by
  have hl : (df X Y).length = (df Y Z).length := by rw [df_len h1, df_len h2, h1]
  have key : ∀ s t : Int, vr (lc s t (df X Y) (df Y Z)) = s * s * vr (df X Y) + 2 * (s * t) * (((df X Y).length : Int) * dot (df X Y) (df Y Z) - su ix (df X Y) * su ix (df Y Z)) + t * t * vr (df Y Z) := by
    intro s t
    unfold vr
    rw [lc_len s t hl, lc_sq _ _ _ _ hl, lc_su _ _ _ _ hl, ← hl]
    grind
  refine tri_of (D := ((df X Y).length : Int) * dot (df X Y) (df Y Z) - su ix (df X Y) * su ix (df Y Z)) ?_ (quad_cs fun s t => ?_)
  · rw [df_lc X Y Z h1 h2, key]; grind
  · rw [← key s t]; exact vr_nn _
theorem df_swap (X Y : List Int) : su sq (df Y X) = su sq (df X Y) ∧ su ix (df Y X) = -su ix (df X Y) := by
  induction X generalizing Y with
  | nil => rcases Y with _ | ⟨b, Y⟩ <;> simp [df, su]
  | cons a X ih =>
    rcases Y with _ | ⟨b, Y⟩
    · simp [df, su]
    · obtain ⟨i1, i2⟩ := ih Y
      refine ⟨?_, ?_⟩
      · show (b - a) * (b - a) + su sq (df Y X) = (a - b) * (a - b) + su sq (df X Y)
        rw [i1]; grind
      · show (b - a) + su ix (df Y X) = -((a - b) + su ix (df X Y))
        rw [i2]; omega
theorem vr_swap (X Y : List Int) (h : X.length = Y.length) : vr (df Y X) = vr (df X Y) := by
  obtain ⟨a, b⟩ := df_swap X Y
  unfold vr
  rw [a, b, df_len h, df_len h.symm, h, Int.neg_mul_neg]
end Go.Proofs.YtpbnabibnkohdaaGreatDoor.Wi
namespace Go.Proofs.YtpbnabibnkohdaaGreatDoor.Ra
/-- the greatest common divisor, as an integer -/
def gd (a b : Int) : Int := (Nat.gcd a.toNat b.toNat : Nat)
theorem gd_zero {a : Int} (h : 0 ≤ a) : gd a 0 = a := by
  unfold gd
  simp
  omega
theorem gd_step {a b : Int} (ha : 0 ≤ a) (hb : 0 < b) : gd b (a % b) = gd a b := by
  unfold gd
  have e : (a % b).toNat = a.toNat % b.toNat := by
    rw [Int.toNat_emod ha (by omega)]
  rw [e, Nat.gcd_comm a.toNat, Nat.gcd_rec b.toNat a.toNat, Nat.gcd_comm]
theorem gd_nonneg (a b : Int) : 0 ≤ gd a b := by unfold gd; omega
theorem gd_comm (a b : Int) : gd a b = gd b a := by unfold gd; rw [Nat.gcd_comm]
theorem gd_pos {a b : Int} (h : 0 < b) : 1 ≤ gd a b := by
  unfold gd
  have : 0 < Nat.gcd a.toNat b.toNat := Nat.gcd_pos_of_pos_right _ (by omega)
  omega
theorem gd_le_right {a b : Int} (h : 0 < b) : gd a b ≤ b := by
  unfold gd
  have : Nat.gcd a.toNat b.toNat ≤ b.toNat := Nat.gcd_le_right _ (by omega)
  omega
theorem gd_dvd_left {a b : Int} (h : 0 ≤ a) : gd a b ∣ a := by
  unfold gd
  have := Nat.gcd_dvd_left a.toNat b.toNat
  have e : a = (a.toNat : Int) := by omega
  rw [e]
  exact_mod_cast this
theorem gd_dvd_right {a b : Int} (h : 0 ≤ b) : gd a b ∣ b := by rw [gd_comm]; exact gd_dvd_left h
/-- the greatest common divisor of the quotients is 1 -/
theorem gd_quot {a b : Int} (ha : 0 ≤ a) (hb : 0 < b) : gd (a / gd a b) (b / gd a b) = 1 := by
  have hp := gd_pos (a := a) hb
  have dv : ∀ {x y : Int}, 0 ≤ x → 0 ≤ y → (x / y).toNat = x.toNat / y.toNat := by
    intro x y hx hy
    obtain ⟨u, rfl⟩ := Int.eq_ofNat_of_zero_le hx
    obtain ⟨v, rfl⟩ := Int.eq_ofNat_of_zero_le hy
    rfl
  have e1 : (a / gd a b).toNat = a.toNat / Nat.gcd a.toNat b.toNat := dv ha (by omega)
  have e2 : (b / gd a b).toNat = b.toNat / Nat.gcd a.toNat b.toNat := dv (by omega) (by omega)
  have := Nat.coprime_div_gcd_div_gcd (m := a.toNat) (n := b.toNat) (Nat.gcd_pos_of_pos_right _ (by omega))
  unfold Nat.Coprime at this
  show ((Nat.gcd (a / gd a b).toNat (b / gd a b).toNat : Nat) : Int) = 1
  rw [e1, e2, this]; rfl
theorem quot_mul {a d : Int} (h : d ∣ a) : a / d * d = a := Int.ediv_mul_cancel h
/-- within the limits -/
def RIn (n d : Int) : Prop := 0 ≤ n ∧ n ≤ 2305843009213693952 ∧ 1 ≤ d ∧ d ≤ 1152921504606846976
/-- a valid ratio -/
def RV (n d : Int) : Prop := RIn n d ∧ gd n d = 1
open Classical in
noncomputable def pb (p : Prop) : Bool := decide p
open Classical in
theorem pb_yes {p : Prop} (h : p) : pb p = true := by unfold pb; exact decide_eq_true h
open Classical in
theorem pb_no {p : Prop} (h : ¬ p) : pb p = false := by unfold pb; exact decide_eq_false h
open Classical in
theorem of_pb {p : Prop} (h : pb p = true) : p := by unfold pb at h; exact of_decide_eq_true h
open Classical in
theorem of_not_pb {p : Prop} (h : pb p = false) : ¬ p := by unfold pb at h; exact of_decide_eq_false h
/-- the answers of inRange and Valid -/
noncomputable def rin (n d : Int) : Bool := pb (RIn n d)
noncomputable def rv (n d : Int) : Bool := pb (RV n d)
theorem rin_yes {n d : Int} (h : RIn n d) : rin n d = true := pb_yes h
theorem rin_no {n d : Int} (h : ¬ RIn n d) : rin n d = false := pb_no h
theorem rv_yes {n d : Int} (h : RV n d) : rv n d = true := pb_yes h
theorem rv_no {n d : Int} (h : ¬ RV n d) : rv n d = false := pb_no h
theorem of_rin {n d : Int} (h : rin n d = true) : RIn n d := of_pb h
theorem of_rv {n d : Int} (h : rv n d = true) : RV n d := of_pb h
theorem of_not_rv {n d : Int} (h : rv n d = false) : ¬ RV n d := of_not_pb h
/-- the error of Make -/
def MOk (n d : Int) : Prop := 0 ≤ n ∧ 1 ≤ d ∧ RIn (n / gd n d) (d / gd n d)
theorem mok_rv {n d : Int} (h : MOk n d) : RV (n / gd n d) (d / gd n d) := ⟨h.2.2, gd_quot h.1 (by have := h.2.1; omega)⟩
/-- the order of valid ratios -/
def cmpI (a b : Int) : Int := if a < b then -1 else if b < a then 1 else 0
def rc (n d m e : Int) : Int := cmpI (n * e) (m * d)
def orI (x y : Int) : Int := if x = 0 then y else x
theorem cmp_wide {a b : Int} : orI (cmpI (a / 18446744073709551616) (b / 18446744073709551616)) (cmpI (a % 18446744073709551616) (b % 18446744073709551616)) = cmpI a b := by
  unfold orI cmpI
  repeat' split
  all_goals omega
theorem cmpI_lt {a b : Int} (h : a < b) : cmpI a b = -1 := by unfold cmpI; rw [if_pos h]
theorem cmpI_gt {a b : Int} (h : b < a) : cmpI a b = 1 := by unfold cmpI; rw [if_neg (by omega), if_pos h]
theorem cmpI_eq {a b : Int} (h : a = b) : cmpI a b = 0 := by unfold cmpI; rw [if_neg (by omega), if_neg (by omega)]
/-- what Cmp returns -/
noncomputable def rcmp (n d m e : Int) : Int := if rv n d = true ∧ rv m e = true then cmpI (n * e) (m * d) else 0
theorem rcmp_in {n d m e : Int} (h : rv n d = true) (k : rv m e = true) : rcmp n d m e = cmpI (n * e) (m * d) := by unfold rcmp; rw [if_pos ⟨h, k⟩]
theorem rcmp_out {n d m e : Int} (h : rv n d = false ∨ rv m e = false) : rcmp n d m e = 0 := by
  unfold rcmp
  rw [if_neg]
  rintro ⟨a, b⟩
  rcases h with h | h
  · rw [h] at a; cases a
  · rw [h] at b; cases b
theorem gd_mul {a b f : Int} (ha : 0 ≤ a) (hb : 0 ≤ b) (hf : 0 ≤ f) : gd (a * f) (b * f) = gd a b * f := by
  obtain ⟨x, rfl⟩ := Int.eq_ofNat_of_zero_le ha
  obtain ⟨y, rfl⟩ := Int.eq_ofNat_of_zero_le hb
  obtain ⟨z, rfl⟩ := Int.eq_ofNat_of_zero_le hf
  have e1 : ((x : Int) * z).toNat = x * z := by rw [← Int.natCast_mul, Int.toNat_natCast]
  have e2 : ((y : Int) * z).toNat = y * z := by rw [← Int.natCast_mul, Int.toNat_natCast]
  unfold gd
  rw [e1, e2, Nat.gcd_mul_right, Int.natCast_mul]
  simp
theorem quot_scale {a g f : Int} (hf : 0 < f) : a * f / (g * f) = a / g := Int.mul_ediv_mul_of_pos_left _ _ hf
theorem rv_eq {n d m e : Int} (h : RV n d) (k : RV m e) (he : n * e = m * d) : n = m ∧ d = e := by
  obtain ⟨⟨n0, _, d0, _⟩, hg⟩ := h
  obtain ⟨⟨m0, _, e0, _⟩, kg⟩ := k
  obtain ⟨x, rfl⟩ := Int.eq_ofNat_of_zero_le n0
  obtain ⟨y, rfl⟩ := Int.eq_ofNat_of_zero_le (show 0 ≤ d by omega)
  obtain ⟨u, rfl⟩ := Int.eq_ofNat_of_zero_le m0
  obtain ⟨v, rfl⟩ := Int.eq_ofNat_of_zero_le (show 0 ≤ e by omega)
  have hn : x * v = u * y := by exact_mod_cast he
  have g1 : Nat.gcd x y = 1 := by unfold gd at hg; simp at hg; exact_mod_cast hg
  have g2 : Nat.gcd u v = 1 := by unfold gd at kg; simp at kg; exact_mod_cast kg
  have d1 : y ∣ v := Nat.Coprime.dvd_of_dvd_mul_left (k := y) (m := x) (Nat.Coprime.symm g1) (by rw [hn]; exact Nat.dvd_mul_left _ _)
  have d2 : v ∣ y := Nat.Coprime.dvd_of_dvd_mul_left (k := v) (m := u) (Nat.Coprime.symm g2) (by rw [← hn]; exact Nat.dvd_mul_left _ _)
  have hv : y = v := Nat.dvd_antisymm d1 d2
  subst hv
  have : x = u := Nat.eq_of_mul_eq_mul_right (by omega) hn
  exact ⟨by rw [this], rfl⟩
/-- what Make returns for small numbers -/
theorem make_facts {n d : Int} (h0 : 0 ≤ n) (h1 : 1 ≤ d) (h2 : n ≤ 2305843009213693952) (h3 : d ≤ 1152921504606846976) :
    0 ≤ n / gd n d ∧ n / gd n d ≤ n ∧ 1 ≤ d / gd n d ∧ d / gd n d ≤ d ∧ n / gd n d * gd n d = n ∧ d / gd n d * gd n d = d ∧ RV (n / gd n d) (d / gd n d) ∧ n / gd n d * d = n * (d / gd n d) := by
  have g1 := gd_pos (a := n) (b := d) (by omega)
  have a1 := quot_mul (gd_dvd_left (b := d) h0)
  have a2 := quot_mul (gd_dvd_right (a := n) (b := d) (by omega))
  have b0 : 0 ≤ n / gd n d := Int.ediv_nonneg h0 (by omega)
  have b1 : n / gd n d ≤ n := Int.ediv_le_self _ h0
  have b2 : 0 ≤ d / gd n d := Int.ediv_nonneg (by omega) (by omega)
  have b3 : d / gd n d ≤ d := Int.ediv_le_self _ (by omega)
  have b4 : d / gd n d ≠ 0 := by intro h; rw [h] at a2; omega
  refine ⟨b0, b1, by omega, b3, a1, a2, ⟨⟨b0, by omega, by omega, by omega⟩, gd_quot h0 (by omega)⟩, ?_⟩
  have e1 : n / gd n d * d = n / gd n d * (d / gd n d * gd n d) := by rw [a2]
  have e2 : n * (d / gd n d) = n / gd n d * gd n d * (d / gd n d) := by rw [a1]
  rw [e1, e2]
  grind
theorem cross_eq {x0 x1 y0 y1 g h a b c d : Int} (e1 : x0 * g = a) (e2 : x1 * g = b) (e3 : y0 * h = c) (e4 : y1 * h = d) : a * d = x0 * y1 * (g * h) ∧ c * b = y0 * x1 * (g * h) := by
  subst e1 e2 e3 e4
  exact ⟨by grind, by grind⟩
theorem cross_lt {u v k a b : Int} (hk : 0 < k) (ha : a = u * k) (hb : b = v * k) : (a < b ↔ u < v) ∧ (a = b ↔ u = v) := by
  subst ha hb
  refine ⟨Int.mul_lt_mul_right hk, ?_⟩
  constructor
  · intro h; exact Int.eq_of_mul_eq_mul_right (by omega) h
  · intro h; rw [h]
theorem cmpI_ge {a b : Int} (h : b ≤ a) : decide (cmpI a b < 0) = false := by
  unfold cmpI
  rw [if_neg (by omega)]
  split <;> decide
theorem gd_one (a : Int) : gd a 1 = 1 := by unfold gd; simp
/-- the facts of Floor and Ceil: the integers below and above -/
theorem round_facts {n d : Int} (h : RV n d) : 0 ≤ n / d ∧ n / d ≤ n ∧ n / d * d ≤ n * 1 ∧ (d = 1 ∧ n % d = 0 ∧ n / d = n ∨ d ≠ 1 ∧ n % d ≠ 0 ∧ n * 1 ≤ (n / d + 1) * d ∧ n / d + 1 ≤ 2305843009213693952) := by
  obtain ⟨⟨n0, n1, d0, d1⟩, hg⟩ := h
  have e1 := Int.emod_add_mul_ediv n d
  have e2 := Int.emod_nonneg n (b := d) (by omega)
  have e3 := Int.emod_lt_of_pos n (b := d) (by omega)
  have e4 : d * (n / d) = n / d * d := Int.mul_comm _ _
  have q0 : 0 ≤ n / d := Int.ediv_nonneg n0 (by omega)
  have q1 : n / d ≤ n := Int.ediv_le_self _ n0
  refine ⟨q0, q1, by omega, ?_⟩
  rcases Classical.em (d = 1) with hd | hd
  · subst hd
    exact .inl ⟨rfl, by omega, by omega⟩
  · refine .inr ⟨hd, fun hz => hd ?_, ?_, ?_⟩
    · have hdv : d ∣ n := Int.dvd_of_emod_eq_zero hz
      have : gd n d = d := by
        obtain ⟨x, rfl⟩ := Int.eq_ofNat_of_zero_le n0
        obtain ⟨y, rfl⟩ := Int.eq_ofNat_of_zero_le (show 0 ≤ d by omega)
        unfold gd
        simp only [Int.toNat_natCast]
        rw [Nat.gcd_eq_right (by exact_mod_cast hdv)]
      omega
    · have : (n / d + 1) * d = n / d * d + d := by grind
      omega
    · have : 2 * (n / d) ≤ d * (n / d) := Int.mul_le_mul_of_nonneg_right (by omega) q0
      omega
theorem rcmp_three {n d m e : Int} (h : RV n d) (k : RV m e) : (rcmp n d m e = -1 ∧ n * e < m * d) ∨ (rcmp n d m e = 0 ∧ n * e = m * d) ∨ (rcmp n d m e = 1 ∧ m * d < n * e) := by
  rw [rcmp_in (rv_yes h) (rv_yes k)]
  rcases Int.lt_trichotomy (n * e) (m * d) with g | g | g
  · exact .inl ⟨cmpI_lt g, g⟩
  · exact .inr (.inl ⟨cmpI_eq g, g⟩)
  · exact .inr (.inr ⟨cmpI_gt g, g⟩)
theorem rcmp_turn {n d m e : Int} (h : RV n d) (k : RV m e) : rcmp m e n d = -rcmp n d m e := by
  rw [rcmp_in (rv_yes h) (rv_yes k), rcmp_in (rv_yes k) (rv_yes h)]
  rcases Int.lt_trichotomy (n * e) (m * d) with g | g | g
  · rw [cmpI_lt g, cmpI_gt g]; rfl
  · rw [cmpI_eq g, cmpI_eq g.symm]; rfl
  · rw [cmpI_gt g, cmpI_lt g]
theorem rcmp_self {n d : Int} (h : RV n d) : rcmp n d n d = 0 := by
  rw [rcmp_in (rv_yes h) (rv_yes h)]; exact cmpI_eq rfl
theorem le_trans_frac {n1 d1 n2 d2 n3 d3 : Int} (h1 : 1 ≤ d1) (h2 : 1 ≤ d2) (h3 : 1 ≤ d3) (a : n1 * d2 ≤ n2 * d1) (b : n2 * d3 ≤ n3 * d2) : n1 * d3 ≤ n3 * d1 := by
  have e1 := Int.mul_le_mul_of_nonneg_right a (show 0 ≤ d3 by omega)
  have e2 := Int.mul_le_mul_of_nonneg_right b (show 0 ≤ d1 by omega)
  have e3 : n2 * d1 * d3 = n2 * d3 * d1 := by grind
  have e4 : n1 * d2 * d3 = n1 * d3 * d2 := by grind
  have e5 : n3 * d2 * d1 = n3 * d1 * d2 := by grind
  exact Int.le_of_mul_le_mul_right (show n1 * d3 * d2 ≤ n3 * d1 * d2 by omega) (show 0 < d2 by omega)
theorem rcmp_le {n d m e : Int} (h : RV n d) (k : RV m e) : (rcmp n d m e ≤ 0 ↔ n * e ≤ m * d) ∧ (0 ≤ rcmp n d m e ↔ m * d ≤ n * e) := by
  rcases rcmp_three h k with ⟨e1, e2⟩ | ⟨e1, e2⟩ | ⟨e1, e2⟩ <;> rw [e1] <;> constructor <;> constructor <;> intro _ <;> omega
theorem rcmp_trans {n1 d1 n2 d2 n3 d3 : Int} (h1 : RV n1 d1) (h2 : RV n2 d2) (h3 : RV n3 d3) :
    (rcmp n1 d1 n2 d2 ≤ 0 → rcmp n2 d2 n3 d3 ≤ 0 → rcmp n1 d1 n3 d3 ≤ 0) ∧ (0 ≤ rcmp n1 d1 n2 d2 → 0 ≤ rcmp n2 d2 n3 d3 → 0 ≤ rcmp n1 d1 n3 d3) := by
  have p1 := h1.1.2.2.1
  have p2 := h2.1.2.2.1
  have p3 := h3.1.2.2.1
  constructor
  · intro a b
    exact (rcmp_le h1 h3).1.2 (le_trans_frac p1 p2 p3 ((rcmp_le h1 h2).1.1 a) ((rcmp_le h2 h3).1.1 b))
  · intro a b
    exact (rcmp_le h1 h3).2.2 (le_trans_frac p3 p2 p1 ((rcmp_le h2 h3).2.1 b) ((rcmp_le h1 h2).2.1 a))
theorem rcmp_same {n d m e : Int} (h : RV n d) (k : RV m e) : rcmp n d m e = 0 ↔ n = m ∧ d = e := by
  rcases rcmp_three h k with ⟨e1, e2⟩ | ⟨e1, e2⟩ | ⟨e1, e2⟩ <;> rw [e1]
  · constructor
    · intro x; omega
    · rintro ⟨rfl, rfl⟩; omega
  · exact ⟨fun _ => rv_eq h k e2, fun _ => rfl⟩
  · constructor
    · intro x; omega
    · rintro ⟨rfl, rfl⟩; omega
end Go.Proofs.YtpbnabibnkohdaaGreatDoor.Ra
namespace Go.Proofs.YtpbnabibnkohdaaGreatDoor.Wi
open Ra
set_option linter.unusedVariables false
/-- the product of two windows -/
def pr (X Y : List Int) : Int := (X.length : Int) * dot X Y - su ix X * su ix Y
theorem dot_self (X : List Int) : dot X X = su sq X := by
  induction X with
  | nil => rfl
  | cons a X ih => show a * a + dot X X = a * a + su sq X; rw [ih]
theorem pr_self (X : List Int) : pr X X = vr X := by unfold pr vr; rw [dot_self]
theorem dot_comm (X Y : List Int) : dot X Y = dot Y X := by
  induction X generalizing Y with
  | nil => rcases Y with _ | ⟨b, Y⟩ <;> rfl
  | cons a X ih =>
    rcases Y with _ | ⟨b, Y⟩
    · rfl
    · show a * b + dot X Y = b * a + dot Y X
      rw [ih, Int.mul_comm]
theorem pr_comm {X Y : List Int} (h : X.length = Y.length) : pr X Y = pr Y X := by
  unfold pr; rw [dot_comm, h, Int.mul_comm (su ix X)]
theorem vr_lc (s t : Int) (X Y : List Int) (h : X.length = Y.length) : vr (lc s t X Y) = s * s * vr X + 2 * (s * t) * pr X Y + t * t * vr Y := by
  unfold vr pr
  rw [lc_len s t h, lc_sq _ _ _ _ h, lc_su _ _ _ _ h, ← h]
  grind
theorem pr_cs {X Y : List Int} (h : X.length = Y.length) : pr X Y * pr X Y ≤ vr X * vr Y :=
  quad_cs fun s t => by rw [← vr_lc s t _ _ h]; exact vr_nn _
theorem vr_le {X : List Int} (hs : Sam X) (h : X.length ≤ 32) : 0 ≤ vr X ∧ vr X ≤ 1024000000 := by
  have q := sq_su_in hs
  have n := sq_nn (su ix X)
  have m : (X.length : Int) * su sq X ≤ 32 * 32000000 := Int.mul_le_mul (by omega) (by omega) q.1 (by omega)
  refine ⟨vr_nn _, ?_⟩
  unfold vr
  omega
theorem sq_le {p B : Int} (hB : 0 ≤ B) (h : p * p ≤ B * B) : -B ≤ p ∧ p ≤ B := by
  refine ⟨?_, ?_⟩
  · rcases Int.lt_or_le p (-B) with g | g
    · have h1 : (B + 1) * (B + 1) ≤ (-p) * (-p) := Int.mul_le_mul (by omega) (by omega) (by omega) (by omega)
      rw [Int.neg_mul_neg] at h1
      have e : (B + 1) * (B + 1) = B * B + 2 * B + 1 := by grind
      omega
    · exact g
  · rcases Int.lt_or_le B p with g | g
    · have h1 : (B + 1) * (B + 1) ≤ p * p := Int.mul_le_mul (by omega) (by omega) (by omega) (by omega)
      have e : (B + 1) * (B + 1) = B * B + 2 * B + 1 := by grind
      omega
    · exact g
theorem vw_le {v w : Int} (v0 : 0 ≤ v) (w0 : 0 ≤ w) (v1 : v ≤ 1024000000) (w1 : w ≤ 1024000000) : 0 ≤ v * w ∧ v * w ≤ 1048576000000000000 :=
  ⟨Int.mul_nonneg v0 w0, Int.le_trans (Int.mul_le_mul v1 w1 w0 (by omega)) (by decide)⟩
theorem pr_le {X Y : List Int} (hs : Sam X) (ht : Sam Y) (h : X.length ≤ 32) (hl : X.length = Y.length) : -1024000000 ≤ pr X Y ∧ pr X Y ≤ 1024000000 := by
  have a := vr_le hs h
  have b := vr_le ht (by omega)
  have c := vw_le a.1 b.1 a.2 b.2
  exact sq_le (by omega) (Int.le_trans (pr_cs hl) (by omega))
/-- the square with the sign of the number -/
def sg (c : Int) : Int := if c < 0 then -(c * c) else c * c
theorem sg_abs (c : Int) : sg c = c * (if c < 0 then -c else c) := by
  unfold sg
  split
  · grind
  · rfl
theorem sg_in {c q : Int} (h : c * c ≤ q) : -q ≤ sg c ∧ sg c ≤ q := by
  have := sq_nn c
  unfold sg
  split <;> omega
theorem sg_zero (c : Int) : sg c = 0 ↔ c = 0 := by
  unfold sg
  constructor
  · intro h
    split at h
    · have : c * c = 0 := by omega
      rcases Int.mul_eq_zero.1 this with h | h <;> exact h
    · rcases Int.mul_eq_zero.1 h with h | h <;> exact h
  · rintro rfl; rfl
theorem sg_pos (c : Int) : 0 < sg c ↔ 0 < c := by
  have := sq_nn c
  unfold sg
  constructor
  · intro h
    split at h
    · omega
    · rcases Int.lt_or_le 0 c with g | g
      · exact g
      · obtain rfl : c = 0 := by omega
        simp at h
  · intro h
    rw [if_neg (by omega)]
    exact Int.mul_pos h h
theorem sg_lt {a b : Int} (h : a < b) : sg a < sg b := by
  have ha := sq_nn a
  have hb := sq_nn b
  unfold sg
  split
  · split
    · have h1 : (-b) * (-b) < (-a) * (-a) := by
        have h2 : (-b) * (-b) ≤ (-b) * (-a) := Int.mul_le_mul_of_nonneg_left (by omega) (by omega)
        have h3 : (-b) * (-a) < (-a) * (-a) := Int.mul_lt_mul_of_pos_right (by omega) (by omega)
        omega
      rw [Int.neg_mul_neg, Int.neg_mul_neg] at h1
      omega
    · have h1 : 0 < (-a) * (-a) := Int.mul_pos (by omega) (by omega)
      rw [Int.neg_mul_neg] at h1
      omega
  · rw [if_neg (by omega)]
    have h2 : a * a ≤ a * b := Int.mul_le_mul_of_nonneg_left (by omega) (by omega)
    have h3 : a * b < b * b := Int.mul_lt_mul_of_pos_right (by omega) (by omega)
    omega
theorem sg_ord (a b : Int) : (sg a < sg b ↔ a < b) ∧ (sg a = sg b ↔ a = b) := by
  rcases Int.lt_trichotomy a b with h | h | h
  · have := sg_lt h
    exact ⟨⟨fun _ => h, fun _ => this⟩, ⟨fun _ => by omega, fun _ => by omega⟩⟩
  · subst h; exact ⟨⟨fun _ => by omega, fun _ => by omega⟩, ⟨fun _ => rfl, fun _ => rfl⟩⟩
  · have := sg_lt h
    exact ⟨⟨fun _ => by omega, fun _ => by omega⟩, ⟨fun _ => by omega, fun _ => by omega⟩⟩
/-- the numerator and the denominator of the gap, before they are reduced -/
def gN (v w c : Int) : Int := if v = 0 then (if w = 0 then 0 else 1) else if w = 0 then 1 else v * w - sg c
def gD (v w : Int) : Int := if v = 0 then 1 else if w = 0 then 1 else v * w
theorem gap_in {v w c : Int} (v0 : 0 ≤ v) (w0 : 0 ≤ w) (v1 : v ≤ 1024000000) (w1 : w ≤ 1024000000) (h : c * c ≤ v * w) :
    0 ≤ gN v w c ∧ gN v w c ≤ 2097152000000000000 ∧ 1 ≤ gD v w ∧ gD v w ≤ 1048576000000000000 ∧ gN v w c ≤ 2 * gD v w := by
  have a := vw_le v0 w0 v1 w1
  have b := sg_in h
  unfold gN gD
  rcases Classical.em (v = 0) with hv | hv
  · rw [if_pos hv, if_pos hv]
    split <;> omega
  · rw [if_neg hv, if_neg hv]
    rcases Classical.em (w = 0) with hw | hw
    · rw [if_pos hw, if_pos hw]
      omega
    · rw [if_neg hw, if_neg hw]
      have : 0 < v * w := Int.mul_pos (by omega) (by omega)
      omega
/-- the reduced gap -/
def rN (v w c : Int) : Int := gN v w c / gd (gN v w c) (gD v w)
def rD (v w c : Int) : Int := gD v w / gd (gN v w c) (gD v w)
theorem red_in {v w c : Int} (v0 : 0 ≤ v) (w0 : 0 ≤ w) (v1 : v ≤ 1024000000) (w1 : w ≤ 1024000000) (h : c * c ≤ v * w) :
    RV (rN v w c) (rD v w c) ∧ rN v w c * gD v w = gN v w c * rD v w c ∧ 0 ≤ rN v w c ∧ rN v w c ≤ 2097152000000000000 ∧ 1 ≤ rD v w c ∧ rD v w c ≤ 1048576000000000000 := by
  have a := gap_in v0 w0 v1 w1 h
  have b := make_facts (n := gN v w c) (d := gD v w) a.1 a.2.2.1 (by omega) (by omega)
  unfold rN rD
  exact ⟨b.2.2.2.2.2.2.1, b.2.2.2.2.2.2.2, b.1, by omega, b.2.2.1, by omega⟩
theorem red_mul {a b k : Int} (ha : 0 ≤ a) (hb : 0 < b) (hk : 0 < k) : a * k / gd (a * k) (b * k) = a / gd a b ∧ b * k / gd (a * k) (b * k) = b / gd a b := by
  rw [gd_mul ha (by omega) (by omega)]
  exact ⟨quot_scale hk, quot_scale hk⟩
/-- a reduced gap is known by its quotient -/
theorem red_cross {v w c n d : Int} (v0 : 0 ≤ v) (w0 : 0 ≤ w) (v1 : v ≤ 1024000000) (w1 : w ≤ 1024000000) (h : c * c ≤ v * w) (hr : RV n d) (he : gN v w c * d = n * gD v w) : rN v w c = n ∧ rD v w c = d := by
  obtain ⟨a, b, _⟩ := red_in v0 w0 v1 w1 h
  have g := gap_in v0 w0 v1 w1 h
  refine rv_eq a hr ?_
  have e1 : rN v w c * d * gD v w = n * rD v w c * gD v w := by
    have : rN v w c * d * gD v w = rN v w c * gD v w * d := by grind
    rw [this, b]
    have : gN v w c * rD v w c * d = gN v w c * d * rD v w c := by grind
    rw [this, he]; grind
  exact Int.eq_of_mul_eq_mul_right (by omega) e1
theorem one_rv : RV 0 1 ∧ RV 1 1 ∧ RV 2 1 := ⟨⟨⟨by decide, by decide, by decide, by decide⟩, by decide⟩, ⟨⟨by decide, by decide, by decide, by decide⟩, by decide⟩, ⟨⟨by decide, by decide, by decide, by decide⟩, by decide⟩⟩
theorem gap_scale {v w c k : Int} (v0 : 0 ≤ v) (w0 : 0 ≤ w) (h : c * c ≤ v * w) (hk : 0 < k) : rN (k * k * v) w (k * c) = rN v w c ∧ rD (k * k * v) w (k * c) = rD v w c := by
  have hkk : 0 < k * k := Int.mul_pos hk hk
  rcases Classical.em (v = 0) with hv | hv
  · subst hv
    have e : k * k * 0 = 0 := by omega
    unfold rN rD gN gD
    rw [e]
    simp
  · have hv2 : k * k * v ≠ 0 := by have := Int.mul_pos hkk (show 0 < v by omega); omega
    rcases Classical.em (w = 0) with hw | hw
    · subst hw
      unfold rN rD gN gD
      rw [if_neg hv, if_neg hv2, if_neg hv, if_neg hv2]
      simp
    · have hs : sg (k * c) = sg c * (k * k) := by
        unfold sg
        rcases Int.lt_or_le c 0 with hc | hc
        · have : k * c < 0 := by have := Int.mul_pos hk (show 0 < -c by omega); have e : k * -c = -(k * c) := by grind
                                 omega
          rw [if_pos hc, if_pos this]; grind
        · have : 0 ≤ k * c := Int.mul_nonneg (by omega) hc
          rw [if_neg (by omega), if_neg (by omega)]; grind
      have eN : gN (k * k * v) w (k * c) = gN v w c * (k * k) := by
        unfold gN
        rw [if_neg hv, if_neg hv2, if_neg hw, if_neg hw, hs]; grind
      have eD : gD (k * k * v) w = gD v w * (k * k) := by
        unfold gD
        rw [if_neg hv, if_neg hv2, if_neg hw, if_neg hw]; grind
      have hg : 0 ≤ gN v w c := by
        unfold gN
        rw [if_neg hv, if_neg hw]
        have := sg_in h
        omega
      have hd : 0 < gD v w := by
        unfold gD
        rw [if_neg hv, if_neg hw]
        exact Int.mul_pos (by omega) (by omega)
      unfold rN rD
      rw [eN, eD]
      exact red_mul hg hd hkk
theorem gap_swap (v w c : Int) : rN v w c = rN w v c ∧ rD v w c = rD w v c := by
  have e1 : gN v w c = gN w v c := by unfold gN; rw [Int.mul_comm v w]; split <;> split <;> rfl
  have e2 : gD v w = gD w v := by unfold gD; rw [Int.mul_comm v w]; split <;> split <;> rfl
  unfold rN rD
  rw [e1, e2]
  exact ⟨rfl, rfl⟩
/-- the products of the samples -/
def pw (X Y : List Int) : List Int := List.zipWith (fun a b => a * b) X Y
theorem pw_len {X Y : List Int} (h : X.length = Y.length) : (pw X Y).length = X.length := by simp [pw, h]
theorem pw_at {X Y : List Int} (h : X.length = Y.length) (i : Nat) (hi : i < X.length) : (pw X Y).getD i 0 = X.getD i 0 * Y.getD i 0 := by
  have hj : i < Y.length := by omega
  rw [List.getD_eq_getElem?_getD, List.getD_eq_getElem?_getD, List.getD_eq_getElem?_getD, pw, List.getElem?_zipWith, List.getElem?_eq_getElem hi, List.getElem?_eq_getElem hj]
  rfl
theorem dot_pw (X Y : List Int) : dot X Y = su ix (pw X Y) := by
  induction X generalizing Y with
  | nil => rcases Y with _ | ⟨b, Y⟩ <;> rfl
  | cons a X ih =>
    rcases Y with _ | ⟨b, Y⟩
    · rfl
    · show a * b + dot X Y = a * b + su ix (pw X Y)
      rw [ih]
theorem mul_bd {A B x y : Int} (hA : 0 ≤ A) (hB : 0 ≤ B) (h1 : -A ≤ x) (h2 : x ≤ A) (h3 : -B ≤ y) (h4 : y ≤ B) : -(A * B) ≤ x * y ∧ x * y ≤ A * B := by
  have e1 : 0 ≤ (A - x) * (B + y) := Int.mul_nonneg (by omega) (by omega)
  have e2 : 0 ≤ (A + x) * (B - y) := Int.mul_nonneg (by omega) (by omega)
  have e3 : 0 ≤ (A - x) * (B - y) := Int.mul_nonneg (by omega) (by omega)
  have e4 : 0 ≤ (A + x) * (B + y) := Int.mul_nonneg (by omega) (by omega)
  have f1 : (A - x) * (B + y) + (A + x) * (B - y) = 2 * (A * B) - 2 * (x * y) := by grind
  have f2 : (A - x) * (B - y) + (A + x) * (B + y) = 2 * (A * B) + 2 * (x * y) := by grind
  omega
theorem pw_bd {A B : Int} {X Y : List Int} (hA : 0 ≤ A) (hB : 0 ≤ B) (h1 : Bd A X) (h2 : Bd B Y) : Bd (A * B) (pw X Y) := by
  induction X generalizing Y with
  | nil => intro x hx; simp [pw] at hx
  | cons a X ih =>
    rcases Y with _ | ⟨b, Y⟩
    · intro x hx; simp [pw] at hx
    · intro x hx
      rcases List.mem_cons.1 (show x ∈ (a * b) :: pw X Y from hx) with rfl | hx
      · have p := h1 a (by simp)
        have q := h2 b (by simp)
        exact mul_bd hA hB p.1 p.2 q.1 q.2
      · exact ih (fun y hy => h1 y (by simp [hy])) (fun y hy => h2 y (by simp [hy])) x hx
/-- affine copies -/
def af (s t : Int) (X : List Int) : List Int := X.map fun x => x * s + t
theorem af_su (s t : Int) (X : List Int) : su ix (af s t X) = s * su ix X + (X.length : Int) * t := by
  induction X with
  | nil => simp [af, su]
  | cons a X ih =>
    rw [show su ix (af s t (a :: X)) = (a * s + t) + su ix (af s t X) from rfl, ih, show su ix (a :: X) = a + su ix X from rfl, show ((a :: X).length : Int) = (X.length : Int) + 1 by simp]
    grind
theorem af_dot (s t p q : Int) (X Y : List Int) (h : X.length = Y.length) : dot (af s t X) (af p q Y) = s * p * dot X Y + s * q * su ix X + t * p * su ix Y + (X.length : Int) * (t * q) := by
  induction X generalizing Y with
  | nil =>
    rcases Y with _ | ⟨b, Y⟩
    · simp [af, su, dot]
    · simp at h
  | cons a X ih =>
    rcases Y with _ | ⟨b, Y⟩
    · simp at h
    · rw [show dot (af s t (a :: X)) (af p q (b :: Y)) = (a * s + t) * (b * p + q) + dot (af s t X) (af p q Y) from rfl, ih Y (by simpa using h), show dot (a :: X) (b :: Y) = a * b + dot X Y from rfl, show su ix (a :: X) = a + su ix X from rfl, show su ix (b :: Y) = b + su ix Y from rfl, show ((a :: X).length : Int) = (X.length : Int) + 1 by simp]
      grind
theorem af_at (s t : Int) (X : List Int) (i : Nat) (h : i < X.length) : (af s t X).getD i 0 = X.getD i 0 * s + t := by
  rw [List.getD_eq_getElem?_getD, List.getD_eq_getElem?_getD, af, List.getElem?_map, List.getElem?_eq_getElem h]
  rfl
theorem af_len (s t : Int) (X : List Int) : (af s t X).length = X.length := by simp [af]
theorem af_id (X : List Int) : af 1 0 X = X := by
  induction X with
  | nil => rfl
  | cons a X ih => show (a * 1 + 0) :: af 1 0 X = a :: X; rw [ih]; congr 1; omega
theorem af_pr (s t p q : Int) (X Y : List Int) (h : X.length = Y.length) : pr (af s t X) (af p q Y) = s * p * pr X Y := by
  unfold pr
  rw [af_dot _ _ _ _ _ _ h, af_su, af_su, af_len, ← h]
  grind
theorem af_vr (s t : Int) (X : List Int) : vr (af s t X) = s * s * vr X := by
  rw [← pr_self, af_pr _ _ _ _ _ _ rfl, pr_self]
/-- the centred samples -/
def cen (X : List Int) : List Int := af (X.length : Int) (-su ix X) X
theorem cen_su (X : List Int) : su ix (cen X) = 0 := by unfold cen; rw [af_su]; grind
theorem cen_dot {X Y : List Int} (h : X.length = Y.length) : dot (cen X) (cen Y) = (X.length : Int) * pr X Y := by
  unfold cen pr; rw [af_dot _ _ _ _ _ _ h, ← h]; grind
theorem cen_bd {X : List Int} (hs : Sam X) (h : X.length ≤ 32) : Bd 64000 (cen X) := by
  intro y hy
  obtain ⟨x, hx, rfl⟩ := List.mem_map.1 hy
  have a := hs x hx
  have b := su_in hs
  have c := mul_bd (A := 1000) (B := 32) (by decide) (by decide) (by omega) a.2 (show -32 ≤ (X.length : Int) by omega) (by omega)
  omega
/-- some sample is not as the first one -/
def spr (X : List Int) : Prop := vr X ≠ 0
theorem vr_two (X : List Int) (i : Nat) (hi : i < X.length) : (X.getD i 0 - X.getD 0 0) * (X.getD i 0 - X.getD 0 0) ≤ vr X := by
  rcases Nat.eq_zero_or_pos i with rfl | h0
  · have := vr_nn X; simpa using this
  · have h1 := vr_parts (X.take (i + 1)) (X.drop (i + 1))
    rw [List.take_append_drop] at h1
    have h2 := vr_nn (X.drop (i + 1))
    rw [take_snoc X i hi, vr_snoc] at h1
    have h3 := vr_nn (X.take i)
    rcases X with _ | ⟨a, X⟩
    · simp at hi
    · obtain ⟨j, rfl⟩ : ∃ j, i = j + 1 := ⟨i - 1, by omega⟩
      have e : difs ((a :: X).getD (j + 1) 0) ((a :: X).take (j + 1)) = ((a :: X).getD (j + 1) 0 - a) * ((a :: X).getD (j + 1) 0 - a) + difs ((a :: X).getD (j + 1) 0) (X.take j) := rfl
      have nn : ∀ x L, 0 ≤ difs x L := fun x L => by
        induction L with
        | nil => simp [difs]
        | cons y L ih => have := sq_nn (x - y); simp only [difs]; omega
      have h4 := nn ((a :: X).getD (j + 1) 0) (X.take j)
      rw [e] at h1
      have e2 : (a :: X).getD 0 0 = a := rfl
      rw [e2]
      omega
theorem vr_same (X : List Int) (h : ∀ i, i < X.length → X.getD i 0 = X.getD 0 0) : vr X = 0 := by
  have e : X = af 0 (X.getD 0 0) X := by
    apply List.ext_getElem?
    intro i
    rcases Nat.lt_or_ge i X.length with hi | hi
    · have := h i hi
      rw [List.getD_eq_getElem?_getD, List.getElem?_eq_getElem hi] at this
      rw [List.getElem?_eq_getElem hi, af, List.getElem?_map, List.getElem?_eq_getElem hi]
      simp only [Option.map_some, Option.getD_some] at *
      rw [this]; simp
    · rw [List.getElem?_eq_none hi, List.getElem?_eq_none (by rw [af_len]; exact hi)]
  rw [e, af_vr]
  omega
theorem su_rev (f : Int → Int) (X : List Int) : su f X.reverse = su f X := by
  induction X with
  | nil => rfl
  | cons a X ih => rw [List.reverse_cons, su_snoc, ih]; show _ = f a + su f X; omega
theorem dot_app (A B C D : List Int) (h : A.length = B.length) : dot (A ++ C) (B ++ D) = dot A B + dot C D := by
  induction A generalizing B with
  | nil =>
    rcases B with _ | ⟨b, B⟩
    · simp [dot]
    · simp at h
  | cons a A ih =>
    rcases B with _ | ⟨b, B⟩
    · simp at h
    · show a * b + dot (A ++ C) (B ++ D) = a * b + dot A B + dot C D
      rw [ih B (by simpa using h)]; omega
theorem dot_rev (X Y : List Int) (h : X.length = Y.length) : dot X.reverse Y.reverse = dot X Y := by
  induction X generalizing Y with
  | nil => rcases Y with _ | ⟨b, Y⟩ <;> simp_all [dot]
  | cons a X ih =>
    rcases Y with _ | ⟨b, Y⟩
    · simp at h
    · have hl : X.length = Y.length := by simpa using h
      rw [List.reverse_cons, List.reverse_cons, dot_app _ _ _ _ (by simpa using hl), ih Y hl]
      show dot X Y + dot [a] [b] = a * b + dot X Y
      simp [dot]; omega
theorem pr_rev (X Y : List Int) (h : X.length = Y.length) : pr X.reverse Y.reverse = pr X Y := by
  unfold pr; rw [dot_rev _ _ h, su_rev, su_rev, List.length_reverse]
theorem vr_rev (X : List Int) : vr X.reverse = vr X := by rw [← pr_self, pr_rev _ _ rfl, pr_self]
theorem vr_turn (X : List Int) (k : Nat) : vr (X.drop k ++ X.take k) = vr X := by
  have e : ∀ f, su f (X.drop k ++ X.take k) = su f X := fun f => by
    rw [su_append, Int.add_comm, ← su_append, List.take_append_drop]
  unfold vr
  rw [e, e, List.length_append, Nat.add_comm, ← List.length_append, List.take_append_drop]
end Go.Proofs.YtpbnabibnkohdaaGreatDoor.Wi
namespace Go.Proofs.YtpbnabibnkohdaaGreatDoor.Ra
open Go.ChangeShapes Go.WideShapes Go.RowKit Wo
set_option linter.unusedVariables false
theorem divisor_any (a b : Int) (ha : 0 ≤ a) (hb : 0 ≤ b) (w : World) :
    Calls Tryz.prog 44 #[.int .i64 a, .int .i64 b] w fun e w' => e = .returned (.int .i64 (gd a b)) ∧ ∃ n, w' = w.drewN n := by
  go_enter Tryz.func44, Tryz.ntmps44
  go_wp2
  go_loopw [0, 1] (fun x y wr => ∃ p q : Int, x = .int .i64 p ∧ y = .int .i64 q ∧ 0 ≤ p ∧ 0 ≤ q ∧ gd p q = gd a b ∧ ∃ n, wr = w.drewN n) (fun _ y _ => (intOf y).toNat)
  case atStart => exact ⟨a, b, rfl, rfl, ha, hb, rfl, 0, rfl⟩
  case round =>
    obtain ⟨p, q, rfl, rfl, hp, hq, hg, n, rfl⟩ := hrel
    rcases Classical.em (q = 0) with hz | hz
    · subst hz
      have HG := Lib.hid hg
      clear hg
      go_wp2
      go_ret
      exact ⟨ret_int (by rw [← HG.out, gd_zero hp]), n, rfl⟩
    · have hq1 : 0 < q := by omega
      have hne : (q != 0) = true := by simpa using hz
      have HG : Hid (gd q (p % q) = gd a b) := (gd_step hp hq1).trans hg
      have hm0 : 0 ≤ p % q := Int.emod_nonneg _ (by omega)
      have hm1 : p % q < q := Int.emod_lt_of_pos _ hq1
      clear hg
      go_wp2
      go_quiet (fail)
      go_wp2
      go_roundw
      case rel => exact ⟨q, p % q, rfl, rfl, by omega, hm0, HG.out, _, World.drewN_drewN _ _ _⟩
      case measure => simp [intOf]; omega
theorem inRange_any (n d : Int) (w : World) :
    Calls Tryz.prog 43 #[.agg #[.int .i64 n, .int .i64 d]] w fun e w' => e = .returned (.bool (rin n d)) ∧ Bel w w' := by
  rcases Classical.em (RIn n d) with h | h
  · rw [rin_yes h]
    obtain ⟨h1, h2, h3, h4⟩ := h
    have b1 : decide (0 ≤ n) = true := by simpa using h1
    have b2 : decide (n ≤ 2305843009213693952) = true := by simpa using h2
    have b3 : decide (1 ≤ d) = true := by simpa using h3
    have b4 : decide (d ≤ 1152921504606846976) = true := by simpa using h4
    go_enter Tryz.func43, Tryz.ntmps43
    go_wp2
    go_ret
    exact ⟨rfl, Bel.rf.al _⟩
  · rw [rin_no h]
    have h' : ¬ (0 ≤ n ∧ n ≤ 2305843009213693952 ∧ 1 ≤ d ∧ d ≤ 1152921504606846976) := h
    rcases Classical.em (0 ≤ n) with h1 | h1
    · have b1 : decide (0 ≤ n) = true := by simpa using h1
      rcases Classical.em (n ≤ 2305843009213693952) with h2 | h2
      · have b2 : decide (n ≤ 2305843009213693952) = true := by simpa using h2
        rcases Classical.em (1 ≤ d) with h3 | h3
        · have b3 : decide (1 ≤ d) = true := by simpa using h3
          have b4 : decide (d ≤ 1152921504606846976) = false := by simp; omega
          clear h h'
          go_enter Tryz.func43, Tryz.ntmps43
          go_wp2
          go_ret
          exact ⟨rfl, Bel.rf.al _⟩
        · have b3 : decide (1 ≤ d) = false := by simpa using h3
          clear h h'
          go_enter Tryz.func43, Tryz.ntmps43
          go_wp2
          go_ret
          exact ⟨rfl, Bel.rf.al _⟩
      · have b2 : decide (n ≤ 2305843009213693952) = false := by simpa using h2
        clear h h'
        go_enter Tryz.func43, Tryz.ntmps43
        go_wp2
        go_ret
        exact ⟨rfl, Bel.rf.al _⟩
    · have b1 : decide (0 ≤ n) = false := by simpa using h1
      clear h h'
      go_enter Tryz.func43, Tryz.ntmps43
      go_wp2
      go_ret
      exact ⟨rfl, Bel.rf.al _⟩
theorem make_bad (n d : Int) (w : World) (h : n < 0 ∨ d < 1) :
    Calls Tryz.prog 103 #[.int .i64 n, .int .i64 d] w fun e w' => e = .returned (.tuple #[.agg #[.int .i64 0, .int .i64 0], .int .i64 1]) ∧ Bel w w' := by
  rcases Classical.em (n < 0) with h1 | h1
  · have b1 : decide (n < 0) = true := by simpa using h1
    clear h
    go_enter Tryz.func103, Tryz.ntmps103
    go_wp2
    exact bodyPost_ret (v := .tuple #[.agg #[.int .i64 0, .int .i64 0], .int .i64 1]) (by simp [results, Tryz.results103, go_sem]) rfl ⟨rfl, Bel.rf.al _⟩
  · have b1 : decide (n < 0) = false := by simpa using h1
    have b2 : decide (d < 1) = true := by simp; omega
    clear h
    go_enter Tryz.func103, Tryz.ntmps103
    go_wp2
    exact bodyPost_ret (v := .tuple #[.agg #[.int .i64 0, .int .i64 0], .int .i64 1]) (by simp [results, Tryz.results103, go_sem]) rfl ⟨rfl, Bel.rf.al _⟩
set_option maxHeartbeats 400000 in
theorem make_in (n d : Int) (w : World) (h1 : 0 ≤ n) (h2 : 1 ≤ d) (h3 : rin (n / gd n d) (d / gd n d) = true) (q1 : n ≤ 9223372036854775807) (q2 : d ≤ 9223372036854775807) :
    Calls Tryz.prog 103 #[.int .i64 n, .int .i64 d] w fun e w' => e = .returned (.tuple #[.agg #[.int .i64 (n / gd n d), .int .i64 (d / gd n d)], .int .i64 0]) ∧ Bel w w' := by
  have b1 : decide (n < 0) = false := by simpa using h1
  have b2 : decide (d < 1) = false := by simpa using h2
  have g1 := gd_pos (a := n) (b := d) (by omega)
  have g2 := gd_le_right (a := n) (b := d) (by omega)
  have g3 : gd n d ≠ 0 := by omega
  have e1 : 0 ≤ n / gd n d := Int.ediv_nonneg h1 (by omega)
  have e2 : 0 ≤ d / gd n d := Int.ediv_nonneg (by omega) (by omega)
  have e3 : n / gd n d ≤ n := Int.ediv_le_self _ h1
  have e4 : d / gd n d ≤ d := Int.ediv_le_self _ (by omega)
  go_enter Tryz.func103, Tryz.ntmps103
  go_wp2_with (first | (go_at_call 44; refine (divisor_any _ _ h1 (by omega) _).mono ?_; rintro e w2 ⟨rfl, m, rfl⟩))
  go_region
  go_wp2_with (first | (go_at_call 43; refine (inRange_any _ _ _).mono ?_; rintro e w3 ⟨rfl, hb⟩; obtain ⟨hc, hf⟩ := hb.cells; have hsz := hb.size; have B0 : Bk w3 w.heap.size 42 #[.int .i64 0, .int .i64 0] := (((Bk.nw _ _ _).drwN _).al _).bel hb; have hz0 := B0.lt; have k0 : w3.cell? ⟨w.heap.size, 0, none⟩ = some (.int .i64 0) := B0.cell 0; have k1 : w3.cell? ⟨w.heap.size, 1, none⟩ = some (.int .i64 0) := B0.cell 1))
  exact bodyPost_ret (v := .tuple #[.agg #[.int .i64 (n / gd n d), .int .i64 (d / gd n d)], .int .i64 0]) (by simp [results, Tryz.results103, go_sem, k0, k1]) rfl ⟨rfl, (by repeat (first | exact Bel.rf | (with_reducible refine Bel.st ?_ (by simp) _) | (with_reducible refine Bel.drwN ?_ _) | (with_reducible refine Bel.drw ?_) | (with_reducible refine Bel.al ?_ _) | refine Bel.tr ?_ (by assumption)))⟩
end Go.Proofs.YtpbnabibnkohdaaGreatDoor.Ra
namespace Go.Proofs.YtpbnabibnkohdaaGreatDoor.Ra
open Go.ChangeShapes Go.WideShapes Go.RowKit Wo
set_option linter.unusedVariables false
theorem cmpI_sub {x y u v : Int} (h : x - y = u - v) : cmpI x y = cmpI u v := by
  rcases Int.lt_trichotomy x y with g | g | g
  · rw [cmpI_lt g, cmpI_lt (by omega)]
  · rw [cmpI_eq g, cmpI_eq (by omega)]
  · rw [cmpI_gt g, cmpI_gt (by omega)]
theorem quot_lt {a b c d p q r s : Int} (hb : 1 ≤ b) (hd : 1 ≤ d) (ea : a = p * b + r) (ec : c = q * d + s) (r1 : r < b) (s0 : 0 ≤ s) (h : p < q) : a * d < c * b := by
  have h1 : (p + 1) * b ≤ q * b := Int.mul_le_mul_of_nonneg_right (by omega) (by omega)
  have h2 : (p + 1) * b = p * b + b := by grind
  have h3 : a < q * b := by omega
  have h4 : a * d < q * b * d := Int.mul_lt_mul_of_pos_right h3 (by omega)
  have h5 : c * b = q * b * d + s * b := by rw [ec]; grind
  have h6 : 0 ≤ s * b := Int.mul_nonneg s0 (by omega)
  omega
end Go.Proofs.YtpbnabibnkohdaaGreatDoor.Ra
namespace Go.Proofs.YtpbnabibnkohdaaGreatDoor.Nr
open Go.ChangeShapes Go.WideShapes Go.RowKit Wo Sr Wi Ra
set_option linter.unusedVariables false
theorem bel_grown {w a b : World} {row : Option Nat} (h : Bel w a) (hg : a.grownBy b row) (hr : ∀ q, row = some q → w.heap.size ≤ q) : Bel w b := Below.grown h hg h.size hr
theorem own_base {w : World} {base size n : Nat} {e : TypeId} {v : Value} {xs : List Value} (h : w.ownsRow base e size v n xs) : ∀ q, v.ownBlock = some q → base ≤ q := fun q e => (h.lt q e).1
theorem zs_one (M : List Int) : ∀ u ∈ zs M, u.oneCell' = true := by
  intro u hu
  obtain ⟨x, _, rfl⟩ := List.mem_map.1 hu
  rfl
theorem zi_news {w : World} {ad : Addr} {m : Nat} {M : List Int} (hz : Zi w (some ad) m M) : ∀ j u, (zs M)[j]? = some u → w.cell? (ad.add j) = some u := by
  intro j u hu
  have hj : j < M.length := by
    rcases Nat.lt_or_ge j M.length with h | h
    · exact h
    · rw [List.getElem?_eq_none (by rw [zs_len]; exact h)] at hu; cases hu
  obtain ⟨ad', e, _, hcc⟩ := hz.2 (by have := hz.1; omega)
  cases e
  rw [zs_at hj] at hu
  cases hu
  exact hcc j (by have := hz.1; omega)
theorem run_app (w : World) (ty : TypeId) (base : Nat) (v : Value) (n : Nat) (L : List Int) (hown : w.ownsRow base 3 1 v n (zs L)) (ad : Addr) (m c : Nat) (M : List Int) (hz : Zi w (some ad) m M) (hn : n + m ≤ 1000000) (hbase : base ≤ w.heap.size) :
    ∃ v' w', (Builtin.append_ #[22, 22] ty #[v, .slice (some ad) m c]).run Tryz.prog w = .ok v' w' ∧ w'.ownsRow base 3 1 v' (n + m) (zs (L ++ M)) ∧ w.grownBy w' v.ownBlock ∧ (v'.ownBlock = v.ownBlock ∨ v'.ownBlock = some w.heap.size) := by
  obtain ⟨i0, hi0, hz0, hz1, hz2⟩ := info_parts info_int
  obtain ⟨v', w', hr, h2, h3, _, h5⟩ := run_append_own_at (P := Tryz.prog) w base 22 ty 3 i0 (.int .i64 0) 1 8 Tryz.underlying22 hi0 hz0 hz1 hz2 (by rfl) (by omega) v n (zs L) hown ad m c (zs M) (by rw [zs_len, hz.1]; omega) (zi_news hz) (zs_one M) (by unfold maxLen; omega) (by omega) hbase
  exact ⟨v', w', hr, by rw [zs_app]; exact h2, h3, h5⟩
theorem wp_app (w : World) {o : Oper} {a : Act} {K : Act → World → Prop} {Q : Exit → Act → World → Prop} (s x : Operand)
    (ho : o.op = .call { callee := .builtin .append, args := #[s, x], argTypes := #[22, 22] })
    (base : Nat) (v : Value) (n : Nat) (L : List Int) (hs : a.eval s = v) (hown : w.ownsRow base 3 1 v n (zs L)) (ad : Addr) (m c : Nat) (M : List Int) (hx : a.eval x = .slice (some ad) m c) (hz : Zi w (some ad) m M) (hn : n + m ≤ 1000000) (hbase : base ≤ w.heap.size)
    (h : ∀ v' w', w'.ownsRow base 3 1 v' (n + m) (zs (L ++ M)) → w.grownBy w' v.ownBlock → (v'.ownBlock = v.ownBlock ∨ v'.ownBlock = some w.heap.size) → K (a.put o.dst v') w') : o.wp Tryz.prog a w K Q := by
  obtain ⟨v', w', hr, h2, h3, h5⟩ := run_app w o.type base v n L hown ad m c M hz hn hbase
  unfold Oper.wp execOp
  simp only [ho, resolve, invoke, builtin, Sem.run_bind, Sem.run_pure, Result.andThen_ok, List.map_toArray, List.map_cons, List.map_nil, hs, hx, hr]
  exact h v' w' h2 h3 h5
/-- at a step of a region that draws its order -/
theorem step_app (w : World) {ops : Array Oper} {o : Oper} {a : Act} {K : Act → World → Prop} {Q : Exit → Act → World → Prop} {E : Prop} (hgd : o.guard = none) (s x : Operand)
    (ho : o.op = .call { callee := .builtin .append, args := #[s, x], argTypes := #[22, 22] })
    (base : Nat) (v : Value) (n : Nat) (L : List Int) (hs : a.eval s = v) (hown : w.ownsRow base 3 1 v n (zs L)) (ad : Addr) (m c : Nat) (M : List Int) (hx : a.eval x = .slice (some ad) m c) (hz : Zi w (some ad) m M) (hn : n + m ≤ 1000000) (hbase : base ≤ w.heap.size)
    (h : ∀ v' w', w'.ownsRow base 3 1 v' (n + m) (zs (L ++ M)) → w.grownBy w' v.ownBlock → (v'.ownBlock = v.ownBlock ∨ v'.ownBlock = some w.heap.size) → K (a.put o.dst v') w') :
    if Region.wanted o (yielded ops a.tmps) = true then Oper.wp Tryz.prog o a w K Q else E := by
  have hw : Region.wanted o (yielded ops a.tmps) = true := by simp [Region.wanted, hgd]
  rw [if_pos hw]
  exact wp_app w s x ho base v n L hs hown ad m c M hx hz hn hbase h
/-- at the list of a plain region -/
theorem list_app (w : World) {ops : Array Oper} {rest : List Oper} {o : Oper} {a : Act} {Q : Exit → Act → World → Prop} (hgd : o.guard = none) (s x : Operand)
    (ho : o.op = .call { callee := .builtin .append, args := #[s, x], argTypes := #[22, 22] })
    (base : Nat) (v : Value) (n : Nat) (L : List Int) (hs : a.eval s = v) (hown : w.ownsRow base 3 1 v n (zs L)) (ad : Addr) (m c : Nat) (M : List Int) (hx : a.eval x = .slice (some ad) m c) (hz : Zi w (some ad) m M) (hn : n + m ≤ 1000000) (hbase : base ≤ w.heap.size)
    (h : ∀ v' w', w'.ownsRow base 3 1 v' (n + m) (zs (L ++ M)) → w.grownBy w' v.ownBlock → (v'.ownBlock = v.ownBlock ∨ v'.ownBlock = some w.heap.size) → wpList Tryz.prog ops Q rest (a.put o.dst v') w') : wpList Tryz.prog ops Q (o :: rest) a w :=
  wpList_plain hgd fun _ hK => wp_app w s x ho base v n L hs hown ad m c M hx hz hn hbase fun v' w' h2 h3 h5 => hK _ _ (h v' w' h2 h3 h5)
/-- two rows of the call's own, apart from each other; below B nothing has changed -/
def Tw (B : Nat) (w0 W : World) (v : Value) (n : Nat) (L : List Int) (u : Value) (m : Nat) (M : List Int) : Prop :=
  W.ownsRow B 3 1 v n (zs L) ∧ W.ownsRow B 3 1 u m (zs M) ∧ (∀ b, v.ownBlock = some b → u.ownBlock ≠ some b) ∧ Below B w0 W ∧ B ≤ W.heap.size
theorem Tw.bel {B n m : Nat} {w0 W W' : World} {v u : Value} {L M : List Int} (h : Tw B w0 W v n L u m M) (hb : Bel W W') : Tw B w0 W' v n L u m M :=
  ⟨own_bel h.1 hb, own_bel h.2.1 hb, h.2.2.1, Below.trans h.2.2.2.1 (Below.mono hb h.2.2.2.2), by have := hb.size; have := h.2.2.2.2; omega⟩
theorem own_kept {w w' : World} {base n : Nat} {v : Value} {L : List Int} {row : Option Nat} (h : w.ownsRow base 3 1 v n (zs L)) (hg : w.grownBy w' row) (hne : ∀ b, v.ownBlock = some b → row ≠ some b) : w'.ownsRow base 3 1 v n (zs L) :=
  h.kept hg (by
    rcases hob : v.ownBlock with _ | q
    · exact .inl rfl
    · exact .inr (fun e => hne q hob e.symm))
theorem Tw.app1 {B n m n' : Nat} {w0 W W' : World} {v u v' : Value} {L M L' : List Int} (h : Tw B w0 W v n L u m M) (ho : W'.ownsRow B 3 1 v' n' (zs L')) (hg : W.grownBy W' v.ownBlock) (hat : v'.ownBlock = v.ownBlock ∨ v'.ownBlock = some W.heap.size) : Tw B w0 W' v' n' L' u m M := by
  obtain ⟨h1, h2, h3, h4, h5⟩ := h
  refine ⟨ho, own_kept h2 hg (fun b e e2 => h3 b e2 e), fun b e e2 => ?_, Below.grown h4 hg h5 (own_base h1), by have := hg.size; omega⟩
  rcases hat with hat | hat
  · exact h3 b (hat ▸ e) e2
  · rw [hat] at e
    cases e
    have := (h2.lt _ e2).2
    omega
theorem Tw.app2 {B n m m' : Nat} {w0 W W' : World} {v u u' : Value} {L M M' : List Int} (h : Tw B w0 W v n L u m M) (ho : W'.ownsRow B 3 1 u' m' (zs M')) (hg : W.grownBy W' u.ownBlock) (hat : u'.ownBlock = u.ownBlock ∨ u'.ownBlock = some W.heap.size) : Tw B w0 W' v n L u' m' M' := by
  obtain ⟨h1, h2, h3, h4, h5⟩ := h
  refine ⟨own_kept h1 hg (fun b e e2 => h3 b e e2), ho, fun b e e2 => ?_, Below.grown h4 hg h5 (own_base h2), by have := hg.size; omega⟩
  rcases hat with hat | hat
  · exact h3 b e (hat ▸ e2)
  · rw [hat] at e2
    cases e2
    have := (h1.lt _ e).2
    omega
theorem Tw.o1 {B n m : Nat} {w0 W : World} {v u : Value} {L M : List Int} (h : Tw B w0 W v n L u m M) : W.ownsRow B 3 1 v n (zs L) := h.1
theorem Tw.o2 {B n m : Nat} {w0 W : World} {v u : Value} {L M : List Int} (h : Tw B w0 W v n L u m M) : W.ownsRow B 3 1 u m (zs M) := h.2.1
theorem Tw.base {B n m : Nat} {w0 W : World} {v u : Value} {L M : List Int} (h : Tw B w0 W v n L u m M) : B ≤ W.heap.size := h.2.2.2.2
theorem Tw.low {B n m : Nat} {w0 W : World} {v u : Value} {L M : List Int} (h : Tw B w0 W v n L u m M) : Below B w0 W := h.2.2.2.1
theorem Tw.nil {B : Nat} {w0 W : World} (hb : Below B w0 W) (hB : B ≤ W.heap.size) : Tw B w0 W (.slice none 0 0) 0 [] (.slice none 0 0) 0 [] :=
  ⟨World.ownsRow_nil _ _ _ _, World.ownsRow_nil _ _ _ _, fun b (e : none = some b) => (by cases e), hb, hB⟩
/-- a block made in the round stays as it is when a row of before is appended to -/
theorem bk_grown {W W' : World} {g N : Nat} {t : TypeId} {cs : Array Value} {row : Option Nat} (h : Bk W g t cs) (hg : W.grownBy W' row) (hr : ∀ b, row = some b → b < N) (hN : N ≤ g) : Bk W' g t cs :=
  (hg.block g h.lt (fun e => by have := hr g e.symm; omega)).trans h
theorem rev_at (L : List Int) (t : Nat) (h : t < L.length) : L.reverse.getD t 0 = L.getD (L.length - 1 - t) 0 := by
  rw [List.getD_eq_getElem?_getD, List.getD_eq_getElem?_getD, List.getElem?_reverse h]
/-- a gap is 1 only where the product is 0, and less where it is greater -/
theorem gap_one {v w c : Int} (v0 : 0 ≤ v) (w0 : 0 ≤ w) (v1 : v ≤ 1024000000) (w1 : w ≤ 1024000000) (h : c * c ≤ v * w) :
    ((rN v w c = 1 ∧ rD v w c = 1) ↔ (c = 0 ∧ (v ≠ 0 ∨ w ≠ 0))) ∧ (rN v w c < rD v w c ↔ (0 < c ∨ (v = 0 ∧ w = 0))) ∧ rN v w c ≤ 2 * rD v w c := by
  obtain ⟨a1, a2, a3, a4, a5, a6⟩ := red_in v0 w0 v1 w1 h
  have g := gap_in v0 w0 v1 w1 h
  have hD : 0 < gD v w := by omega
  have hzero : v = 0 ∨ w = 0 → c = 0 := fun h0 => by
    have : v * w = 0 := by rcases h0 with rfl | rfl <;> simp
    have h2 := sq_nn c
    have : c * c = 0 := by omega
    rcases Int.mul_eq_zero.1 this with h | h <;> exact h
  have hle : ∀ k : Int, rN v w c < k * rD v w c ↔ gN v w c < k * gD v w := fun k => by
    constructor
    · intro hh
      have h2 := Int.mul_lt_mul_of_pos_right hh hD
      rw [a2, show k * rD v w c * gD v w = k * gD v w * rD v w c by grind] at h2
      exact Int.lt_of_mul_lt_mul_right h2 (by omega)
    · intro hh
      have h2 := Int.mul_lt_mul_of_pos_right hh (show 0 < rD v w c by omega)
      rw [← a2, show k * gD v w * rD v w c = k * rD v w c * gD v w by grind] at h2
      exact Int.lt_of_mul_lt_mul_right h2 (by omega)
  have heq : (rN v w c = 1 ∧ rD v w c = 1) ↔ gN v w c = gD v w := by
    constructor
    · rintro ⟨h1, h2⟩
      rw [h1, h2] at a2
      omega
    · intro he
      exact red_cross v0 w0 v1 w1 h one_rv.2.1 (by omega)
  have key : gN v w c - gD v w = 0 ↔ (c = 0 ∧ (v ≠ 0 ∨ w ≠ 0)) := by
    unfold gN gD
    rcases Classical.em (v = 0) with hv | hv
    · rw [if_pos hv, if_pos hv]
      have := hzero (.inl hv)
      rcases Classical.em (w = 0) with hw | hw
      · rw [if_pos hw]; omega
      · rw [if_neg hw]; omega
    · rw [if_neg hv, if_neg hv]
      rcases Classical.em (w = 0) with hw | hw
      · rw [if_pos hw, if_pos hw]
        have := hzero (.inr hw)
        omega
      · rw [if_neg hw, if_neg hw]
        have := sg_zero c
        omega
  have key2 : gN v w c < gD v w ↔ (0 < c ∨ (v = 0 ∧ w = 0)) := by
    unfold gN gD
    rcases Classical.em (v = 0) with hv | hv
    · rw [if_pos hv, if_pos hv]
      have := hzero (.inl hv)
      rcases Classical.em (w = 0) with hw | hw
      · rw [if_pos hw]; omega
      · rw [if_neg hw]; omega
    · rw [if_neg hv, if_neg hv]
      rcases Classical.em (w = 0) with hw | hw
      · rw [if_pos hw, if_pos hw]
        have := hzero (.inr hw)
        omega
      · rw [if_neg hw, if_neg hw]
        have := sg_pos c
        omega
  refine ⟨heq.trans ⟨fun e => key.1 (by omega), fun e => by have := key.2 e; omega⟩, ?_, ?_⟩
  · have := hle 1
    rw [Int.one_mul, Int.one_mul] at this
    exact this.trans key2
  · rcases Int.lt_or_le (2 * rD v w c) (rN v w c) with hh | hh
    · exfalso
      have h2 := Int.mul_lt_mul_of_pos_right hh hD
      rw [a2, show 2 * rD v w c * gD v w = 2 * gD v w * rD v w c by grind] at h2
      have h3 := Int.lt_of_mul_lt_mul_right h2 (show 0 ≤ rD v w c by omega)
      omega
    · exact hh
/-- the gap to a copy that is scaled -/
theorem gap_self {v f : Int} (v0 : 0 ≤ v) (f0 : 1 ≤ f) (v1 : v ≤ 1024000000) (w1 : f * f * v ≤ 1024000000) :
    (rN v (f * f * v) (f * v) = 0 ∧ rD v (f * f * v) (f * v) = 1) ∧ (rN v (f * f * v) (-f * v) = (if v = 0 then 0 else 2) ∧ rD v (f * f * v) (-f * v) = 1) := by
  have hff : 0 < f * f := Int.mul_pos (by omega) (by omega)
  have w0 : 0 ≤ f * f * v := Int.mul_nonneg (by omega) v0
  have cs : f * v * (f * v) ≤ v * (f * f * v) := by
    have : f * v * (f * v) = v * (f * f * v) := by grind
    omega
  have cs2 : -f * v * (-f * v) ≤ v * (f * f * v) := by
    have : -f * v * (-f * v) = v * (f * f * v) := by grind
    omega
  rcases Classical.em (v = 0) with hv | hv
  · subst hv
    rw [if_pos rfl]
    refine ⟨red_cross (by decide) w0 (by decide) w1 cs one_rv.1 ?_, red_cross (by decide) w0 (by decide) w1 cs2 one_rv.1 ?_⟩
    · unfold gN; simp
    · unfold gN; simp
  · have hw : f * f * v ≠ 0 := by have := Int.mul_pos hff (show 0 < v by omega); omega
    have hpos : 0 < f * v := Int.mul_pos (by omega) (by omega)
    have hneg : -f * v < 0 := by have : -f * v = -(f * v) := by grind
                                 omega
    rw [if_neg hv]
    refine ⟨red_cross v0 w0 v1 w1 cs one_rv.1 ?_, red_cross v0 w0 v1 w1 cs2 one_rv.2.2 ?_⟩
    · unfold gN sg
      rw [if_neg hv, if_neg hw, if_neg (by omega)]
      grind
    · unfold gN gD sg
      rw [if_neg hv, if_neg hv, if_neg hw, if_neg hw, if_pos hneg]
      grind
/-- t samples have been divided by 5 -/
def q5 (a : Int) : Int := a.tdiv 5
theorem q5_in {a : Int} (h0 : -1000 ≤ a) (h1 : a ≤ 1000) : -200 ≤ q5 a ∧ q5 a ≤ 200 := by
  unfold q5
  rcases Int.lt_or_le a 0 with h | h
  · have e : a.tdiv 5 = -((-a).tdiv 5) := by rw [Int.neg_tdiv, Int.neg_neg]
    rw [e, Int.tdiv_eq_ediv_of_nonneg (by omega)]
    omega
  · rw [Int.tdiv_eq_ediv_of_nonneg (by omega)]
    omega
def mix (f : Int → Int) (L : List Int) (t : Nat) : List Int := (L.map f).take t ++ L.drop t
theorem mix_len (f : Int → Int) (L : List Int) (t : Nat) : (mix f L t).length = L.length := by simp [mix]; omega
theorem mix_at (f : Int → Int) (L : List Int) (t : Nat) (h : t < L.length) : (mix f L t).getD t 0 = L.getD t 0 := by
  simp only [mix, List.getD_eq_getElem?_getD]
  rw [List.getElem?_append_right (by simp; omega)]
  simp [List.length_take, Nat.min_eq_left (Nat.le_of_lt h)]
theorem mix_set (f : Int → Int) (L : List Int) (t : Nat) (h : t < L.length) : (mix f L t).set t (f (L.getD t 0)) = mix f L (t + 1) := by
  unfold mix
  have e : L.drop t = L.getD t 0 :: L.drop (t + 1) := by
    rw [List.drop_eq_getElem_cons h, List.getD_eq_getElem?_getD, List.getElem?_eq_getElem h]; rfl
  rw [e, List.set_append_right _ _ (by simp; omega)]
  have e2 : t - ((L.map f).take t).length = 0 := by simp; omega
  rw [e2, List.set_cons_zero, take_snoc (L.map f) t (by simpa using h), List.append_assoc]
  congr 2
  simp [List.getD_eq_getElem?_getD, h]
theorem mix_all (f : Int → Int) (L : List Int) : mix f L L.length = L.map f := by
  unfold mix
  rw [List.drop_length, List.append_nil, List.take_of_length_le (by simp)]
theorem map_at (f : Int → Int) (L : List Int) (t : Nat) (h : t < L.length) : (L.map f).getD t 0 = f (L.getD t 0) := by
  rw [List.getD_eq_getElem?_getD, List.getD_eq_getElem?_getD, List.getElem?_map, List.getElem?_eq_getElem h]; rfl
/-- a row of below B is as it was -/
theorem own_blw {w w' : World} {B base h n c : Nat} {xs : List Value} {e : TypeId} (hown : w.ownsRow base e 1 (.slice (some ⟨h, 0, none⟩) n c) n xs) (hb : Below B w w') (hB : h < B) : w'.ownsRow base e 1 (.slice (some ⟨h, 0, none⟩) n c) n xs := by
  refine ⟨hown.1, ?_⟩
  rcases hown.2 with ⟨h0, _⟩ | ⟨g, cap, cur, e1, hbb, hg, rest⟩
  · cases h0
  · have e2 := e1
    injection e1 with e1 _ _
    injection e1 with e1
    cases e1
    exact .inr ⟨h, cap, cur, e2, hbb, (Below.block hb h hB).trans hg, rest⟩
/-- a block of one number, new -/
theorem zi_one {W : World} {g : Nat} {x : Int} (hb : Bk W g 3 #[.int .i64 x]) : Zi W (some ⟨g, 0, none⟩) 1 [x] := zi_bk (L := [x]) hb 1 rfl
/-- gaps have the order of the products, from the greatest to the least -/
theorem gap_ord {v w m n : Int} (v0 : 0 < v) (w0 : 0 < w) (v1 : v ≤ 1024000000) (w1 : w ≤ 1024000000) (h : m * m ≤ v * w) (k : n * n ≤ v * w) :
    (rN v w m * rD v w n < rN v w n * rD v w m ↔ n < m) ∧ ((rN v w m = rN v w n ∧ rD v w m = rD v w n) ↔ m = n) := by
  obtain ⟨a1, a2, a3, a4, a5, a6⟩ := red_in (v := v) (w := w) (c := m) (by omega) (by omega) v1 w1 h
  obtain ⟨b1, b2, b3, b4, b5, b6⟩ := red_in (v := v) (w := w) (c := n) (by omega) (by omega) v1 w1 k
  have hD : 0 < v * w := Int.mul_pos v0 w0
  have so := sg_ord n m
  have eD : gD v w = v * w := by unfold gD; rw [if_neg (by omega), if_neg (by omega)]
  have eN : ∀ c, gN v w c = v * w - sg c := fun c => by unfold gN; rw [if_neg (by omega), if_neg (by omega)]
  rw [eD, eN] at a2 b2
  generalize rN v w m = x at *
  generalize rD v w m = y at *
  generalize rN v w n = p at *
  generalize rD v w n = q at *
  generalize v * w = D at *
  have hP : 0 < y * q := Int.mul_pos (by omega) (by omega)
  have e1 : x * q * D = (D - sg m) * (y * q) := by
    have : x * q * D = x * D * q := by grind
    rw [this, a2]; grind
  have e2 : p * y * D = (D - sg n) * (y * q) := by
    have : p * y * D = p * D * y := by grind
    rw [this, b2]; grind
  have key : x * q < p * y ↔ n < m := by
    rw [← so.1]
    constructor
    · intro g
      have g2 := Int.mul_lt_mul_of_pos_right g hD
      rw [e1, e2] at g2
      have := Int.lt_of_mul_lt_mul_right g2 (by omega)
      omega
    · intro g
      have g2 : (D - sg m) * (y * q) < (D - sg n) * (y * q) := Int.mul_lt_mul_of_pos_right (by omega) hP
      rw [← e1, ← e2] at g2
      exact Int.lt_of_mul_lt_mul_right g2 (by omega)
  refine ⟨key, ⟨?_, ?_⟩⟩
  · rintro ⟨h1, h2⟩
    have e3 : (D - sg m) * (y * q) = (D - sg n) * (y * q) := by rw [← e1, ← e2, h1, h2]
    have := Int.eq_of_mul_eq_mul_right (by omega) e3
    have := (so.2).1 (by omega)
    omega
  · rintro rfl
    refine rv_eq a1 b1 ?_
    have e3 : x * q * D = p * y * D := by rw [e1, e2]
    exact Int.eq_of_mul_eq_mul_right (by omega) e3
end Go.Proofs.YtpbnabibnkohdaaGreatDoor.Nr
