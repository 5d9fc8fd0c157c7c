/- That the law EditMoves returns true for every input that can be read, and leaves its arguments as they were; no further condition. -/
import Derived.Test.YtkjffielnmdpcaaRows
import Derived.WalkKit
import Derived.ProofKit
import Derived.OpenShut
import Derived.Test.YtkjffielnmdpcaaWords
import Derived.Test.YtkjffielnmdpcaaSrcNew0
import Derived.Test.YtkjffielnmdpcaaEditAwake
import Derived.Test.YtkjffielnmdpcaaEdB
import Derived.ShutString
import Derived.ChangeOld
import Derived.Below
namespace Go.Proofs.Ytkjffielnmdpcaa.editMoves
open Go.ChangeShapes Go.WideShapes Go.ChangeAt Go.RowKit Wo
open Go.ChangeMaps (open_string shut_string)
set_option linter.unusedVariables false

theorem own : ownKnob Try.prog.godebug = none := by kernel_rfl
theorem laidOut : laidOutB Try.prog = true := by kernel_rfl

/-- WHAT THE WALK IS TOLD OF A SLICE OF INTEGERS THAT CAME IN: it is nil; or it leads to a row of 'cap' cells, the numbers 'zs' (the first 'len' are its elements, the rest its spare room), each fitting its kind. -/
def IsRow (k : IntKind) (w : World) (a : Option Addr) (len cap : Nat) (zs : List Int) : Prop :=
  (a = none ∧ len = 0 ∧ cap = 0 ∧ zs = []) ∨
  ∃ x, a = some x ∧ len ≤ cap ∧ cap ≤ maxLen ∧ zs.length = cap ∧ (∀ i, i < zs.length → w.cell? (x.add i) = some (.int k (zs.getD i 0))) ∧ ∀ n ∈ zs, (Lit.int k n).wf = true

open Go.Proofs.Ytkjffielnmdpcaa.Ed Go.Proofs.Ytkjffielnmdpcaa.Wi Go.Proofs.Ytkjffielnmdpcaa.Wo Go.Proofs.Ytkjffielnmdpcaa.Sr in
set_option maxHeartbeats 16000000 in
set_option maxRecDepth 100000 in
theorem walk (a0 : Option Addr) (len0 cap0 : Nat) (z0 : List Int) (a1 : Int) (a2 : Int) (w : World) (w0 : IsRow .i64 w a0 len0 cap0 z0) (w1 : (Lit.int .i8 a1).wf = true) (w2 : (Lit.int .u8 a2).wf = true) :
    Calls Try.prog 12 #[.slice a0 len0 cap0, .int .i8 a1, .int .u8 a2] w fun e w' => e = .returned (.bool true) ∧ Below w.heap.size w w' := by
  have b1 := bounds_i8 w1
  obtain ⟨j1, j2⟩ := b1
  have b2 := bounds_u8 w2
  obtain ⟨i1, i2⟩ := b2
  have HWF := Lib.hid (And.intro w1 w2)
  clear w1 w2
  have AW : Hid (∀ W, Calls Try.prog 30 #[] W fun e w' => e = .returned (.bool true) ∧ Bel W w') := awake_any
  go_enter Try.func12, Try.ntmps12
  go_wp2_with fail
  go_at_call 14
  refine (new_any a0 len0 cap0 z0 w w0).mono ?_
  rintro e v1 ⟨q, rfl, hq, ho1, hb1⟩
  have HO := Lib.hid ho1
  have HBa : Hid (Bel w v1) := hb1
  clear ho1 hb1
  go_wp2_with fail
  go_at_call 25
  refine (some_any q _ HO.out).mono ?_
  rintro e v2 ⟨xa, xb, ya, yb, n, m, L, M, g, rfl, n1, n2, m1, m2, hxy, hcx, hcy, g0, g1, hox, hoy, lL, lM, sL, sM, ho2, hc2⟩
  have HBb : Hid (Bel w v2) := Bel.ch HBa.out hc2 (by have := hq;  omega)
  have zx : Zi v2 (some ⟨xa, 0, none⟩) n L := own_zi hox lL
  have zy : Zi v2 (some ⟨ya, 0, none⟩) m M := own_zi hoy lM
  have hxv := hox.lt xa rfl
  have hyv := hoy.lt ya rfl
  have HOX := Lib.hid hox
  have HOY := Lib.hid hoy
  clear ho2 hc2 hox hoy
  have hB1 := HBa.out.size
  have hB2 := HBb.out.size
  have HLL := Lib.hid (And.intro lL (And.intro lM (And.intro sL sM)))
  obtain ⟨PP, hPP⟩ : ∃ P, L.map fif = P := ⟨_, rfl⟩
  obtain ⟨QQ, hQQ⟩ : ∃ P, M.map fif = P := ⟨_, rfl⟩
  have HPX : Hid (PP.length = n ∧ (∀ x ∈ PP, -800 ≤ x ∧ x ≤ 800) ∧ L.map fif = PP) := ⟨by rw [← hPP, List.length_map]; exact lL, fun x hx => by
    rw [← hPP] at hx
    obtain ⟨z, hz1, rfl⟩ := List.mem_map.1 hx
    have := sL z hz1
    exact fif_in this.1 this.2, hPP⟩
  have HQY : Hid (QQ.length = m ∧ (∀ x ∈ QQ, -800 ≤ x ∧ x ≤ 800) ∧ M.map fif = QQ) := ⟨by rw [← hQQ, List.length_map]; exact lM, fun x hx => by
    rw [← hQQ] at hx
    obtain ⟨z, hz1, rfl⟩ := List.mem_map.1 hx
    have := sM z hz1
    exact fif_in this.1 this.2, hQQ⟩
  have gb := fif_in g0 g1
  obtain ⟨f, hf⟩ : ∃ f, fif g = f := ⟨_, rfl⟩
  rw [hf] at gb
  obtain ⟨f0, f1⟩ := gb
  have gq : (g * 4).tdiv 5 = f := hf
  have gw : wrap64 f = f := IntWalk.wrap64_in _ (by omega)
  have gw2 : IntKind.i64.wrap f = f := IntWalk.i64_in _ (by omega)
  clear hPP hQQ lL lM sL sM zx zy w0 hf
  have HFG := Lib.hid gq
  have HRv2 : Hid (SL L a1 n xa xb v1.heap.size v2 (.slice none 0 0) (.int .i64 0) v2) := ⟨0, _, _, rfl, rfl, by omega, rfl, by have := HOX.out; simpa [mix] using this, World.ownsRow_nil _ _ _ _, Ch.rf, Nat.le_refl _⟩
  go_wp2
  go_loopw [10, 39] (fun sa sb wr => SL L a1 n xa xb v1.heap.size v2 sa sb wr) (fun _ sb _ => n - (intOf sb).toNat)
  case atStart => exact HRv2.out
  case round =>
    clear HRv2
    obtain ⟨t, wr, u, hwr, hu, ht, rfl, hx, hz, hb, hB⟩ := hrel
    subst hwr hu
    have HXX := Lib.hid hx
    have HZZ := Lib.hid hz
    have HBB := Lib.hid hb
    have lX : L.length = n := HLL.out.1
    rcases Nat.lt_or_ge t n with hlt | hge
    · have c1 := (own_zi hx (by rw [mix_len]; exact lX)).at t hlt
      rw [mix_at fif L t (by omega)] at c1
      have f1 := own_fr hx t
      have px := HLL.out.2.2.1.at t
      obtain ⟨x, hxx⟩ : ∃ x, L.getD t 0 = x := ⟨_, rfl⟩
      rw [hxx] at c1 px
      obtain ⟨x0, x1⟩ := px
      have py := fif_in x0 x1
      obtain ⟨y, hy⟩ : ∃ y, fif x = y := ⟨_, rfl⟩
      rw [hy] at py
      obtain ⟨y0, y1⟩ := py
      have hq : (x * 4).tdiv 5 = y := hy
      have HY : Hid (fif (L.getD t 0) = y) := by show _ = _; rw [hxx, hy]
      have ti : (t : Int) < (n : Int) := by omega
      have hown1 := ownsRow_setCell_below hz (a := ⟨xa, t, none⟩) hxv.2 (.int .i64 y)
      have HOW := Lib.hid hown1
      have wsz : (wr.setCell ⟨xa, t, none⟩ (.int .i64 y)).heap.size = wr.heap.size := by simp [World.setCell]
      have HNB : Hid (Bk ((wr.setCell ⟨xa, t, none⟩ (.int .i64 y)).alloc (.cells #[.int .i64 (y + a1)] 3)) wr.heap.size 3 #[.int .i64 (y + a1)]) := Bk.nq _ _ _ wsz
      have wq : IntKind.i64.wrap y = y := IntWalk.i64_in _ (by omega)
      have wq2 : wrap64 y = y := IntWalk.wrap64_in _ (by omega)
      have HBS : Hid (v2.heap.size ≤ ((wr.setCell ⟨xa, t, none⟩ (.int .i64 y)).alloc (.cells #[.int .i64 (y + a1)] 3)).heap.size) := by show _ ≤ _; simp [World.setCell]; omega
      clear hx hz hb hown1 hxx hy wsz
      go_wp2_with (at_builtin; refine list_app _ rfl _ _ rfl v2.heap.size u t (((L.map fif).take t).map (· + a1)) rfl (HOW.out.alloc _) ⟨wr.heap.size, 0, none⟩ 1 1 [y + a1] rfl (zi_one HNB.out) (by omega) HBS.out ?_; intro v' w5 hown4 hgrow hat)
      have hstep := sl_step hlt lX hxv.2 HY.out HXX.out HZZ.out HBB.out hB hown4 hgrow
      have HST := Lib.hid hstep
      clear hstep hown4 hgrow hat
      go_wp2
      go_roundw
      case rel => exact HST.out
      case measure => simp [intOf]; omega
    · obtain rfl : n = t := by omega
      rw [List.take_of_length_le (by rw [List.length_map]; omega)] at hz
      have eM : mix fif L n = PP := by have := mix_all fif L; rw [lX] at this; rw [this]; exact HPX.out.2.2
      rw [eM] at hx
      rw [HPX.out.2.2] at hz
      obtain ⟨pa, pb, rfl, hpc, hpq⟩ := row_form hz (by omega)
      have zx1 : Zi wr (some ⟨xa, 0, none⟩) n PP := own_zi hx HPX.out.1
      have zp1 : Zi wr (some ⟨pa, 0, none⟩) n (PP.map (· + a1)) := own_zi hz (by rw [List.length_map]; exact HPX.out.1)
      have HPA : Hid (ya < pa) := by show _ < _; omega
      have hoy1 : wr.ownsRow v1.heap.size 3 1 (.slice (some ⟨ya, 0, none⟩) m yb) m (zs M) := HOY.out.kept hb (.inr (fun e => by have e2 : some ya = some xa := e; have := Option.some.inj e2; omega))
      have HOY1 := Lib.hid hoy1
      have HF1 : Hid (Zi wr (some ⟨xa, 0, none⟩) n PP ∧ Zi wr (some ⟨pa, 0, none⟩) n (PP.map (· + a1))) := ⟨zx1, zp1⟩
      have HW1 : Hid (Bel w wr) := Bel.ch HBb.out hb (by omega)
      have hyw : ya < wr.heap.size := by omega
      clear hx hz hb zx1 zp1 hpc hpq HXX HZZ HBB eM lX HOY hoy1
      obtain ⟨v3, hv3⟩ : ∃ v3, v3 = wr := ⟨_, rfl⟩
      subst hv3
      have HRv3 : Hid (SL M a1 m ya yb v1.heap.size v3 (.slice none 0 0) (.int .i64 0) v3) := ⟨0, _, _, rfl, rfl, by omega, rfl, by have := HOY1.out; simpa [mix] using this, World.ownsRow_nil _ _ _ _, Ch.rf, Nat.le_refl _⟩
      go_wp2
      go_loopw [11, 64] (fun sa sb wr => SL M a1 m ya yb v1.heap.size v3 sa sb wr) (fun _ sb _ => m - (intOf sb).toNat)
      case atStart => exact HRv3.out
      case round =>
        clear HRv3
        obtain ⟨t, wr, u, hwr, hu, ht, rfl, hx, hz, hb, hB⟩ := hrel
        subst hwr hu
        have HXX := Lib.hid hx
        have HZZ := Lib.hid hz
        have HBB := Lib.hid hb
        have lX : M.length = m := HLL.out.2.1
        rcases Nat.lt_or_ge t m with hlt | hge
        · have c1 := (own_zi hx (by rw [mix_len]; exact lX)).at t hlt
          rw [mix_at fif M t (by omega)] at c1
          have f1 := own_fr hx t
          have px := HLL.out.2.2.2.at t
          obtain ⟨x, hxx⟩ : ∃ x, M.getD t 0 = x := ⟨_, rfl⟩
          rw [hxx] at c1 px
          obtain ⟨x0, x1⟩ := px
          have py := fif_in x0 x1
          obtain ⟨y, hy⟩ : ∃ y, fif x = y := ⟨_, rfl⟩
          rw [hy] at py
          obtain ⟨y0, y1⟩ := py
          have hq : (x * 4).tdiv 5 = y := hy
          have HY : Hid (fif (M.getD t 0) = y) := by show _ = _; rw [hxx, hy]
          have ti : (t : Int) < (m : Int) := by omega
          have hown1 := ownsRow_setCell_below hz (a := ⟨ya, t, none⟩) hyw (.int .i64 y)
          have HOW := Lib.hid hown1
          have wsz : (wr.setCell ⟨ya, t, none⟩ (.int .i64 y)).heap.size = wr.heap.size := by simp [World.setCell]
          have HNB : Hid (Bk ((wr.setCell ⟨ya, t, none⟩ (.int .i64 y)).alloc (.cells #[.int .i64 (y + a1)] 3)) wr.heap.size 3 #[.int .i64 (y + a1)]) := Bk.nq _ _ _ wsz
          have wq : IntKind.i64.wrap y = y := IntWalk.i64_in _ (by omega)
          have wq2 : wrap64 y = y := IntWalk.wrap64_in _ (by omega)
          have HBS : Hid (v3.heap.size ≤ ((wr.setCell ⟨ya, t, none⟩ (.int .i64 y)).alloc (.cells #[.int .i64 (y + a1)] 3)).heap.size) := by show _ ≤ _; simp [World.setCell]; omega
          clear hx hz hb hown1 hxx hy wsz
          go_wp2_with (at_builtin; refine list_app _ rfl _ _ rfl v3.heap.size u t (((M.map fif).take t).map (· + a1)) rfl (HOW.out.alloc _) ⟨wr.heap.size, 0, none⟩ 1 1 [y + a1] rfl (zi_one HNB.out) (by omega) HBS.out ?_; intro v' w5 hown4 hgrow hat)
          have hstep := sl_step hlt lX hyw HY.out HXX.out HZZ.out HBB.out hB hown4 hgrow
          have HST := Lib.hid hstep
          clear hstep hown4 hgrow hat
          go_wp2
          go_roundw
          case rel => exact HST.out
          case measure => simp [intOf]; omega
        · obtain rfl : m = t := by omega
          rw [List.take_of_length_le (by rw [List.length_map]; omega)] at hz
          have eM : mix fif M m = QQ := by have := mix_all fif M; rw [lX] at this; rw [this]; exact HQY.out.2.2
          rw [eM] at hx
          rw [HQY.out.2.2] at hz
          obtain ⟨qa, qb, rfl, hqc, hqq⟩ := row_form hz (by omega)
          have zy2 : Zi wr (some ⟨ya, 0, none⟩) m QQ := own_zi hx HQY.out.1
          have zq2 : Zi wr (some ⟨qa, 0, none⟩) m (QQ.map (· + a1)) := own_zi hz (by rw [List.length_map]; exact HQY.out.1)
          have HF2 : Hid (Zi wr (some ⟨xa, 0, none⟩) n PP ∧ Zi wr (some ⟨ya, 0, none⟩) m QQ ∧ Zi wr (some ⟨pa, 0, none⟩) n (PP.map (· + a1)) ∧ Zi wr (some ⟨qa, 0, none⟩) m (QQ.map (· + a1))) :=
            ⟨HF1.out.1.ch hb (fun ad e => by cases e; show xa ≠ ya; omega), zy2, HF1.out.2.ch hb (fun ad e => by cases e; show pa ≠ ya; have := HPA.out; omega), zq2⟩
          have HW2 : Hid (Bel w wr) := Bel.ch HW1.out hb (by omega)
          clear hx hz hb zy2 zq2 hqc hqq HXX HZZ HBB HF1 HW1 eM lX HOY1
          obtain ⟨v4, hv4⟩ : ∃ v4, v4 = wr := ⟨_, rfl⟩
          subst hv4
          have HRv4 : Hid (RL PP n v4 (.slice none 0 0) (.int .i64 0) v4) := ⟨0, _, _, rfl, rfl, by omega, rfl, World.ownsRow_nil _ _ _ _, Bel.rf⟩
          go_wp2
          go_loopw [12, 89] (fun sa sb wr => RL PP n v4 sa sb wr) (fun _ sb _ => n - (intOf sb).toNat)
          case atStart => exact HRv4.out
          case round =>
            clear HRv4
            obtain ⟨t, wr, u, hwr, hu, ht, rfl, hz, hb⟩ := hrel
            subst hwr hu
            have HZZ := Lib.hid hz
            have HBB := Lib.hid hb
            rcases Nat.lt_or_ge t n with hlt | hge
            · obtain ⟨j, hj⟩ : ∃ j, n - 1 - t = j := ⟨_, rfl⟩
              have hji : (n : Int) - 1 - (t : Int) = (j : Int) := by omega
              have hjn : (j : Int) < (n : Int) := by omega
              have c1 := (HF2.out.1.bel hb).at j (by omega)
              obtain ⟨y, hy⟩ : ∃ x, PP.getD j 0 = x := ⟨_, rfl⟩
              rw [hy] at c1
              have HY := Lib.hid (And.intro hj hy)
              have ti : (t : Int) < (n : Int) := by omega
              have tb : v4.heap.size ≤ wr.heap.size := hb.size
              clear hz hb hj hy
              go_wp2_with (at_builtin; refine list_app _ rfl _ _ rfl v4.heap.size u t (PP.reverse.take t) rfl (HZZ.out.alloc _) ⟨wr.heap.size, 0, none⟩ 1 1 [y] rfl (zi_one (Bk.nw _ _ _)) (by omega) (by simp; omega) ?_; intro v' w5 hown4 hgrow hat)
              have hstep := rl_step hlt HPX.out.1 HY.out.1 HY.out.2 HZZ.out HBB.out hown4 hgrow
              have HST := Lib.hid hstep
              clear hstep hown4 hgrow hat
              go_wp2
              go_roundw
              case rel => exact HST.out
              case measure => simp [intOf]; omega
            · obtain rfl : n = t := by omega
              rw [List.take_of_length_le (by rw [List.length_reverse]; have := HPX.out.1; omega)] at hz
              obtain ⟨ra, rb, rfl, hrc, hrq⟩ := row_form hz (by omega)
              have zr3 : Zi wr (some ⟨ra, 0, none⟩) n PP.reverse := own_zi hz (by rw [List.length_reverse]; exact HPX.out.1)
              have HF3 : Hid (Zi wr (some ⟨xa, 0, none⟩) n PP ∧ Zi wr (some ⟨ya, 0, none⟩) m QQ ∧ Zi wr (some ⟨pa, 0, none⟩) n (PP.map (· + a1)) ∧ Zi wr (some ⟨qa, 0, none⟩) m (QQ.map (· + a1)) ∧ Zi wr (some ⟨ra, 0, none⟩) n PP.reverse) :=
                ⟨HF2.out.1.bel hb, HF2.out.2.1.bel hb, HF2.out.2.2.1.bel hb, HF2.out.2.2.2.bel hb, zr3⟩
              have HW3 : Hid (Bel w wr) := HW2.out.tr hb
              clear hz hb zr3 hrc hrq HZZ HBB HF2 HW2
              obtain ⟨v5, hv5⟩ : ∃ v5, v5 = wr := ⟨_, rfl⟩
              subst hv5
              have HRv5 : Hid (RL QQ m v5 (.slice none 0 0) (.int .i64 0) v5) := ⟨0, _, _, rfl, rfl, by omega, rfl, World.ownsRow_nil _ _ _ _, Bel.rf⟩
              go_wp2
              go_loopw [13, 106] (fun sa sb wr => RL QQ m v5 sa sb wr) (fun _ sb _ => m - (intOf sb).toNat)
              case atStart => exact HRv5.out
              case round =>
                clear HRv5
                obtain ⟨t, wr, u, hwr, hu, ht, rfl, hz, hb⟩ := hrel
                subst hwr hu
                have HZZ := Lib.hid hz
                have HBB := Lib.hid hb
                rcases Nat.lt_or_ge t m with hlt | hge
                · obtain ⟨j, hj⟩ : ∃ j, m - 1 - t = j := ⟨_, rfl⟩
                  have hji : (m : Int) - 1 - (t : Int) = (j : Int) := by omega
                  have hjn : (j : Int) < (m : Int) := by omega
                  have c1 := (HF3.out.2.1.bel hb).at j (by omega)
                  obtain ⟨y, hy⟩ : ∃ x, QQ.getD j 0 = x := ⟨_, rfl⟩
                  rw [hy] at c1
                  have HY := Lib.hid (And.intro hj hy)
                  have ti : (t : Int) < (m : Int) := by omega
                  have tb : v5.heap.size ≤ wr.heap.size := hb.size
                  clear hz hb hj hy
                  go_wp2_with (at_builtin; refine list_app _ rfl _ _ rfl v5.heap.size u t (QQ.reverse.take t) rfl (HZZ.out.alloc _) ⟨wr.heap.size, 0, none⟩ 1 1 [y] rfl (zi_one (Bk.nw _ _ _)) (by omega) (by simp; omega) ?_; intro v' w5 hown4 hgrow hat)
                  have hstep := rl_step hlt HQY.out.1 HY.out.1 HY.out.2 HZZ.out HBB.out hown4 hgrow
                  have HST := Lib.hid hstep
                  clear hstep hown4 hgrow hat
                  go_wp2
                  go_roundw
                  case rel => exact HST.out
                  case measure => simp [intOf]; omega
                · obtain rfl : m = t := by omega
                  rw [List.take_of_length_le (by rw [List.length_reverse]; have := HQY.out.1; omega)] at hz
                  obtain ⟨sa, sb, rfl, hsc, hsq⟩ := row_form hz (by omega)
                  have zs4 : Zi wr (some ⟨sa, 0, none⟩) m QQ.reverse := own_zi hz (by rw [List.length_reverse]; exact HQY.out.1)
                  have HF4 : Hid (Zi wr (some ⟨xa, 0, none⟩) n PP ∧ Zi wr (some ⟨ya, 0, none⟩) m QQ ∧ Zi wr (some ⟨pa, 0, none⟩) n (PP.map (· + a1)) ∧ Zi wr (some ⟨qa, 0, none⟩) m (QQ.map (· + a1)) ∧ Zi wr (some ⟨ra, 0, none⟩) n PP.reverse ∧ Zi wr (some ⟨sa, 0, none⟩) m QQ.reverse) :=
                    ⟨HF3.out.1.bel hb, HF3.out.2.1.bel hb, HF3.out.2.2.1.bel hb, HF3.out.2.2.2.1.bel hb, HF3.out.2.2.2.2.bel hb, zs4⟩
                  have HW4 : Hid (Bel w wr) := HW3.out.tr hb
                  clear hz hb zs4 hsc hsq HZZ HBB HF3 HW3
                  have lP := HPX.out.1
                  have lQ := HQY.out.1
                  have bP := HPX.out.2.1
                  have bQ := HQY.out.2.1
                  have sP : Sam PP := fun x hx => by have := bP x hx; omega
                  have sQ : Sam QQ := fun x hx => by have := bQ x hx; omega
                  have sPb : Sam (PP.map (· + a1)) := fun y hy => by
                    obtain ⟨x, hx, rfl⟩ := List.mem_map.1 hy
                    have := bP x hx
                    show _ ∧ _
                    omega
                  have sQb : Sam (QQ.map (· + a1)) := fun y hy => by
                    obtain ⟨x, hx, rfl⟩ := List.mem_map.1 hy
                    have := bQ x hx
                    show _ ∧ _
                    omega
                  have sPr : Sam PP.reverse := fun x hx => sP x (by simpa using hx)
                  have sQr : Sam QQ.reverse := fun x hx => sQ x (by simpa using hx)
                  have D1 : Hid (∀ W, Bel wr W → _) := fun W hW => distance_ok (some ⟨xa, 0, none⟩) (some ⟨ya, 0, none⟩) xb yb n m PP QQ f n1 n2 m1 (by omega) (by omega) (by omega) sP sQ W (HF4.out.1.bel hW) (HF4.out.2.1.bel hW)
                  have D2 : Hid (∀ W, Bel wr W → _) := fun W hW => distance_ok (some ⟨pa, 0, none⟩) (some ⟨qa, 0, none⟩) pb qb n m (PP.map (· + a1)) (QQ.map (· + a1)) (f + a1) n1 n2 m1 (by omega) (by omega) (by omega) sPb sQb W (HF4.out.2.2.1.bel hW) (HF4.out.2.2.2.1.bel hW)
                  have D3 : Hid (∀ W, Bel wr W → _) := fun W hW => distance_ok (some ⟨ra, 0, none⟩) (some ⟨sa, 0, none⟩) rb sb n m PP.reverse QQ.reverse f n1 n2 m1 (by omega) (by omega) (by omega) sPr sQr W (HF4.out.2.2.2.2.1.bel hW) (HF4.out.2.2.2.2.2.bel hW)
                  have e2 := et_move PP QQ f a1 n m lP lQ
                  have e3 := et_rev PP QQ f
                  rw [lP, lQ] at e3
                  rw [e2] at D2
                  rw [e3] at D3
                  have HPUT : Hid (∀ k, k ≤ n → et (PP.take k ++ [f] ++ PP.drop k) QQ f (n + 1) m = et PP QQ f n m) := fun k hk => et_puts PP QQ f k n m hk lP
                  obtain ⟨a, ha⟩ : ∃ a, et PP QQ f n m = a := ⟨_, rfl⟩
                  rw [ha] at D1 D2 D3 HPUT
                  have HLA := Lib.hid ha
                  have HSS : Hid (Sam PP ∧ Sam QQ) := ⟨sP, sQ⟩
                  have kw : wrap64 (f + a1) = f + a1 := IntWalk.wrap64_in _ (by omega)
                  have kw2 : wrap64 a1 = a1 := IntWalk.wrap64_in _ (by omega)
                  have ka : (a == a) = true := by simp
                  have ka2 : (a != a) = false := by simp
                  clear e2 e3 ha sP sQ sPb sQb sPr sQr bP bQ lP lQ
                  go_wp2_with fail
                  go_at_call 26
                  refine (D1.out _ Bel.rf).mono ?_
                  rintro e p1 ⟨rfl, hb⟩
                  have HD_p1 : Hid (Bel wr p1) := hb
                  clear hb
                  go_wp2_with fail
                  go_at_call 26
                  refine (D2.out _ HD_p1.out).mono ?_
                  rintro e p2 ⟨rfl, hb⟩
                  have HD_p2 : Hid (Bel wr p2) := HD_p1.out.tr hb
                  clear hb
                  go_wp2_with fail
                  go_at_call 26
                  refine (D3.out _ HD_p2.out).mono ?_
                  rintro e p3 ⟨rfl, hb⟩
                  have HD_p3 : Hid (Bel wr p3) := HD_p2.out.tr hb
                  clear hb
                  rcases Classical.em (n = 32) with h32 | h32
                  · subst h32
                    go_wp2_with (go_at_call 30; refine (AW.out _).mono ?_; rintro e w9 ⟨rfl, hb9⟩)
                    go_ret
                    exact ⟨rfl, ((HW4.out.tr HD_p3.out).tr hb9).bl⟩
                  · have h32i : ¬ ((n : Int) = 32) := by omega
                    have h32b : ((n : Int) == 32) = false := by simp; omega
                    have t0 := Int.emod_nonneg a2 (b := (n : Int) + 1) (by omega)
                    have t1 := Int.emod_lt_of_pos a2 (b := (n : Int) + 1) (by omega)
                    have tt : a2.tmod ((n : Int) + 1) = a2 % ((n : Int) + 1) := Int.tmod_eq_emod_of_nonneg (by omega)
                    obtain ⟨k, hk⟩ := Int.eq_ofNat_of_zero_le t0
                    rw [hk] at t1 tt
                    have ln1 : ¬ ((n : Int) + 1 = 0) := by omega
                    have kx : k ≤ xb := by omega
                    have kn : k ≤ n := by omega
                    have kni : (k : Int) ≤ (n : Int) := by omega
                    have nxb : (n : Int) ≤ (xb : Int) := by omega
                    clear t0 hk
                    rcases Classical.em (xb = k) with hxk | hxk
                    · obtain rfl : n = xb := by omega
                      obtain rfl : n = k := by omega
                      have LZ : Hid ((PP.take n ++ [f] ++ PP.drop n).length = n + 1) := by show _ = _; simp; have := HPX.out.1; omega
                      have sZ : Sam (PP.take n ++ [f] ++ PP.drop n) := fun x hx => by
                        rcases List.mem_append.1 hx with h | h
                        · rcases List.mem_append.1 h with h | h
                          · exact HSS.out.1.take n x h
                          · simp at h; omega
                        · exact HSS.out.1.drop n x h
                      have ZK1 : Hid (∀ W, Bel p3 W → Zi W (some ⟨xa, 0, none⟩) n (PP.take n)) := fun W hW => by
                        have h2 := zi_part (HF4.out.1.bel (HD_p3.out.tr hW)) 0 n (by omega)
                        rwa [List.drop_zero] at h2
                      have DP : Hid (∀ h c W, Zi W (some ⟨h, 0, none⟩) (n + 1) (PP.take n ++ [f] ++ PP.drop n) → Bel p3 W → Calls Try.prog 26 #[.slice (some ⟨h, 0, none⟩) (n + 1) c, .slice (some ⟨ya, 0, none⟩) m yb, .int .i64 f] W fun e w' => e = .returned (.tuple #[.int .i64 a, .int .i64 0]) ∧ Bel W w') := fun h c W hz hW => by
                        rw [← HPUT.out n (by omega)]
                        exact distance_ok (some ⟨h, 0, none⟩) (some ⟨ya, 0, none⟩) c yb (n + 1) m (PP.take n ++ [f] ++ PP.drop n) QQ f (by omega) (by omega) m1 (by omega) (by omega) (by omega) sZ HSS.out.2 W hz (HF4.out.2.1.bel (HD_p3.out.tr hW))
                      clear sZ
                      go_wp2_with fail
                      go_region_law (first
                        | (refine step_app _ rfl (.tmp 176) (.tmp 179) rfl p3.heap.size (.slice (some ⟨p3.heap.size, 0, none⟩) 0 0) 0 [] (by simp [Act.eval]) (own_made _ p3.heap.size rfl (Nat.le_refl _)) ⟨xa, 0, none⟩ n n (PP.take n) (by simp [Act.eval, *]) (ZK1.out _ (by repeat (first | exact Bel.rf | (with_reducible refine Bel.drwN ?_ _) | (with_reducible refine Bel.drw ?_) | (with_reducible refine Bel.al ?_ _)))) (by omega) (by simp; try omega) ?_; intro va wa hoa hga hata; have hba : Bel p3 wa := bel_grown (by repeat (first | exact Bel.rf | (with_reducible refine Bel.drwN ?_ _) | (with_reducible refine Bel.drw ?_) | (with_reducible refine Bel.al ?_ _))) hga (fun q e => by cases e; first | exact Nat.le_refl _ | exact Nat.le_succ _); have hkA := fun (q : Nat) (cs : Array Value) (hne : some q ≠ some (p3.heap.size)) (h : Bk _ q 3 cs) => (hga.block q h.lt hne).trans h)
                        | (refine step_app _ rfl (.tmp 176) (.tmp 179) rfl p3.heap.size (.slice (some ⟨p3.heap.size, 0, none⟩) 0 0) 0 [] (by simp [Act.eval]) ((own_made _ p3.heap.size rfl (Nat.le_refl _)).alloc _) ⟨xa, 0, none⟩ n n (PP.take n) (by simp [Act.eval, *]) (ZK1.out _ (by repeat (first | exact Bel.rf | (with_reducible refine Bel.drwN ?_ _) | (with_reducible refine Bel.drw ?_) | (with_reducible refine Bel.al ?_ _)))) (by omega) (by simp; try omega) ?_; intro va wa hoa hga hata; have hba : Bel p3 wa := bel_grown (by repeat (first | exact Bel.rf | (with_reducible refine Bel.drwN ?_ _) | (with_reducible refine Bel.drw ?_) | (with_reducible refine Bel.al ?_ _))) hga (fun q e => by cases e; first | exact Nat.le_refl _ | exact Nat.le_succ _); have hkA := fun (q : Nat) (cs : Array Value) (hne : some q ≠ some (p3.heap.size)) (h : Bk _ q 3 cs) => (hga.block q h.lt hne).trans h)
                        | (refine step_app _ rfl (.tmp 176) (.tmp 179) rfl p3.heap.size (.slice (some ⟨p3.heap.size + 1, 0, none⟩) 0 0) 0 [] (by simp [Act.eval]) (own_made _ (p3.heap.size + 1) (by simp) (by omega)) ⟨xa, 0, none⟩ n n (PP.take n) (by simp [Act.eval, *]) (ZK1.out _ (by repeat (first | exact Bel.rf | (with_reducible refine Bel.drwN ?_ _) | (with_reducible refine Bel.drw ?_) | (with_reducible refine Bel.al ?_ _)))) (by omega) (by simp; try omega) ?_; intro va wa hoa hga hata; have hba : Bel p3 wa := bel_grown (by repeat (first | exact Bel.rf | (with_reducible refine Bel.drwN ?_ _) | (with_reducible refine Bel.drw ?_) | (with_reducible refine Bel.al ?_ _))) hga (fun q e => by cases e; first | exact Nat.le_refl _ | exact Nat.le_succ _); have hkA := fun (q : Nat) (cs : Array Value) (hne : some q ≠ some (p3.heap.size + 1)) (h : Bk _ q 3 cs) => (hga.block q h.lt hne).trans h)
                        | (refine step_app _ rfl (.tmp 180) (.tmp 182) rfl p3.heap.size va (0 + n) ([] ++ PP.take n) (by simp [Act.eval]) (own_bel hoa (by repeat (first | exact Bel.rf | (with_reducible refine Bel.drwN ?_ _) | (with_reducible refine Bel.drw ?_) | (with_reducible refine Bel.al ?_ _)))) _ 1 1 [f] rfl (by first | (refine zi_one (Bk.nq _ _ _ ?_); simp; done) | (refine zi_one (hkA _ _ ?_ (Bk.nq _ _ _ ?_)) <;> simp; done) | (refine zi_one (hkA _ _ ?_ ((Bk.nq _ _ _ ?_).al _)) <;> simp; done)) (by omega) (hba.tr (by repeat (first | exact Bel.rf | (with_reducible refine Bel.drwN ?_ _) | (with_reducible refine Bel.drw ?_) | (with_reducible refine Bel.al ?_ _)))).size ?_; intro vb wb hob hgb hatb; have hbb : Bel p3 wb := bel_grown (hba.tr (by repeat (first | exact Bel.rf | (with_reducible refine Bel.drwN ?_ _) | (with_reducible refine Bel.drw ?_) | (with_reducible refine Bel.al ?_ _)))) hgb (own_base hoa))
                        | (refine step_app _ rfl (.tmp 183) (.tmp 186) rfl p3.heap.size vb (0 + n + 1) ([] ++ PP.take n ++ [f]) (by simp [Act.eval]) hob _ 0 _ [] rfl zi_none (by omega) hbb.size ?_; intro vc wc hoc hgc hatc; have hbc : Bel p3 wc := bel_grown hbb hgc (own_base hob); rw [show 0 + n + 1 + 0 = n + 1 by omega, List.nil_append, show PP.take n ++ [f] ++ [] = PP.take n ++ [f] ++ PP.drop n by rw [List.drop_of_length_le (by have := HPX.out.1; omega)]] at hoc; obtain ⟨zq, zc, rfl, hz1, hz2⟩ := row_form hoc (by omega); have zz := own_zi hoc LZ.out)
                        | (go_simp; go_at_call 26; refine (DP.out zq zc _ zz hbc).mono ?_; rintro e p5 ⟨rfl, hb5⟩))
                      all_goals
                        have HP5 : Hid (Bel wr p5) := HD_p3.out.tr (hbc.tr hb5)
                        clear hb5
                        go_wp2_with (go_at_call 30; refine (AW.out _).mono ?_; rintro e w9 ⟨rfl, hb9⟩)
                        go_ret
                        exact ⟨rfl, ((HW4.out.tr HP5.out).tr hb9).bl⟩
                    · have hxk2 : (xb == k) = false := by simpa using hxk
                      have LZ : Hid ((PP.take k ++ [f] ++ PP.drop k).length = n + 1) := by show _ = _; simp; have := HPX.out.1; omega
                      have sZ : Sam (PP.take k ++ [f] ++ PP.drop k) := fun x hx => by
                        rcases List.mem_append.1 hx with h | h
                        · rcases List.mem_append.1 h with h | h
                          · exact HSS.out.1.take k x h
                          · simp at h; omega
                        · exact HSS.out.1.drop k x h
                      have ZK1 : Hid (∀ W, Bel p3 W → Zi W (some ⟨xa, 0, none⟩) k (PP.take k)) := fun W hW => by
                        have h2 := zi_part (HF4.out.1.bel (HD_p3.out.tr hW)) 0 k (by omega)
                        rwa [List.drop_zero] at h2
                      have DP : Hid (∀ h c W, Zi W (some ⟨h, 0, none⟩) (n + 1) (PP.take k ++ [f] ++ PP.drop k) → Bel p3 W → Calls Try.prog 26 #[.slice (some ⟨h, 0, none⟩) (n + 1) c, .slice (some ⟨ya, 0, none⟩) m yb, .int .i64 f] W fun e w' => e = .returned (.tuple #[.int .i64 a, .int .i64 0]) ∧ Bel W w') := fun h c W hz hW => by
                        rw [← HPUT.out k (by omega)]
                        exact distance_ok (some ⟨h, 0, none⟩) (some ⟨ya, 0, none⟩) c yb (n + 1) m (PP.take k ++ [f] ++ PP.drop k) QQ f (by omega) (by omega) m1 (by omega) (by omega) (by omega) sZ HSS.out.2 W hz (HF4.out.2.1.bel (HD_p3.out.tr hW))
                      have ZK2 : Hid (∀ W, Bel p3 W → Zi W (some ⟨xa, k, none⟩) (n - k) (PP.drop k)) := fun W hW => by
                        have h2 := zi_part (HF4.out.1.bel (HD_p3.out.tr hW)) k (n - k) (by omega)
                        rwa [List.take_of_length_le (by rw [List.length_drop]; have := HPX.out.1; omega)] at h2
                      clear sZ
                      go_wp2_with fail
                      go_region_law (first
                        | (refine step_app _ rfl (.tmp 176) (.tmp 179) rfl p3.heap.size (.slice (some ⟨p3.heap.size, 0, none⟩) 0 0) 0 [] (by simp [Act.eval]) (own_made _ p3.heap.size rfl (Nat.le_refl _)) ⟨xa, 0, none⟩ k xb (PP.take k) (by simp [Act.eval, *]) (ZK1.out _ (by repeat (first | exact Bel.rf | (with_reducible refine Bel.drwN ?_ _) | (with_reducible refine Bel.drw ?_) | (with_reducible refine Bel.al ?_ _)))) (by omega) (by simp; try omega) ?_; intro va wa hoa hga hata; have hba : Bel p3 wa := bel_grown (by repeat (first | exact Bel.rf | (with_reducible refine Bel.drwN ?_ _) | (with_reducible refine Bel.drw ?_) | (with_reducible refine Bel.al ?_ _))) hga (fun q e => by cases e; first | exact Nat.le_refl _ | exact Nat.le_succ _); have hkA := fun (q : Nat) (cs : Array Value) (hne : some q ≠ some (p3.heap.size)) (h : Bk _ q 3 cs) => (hga.block q h.lt hne).trans h)
                        | (refine step_app _ rfl (.tmp 176) (.tmp 179) rfl p3.heap.size (.slice (some ⟨p3.heap.size, 0, none⟩) 0 0) 0 [] (by simp [Act.eval]) ((own_made _ p3.heap.size rfl (Nat.le_refl _)).alloc _) ⟨xa, 0, none⟩ k xb (PP.take k) (by simp [Act.eval, *]) (ZK1.out _ (by repeat (first | exact Bel.rf | (with_reducible refine Bel.drwN ?_ _) | (with_reducible refine Bel.drw ?_) | (with_reducible refine Bel.al ?_ _)))) (by omega) (by simp; try omega) ?_; intro va wa hoa hga hata; have hba : Bel p3 wa := bel_grown (by repeat (first | exact Bel.rf | (with_reducible refine Bel.drwN ?_ _) | (with_reducible refine Bel.drw ?_) | (with_reducible refine Bel.al ?_ _))) hga (fun q e => by cases e; first | exact Nat.le_refl _ | exact Nat.le_succ _); have hkA := fun (q : Nat) (cs : Array Value) (hne : some q ≠ some (p3.heap.size)) (h : Bk _ q 3 cs) => (hga.block q h.lt hne).trans h)
                        | (refine step_app _ rfl (.tmp 176) (.tmp 179) rfl p3.heap.size (.slice (some ⟨p3.heap.size + 1, 0, none⟩) 0 0) 0 [] (by simp [Act.eval]) (own_made _ (p3.heap.size + 1) (by simp) (by omega)) ⟨xa, 0, none⟩ k xb (PP.take k) (by simp [Act.eval, *]) (ZK1.out _ (by repeat (first | exact Bel.rf | (with_reducible refine Bel.drwN ?_ _) | (with_reducible refine Bel.drw ?_) | (with_reducible refine Bel.al ?_ _)))) (by omega) (by simp; try omega) ?_; intro va wa hoa hga hata; have hba : Bel p3 wa := bel_grown (by repeat (first | exact Bel.rf | (with_reducible refine Bel.drwN ?_ _) | (with_reducible refine Bel.drw ?_) | (with_reducible refine Bel.al ?_ _))) hga (fun q e => by cases e; first | exact Nat.le_refl _ | exact Nat.le_succ _); have hkA := fun (q : Nat) (cs : Array Value) (hne : some q ≠ some (p3.heap.size + 1)) (h : Bk _ q 3 cs) => (hga.block q h.lt hne).trans h)
                        | (refine step_app _ rfl (.tmp 180) (.tmp 182) rfl p3.heap.size va (0 + k) ([] ++ PP.take k) (by simp [Act.eval]) (own_bel hoa (by repeat (first | exact Bel.rf | (with_reducible refine Bel.drwN ?_ _) | (with_reducible refine Bel.drw ?_) | (with_reducible refine Bel.al ?_ _)))) _ 1 1 [f] rfl (by first | (refine zi_one (Bk.nq _ _ _ ?_); simp; done) | (refine zi_one (hkA _ _ ?_ (Bk.nq _ _ _ ?_)) <;> simp; done) | (refine zi_one (hkA _ _ ?_ ((Bk.nq _ _ _ ?_).al _)) <;> simp; done)) (by omega) (hba.tr (by repeat (first | exact Bel.rf | (with_reducible refine Bel.drwN ?_ _) | (with_reducible refine Bel.drw ?_) | (with_reducible refine Bel.al ?_ _)))).size ?_; intro vb wb hob hgb hatb; have hbb : Bel p3 wb := bel_grown (hba.tr (by repeat (first | exact Bel.rf | (with_reducible refine Bel.drwN ?_ _) | (with_reducible refine Bel.drw ?_) | (with_reducible refine Bel.al ?_ _)))) hgb (own_base hoa))
                        | (refine step_app _ rfl (.tmp 183) (.tmp 186) rfl p3.heap.size vb (0 + k + 1) ([] ++ PP.take k ++ [f]) (by simp [Act.eval]) hob ⟨xa, k, none⟩ (n - k) (xb - k) (PP.drop k) (by simp [Act.eval, *]) (ZK2.out _ hbb) (by omega) hbb.size ?_; intro vc wc hoc hgc hatc; have hbc : Bel p3 wc := bel_grown hbb hgc (own_base hob); rw [show 0 + k + 1 + (n - k) = n + 1 by omega, List.nil_append] at hoc; obtain ⟨zq, zc, rfl, hz1, hz2⟩ := row_form hoc (by omega); have zz := own_zi hoc LZ.out)
                        | (go_simp; go_at_call 26; refine (DP.out zq zc _ zz hbc).mono ?_; rintro e p5 ⟨rfl, hb5⟩))
                      all_goals
                        have HP5 : Hid (Bel wr p5) := HD_p3.out.tr (hbc.tr hb5)
                        clear hb5
                        go_wp2_with (go_at_call 30; refine (AW.out _).mono ?_; rintro e w9 ⟨rfl, hb9⟩)
                        go_ret
                        exact ⟨rfl, ((HW4.out.tr HP5.out).tr hb9).bl⟩

set_option maxRecDepth 100000 in
theorem lifted (os : Os) (started : os.Started) (H : Type) (enc : TypeId × Value → H) :
    ReturnsInHanded {} Try.checked os 12 .any (Rows.editMovesSpec.pre6 enc Try.prog Try.f12 Rows.editMovesRow.domain false) (Rows.editMovesSpec.post enc Try.prog Try.f12 false true false false) := by
  refine returnsInHanded_of_change (C := Try.checked) own started (by kernel_rfl) Try.func12
    (ChangeSpec.witness6 (enc := enc) (C := Try.checked) false ⟨#[], #[.slice none 0 0, .int .i8 0, .int .u8 0], []⟩ 8 (by kernel_rfl) (by kernel_rfl) (by kernel_rfl) (by kernel_rfl)) ?_
  intro W base args ds gs before hval0 hW hcnd _
  have hval : ∀ (j : Nat) t v, Try.f12.params[j]? = some t → args[j]? = some v → Value.okWide Try.prog W .any base t v := hval0
  have hW' := hW
  obtain ⟨p, q, hA0, hV, rfl, hfz, hnd⟩ := hW
  have hA : DataW.TrodAll enc Try.prog W 0 (fun _ => true) true Try.f12.params.toList args.toList ds p := hA0
  rw [Try.params12] at hA hval
  obtain ⟨v0, vs0, d0, ds0, p0, q0, hargs, rfl, rfl, h0, r0⟩ := trodAll_cons hA
  obtain ⟨v1, vs1, d1, ds1, p1, q1, rfl, rfl, rfl, h1, r1⟩ := trodAll_cons r0
  obtain ⟨v2, vs2, d2, ds2, p2, q2, rfl, rfl, rfl, h2, r2⟩ := trodAll_cons r1
  obtain ⟨rfl, rfl, rfl⟩ := trodAll_nil r2
  obtain rfl : args = #[v0, v1, v2] := by cases args; simp_all
  obtain ⟨rfl, rfl⟩ := trodVars_none hV
  obtain ⟨a0, len0, cap0, rfl⟩ := okWide_slice Try.underlying22 (hval 0 22 v0 rfl rfl)
  have k0 := h0
  have lt0 : ∀ x ∈ p0, x.block < W.heap.size := by obtain ⟨m, hm⟩ := k0; exact DataW.trod_lt m _ _ _ hm
  obtain ⟨z0, w0⟩ : ∃ zs, IsRow .i64 W a0 len0 cap0 zs := by
    obtain ⟨fuel, hf⟩ := h0
    rcases open_ints Try.underlying22 Try.underlying3 (by kernel_rfl) hf with ⟨hcs, _⟩ | ⟨x, l, c, zs, hcs, _, hl, hm, hz, _, hcell, hwz⟩
    · simp [Value.cells] at hcs
      obtain ⟨rfl, rfl, rfl⟩ := hcs
      exact ⟨[], .inl ⟨rfl, rfl, rfl, rfl⟩⟩
    · simp [Value.cells] at hcs
      obtain ⟨rfl, rfl, rfl⟩ := hcs
      exact ⟨zs, .inr ⟨_, rfl, hl, hm, by simpa using hz, hcell, hwz⟩⟩
  obtain ⟨a1, rfl, rfl, rfl, w1⟩ := open_int Try.underlying41 (hval 1 41 v1 rfl rfl) h1
  obtain ⟨a2, rfl, rfl, rfl, w2⟩ := open_int Try.underlying5 (hval 2 5 v2 rfl rfl) h2
  clear hA0 hval0
  refine (walk a0 len0 cap0 z0 a1 a2 W w0 w1 w2).mono fun e W' ⟨he, bel⟩ => ?_
  subst he
  exact ⟨_, rfl, _, _, _, [], _, [], hW', trodAll_mk1 (shut_bool Try.underlying4 _), (trodAll_cons_mk (Below.trod laidOut (by kernel_rfl) (of_decide_eq_true (by kernel_rfl)) k0 bel lt0) (trodAll_cons_mk (shut_int Try.underlying41 w1) (trodAll_cons_mk (shut_int Try.underlying5 w2) trodAll_mk0))), rfl, bel.frame _, fun h => by cases h⟩

theorem over : Rows.editMovesRow.holds Try.pinned (OpenSpec.ofChange Rows.editMovesSpec) :=
  OpenClaim.holds_of_wide 12 Try.f12 rfl rfl rfl rfl rfl rfl rfl ⟨rfl, rfl, rfl, rfl, rfl⟩ rfl rfl rfl rfl rfl (by kernel_rfl) Try.func12 (by kernel_rfl)
    (of_decide_eq_true (by kernel_rfl)) (by unfold Func.isWrapper; first | (rw [if_pos (by decide +kernel)]; kernel_rfl) | (rw [if_neg (by decide +kernel)]; exact ⟨rfl, rfl⟩))
    (fun os started H enc _ => lifted os started H enc)

theorem proved : Rows.EditMovesSaid := over
end Go.Proofs.Ytkjffielnmdpcaa.editMoves
