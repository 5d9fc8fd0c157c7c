/- That the law WarpMoves returns true for every input that can be read, and leaves its arguments as they were; no further condition. -/
import Derived.Test.YtkjffielnmdpcaaRows
import Derived.WalkKit
import Derived.ProofKit
import Derived.OpenShut
import Derived.Test.YtkjffielnmdpcaaWords
import Derived.Test.YtkjffielnmdpcaaSrcNew0
import Derived.Test.YtkjffielnmdpcaaWarp10
import Derived.ShutString
import Derived.ChangeOld
import Derived.Below
namespace Go.Proofs.Ytkjffielnmdpcaa.warpMoves
open Go.ChangeShapes Go.WideShapes Go.ChangeAt Go.RowKit Wo
open Go.ChangeMaps (open_string shut_string)
set_option linter.unusedVariables false

theorem own : ownKnob Try.prog.godebug = none := by kernel_rfl
theorem laidOut : laidOutB Try.prog = true := by kernel_rfl

/-- WHAT THE WALK IS TOLD OF A SLICE OF INTEGERS THAT CAME IN: it is nil; or it leads to a row of 'cap' cells, the numbers 'zs' (the first 'len' are its elements, the rest its spare room), each fitting its kind. -/
def IsRow (k : IntKind) (w : World) (a : Option Addr) (len cap : Nat) (zs : List Int) : Prop :=
  (a = none ∧ len = 0 ∧ cap = 0 ∧ zs = []) ∨
  ∃ x, a = some x ∧ len ≤ cap ∧ cap ≤ maxLen ∧ zs.length = cap ∧ (∀ i, i < zs.length → w.cell? (x.add i) = some (.int k (zs.getD i 0))) ∧ ∀ n ∈ zs, (Lit.int k n).wf = true

open Go.Proofs.Ytkjffielnmdpcaa.Wa Go.Proofs.Ytkjffielnmdpcaa.Ed Go.Proofs.Ytkjffielnmdpcaa.Wi Go.Proofs.Ytkjffielnmdpcaa.Wo Go.Proofs.Ytkjffielnmdpcaa.Sr in
set_option maxHeartbeats 4000000 in
set_option maxRecDepth 100000 in
theorem walk (a0 : Option Addr) (len0 cap0 : Nat) (z0 : List Int) (a1 : Int) (w : World) (w0 : IsRow .i64 w a0 len0 cap0 z0) (w1 : (Lit.int .i8 a1).wf = true) :
    Calls Try.prog 6 #[.slice a0 len0 cap0, .int .i8 a1] w fun e w' => e = .returned (.bool true) ∧ Below w.heap.size w w' := by
  have b1 := bounds_i8 w1
  obtain ⟨j1, j2⟩ := b1
  clear w1
  have AW : Hid (∀ W, Calls Try.prog 20 #[] W fun e w' => e = .returned (.bool true) ∧ Bel W w') := awake_any
  go_enter Try.func6, Try.ntmps6
  go_wp2_with fail
  go_at_call 14
  refine (new_any a0 len0 cap0 z0 w w0).mono ?_
  rintro e v1 ⟨q, rfl, hq, ho1, hb1⟩
  have HO := Lib.hid ho1
  have HBa : Hid (Bel w v1) := hb1
  clear ho1 hb1
  go_wp2_with fail
  go_at_call 15
  refine (uneven_any q _ HO.out).mono ?_
  rintro e v2 ⟨xa, xb, ya, yb, n, m, L, M, k, rfl, n1, n2, m1, m2, hxy, hcx, hcy, k0, k1, k2, k3, hox, hoy, lL, lM, sL, sM, ho2, hc2⟩
  have HBb : Hid (Bel w v2) := Bel.ch HBa.out hc2 (by have := hq; omega)
  have zx : Zi v2 (some ⟨xa, 0, none⟩) n L := own_zi hox lL
  have zy : Zi v2 (some ⟨ya, 0, none⟩) m M := own_zi hoy lM
  have hxv := hox.lt xa rfl
  have hyv := hoy.lt ya rfl
  have HOX := Lib.hid hox
  have HOY := Lib.hid hoy
  clear ho2 hc2 hox hoy
  have hB1 := HBa.out.size
  have hB2 := HBb.out.size
  have HLL := Lib.hid (And.intro lL (And.intro lM (And.intro sL sM)))
  obtain ⟨PP, hPP⟩ : ∃ P, L.map fif = P := ⟨_, rfl⟩
  obtain ⟨QQ, hQQ⟩ : ∃ P, M.map fif = P := ⟨_, rfl⟩
  have HPX : Hid (PP.length = n ∧ (∀ x ∈ PP, -800 ≤ x ∧ x ≤ 800) ∧ L.map fif = PP) := ⟨by rw [← hPP, List.length_map]; exact lL, fun x hx => by
    rw [← hPP] at hx
    obtain ⟨z, hz1, rfl⟩ := List.mem_map.1 hx
    have := sL z hz1
    exact fif_in this.1 this.2, hPP⟩
  have HQY : Hid (QQ.length = m ∧ (∀ x ∈ QQ, -800 ≤ x ∧ x ≤ 800) ∧ M.map fif = QQ) := ⟨by rw [← hQQ, List.length_map]; exact lM, fun x hx => by
    rw [← hQQ] at hx
    obtain ⟨z, hz1, rfl⟩ := List.mem_map.1 hx
    have := sM z hz1
    exact fif_in this.1 this.2, hQQ⟩
  clear hPP hQQ lL lM sL sM zx zy w0
  have HRv2 : Hid (SL L a1 n xa xb v1.heap.size v2 (.slice none 0 0) (.int .i64 0) v2) := ⟨0, _, _, rfl, rfl, by omega, rfl, by have := HOX.out; simpa [mix] using this, World.ownsRow_nil _ _ _ _, Ch.rf, Nat.le_refl _⟩
  go_wp2
  go_loopw [8, 31] (fun sa sb wr => SL L a1 n xa xb v1.heap.size v2 sa sb wr) (fun _ sb _ => n - (intOf sb).toNat)
  case atStart => exact HRv2.out
  case round =>
    clear HRv2
    obtain ⟨t, wr, u, hwr, hu, ht, rfl, hx, hz, hb, hB⟩ := hrel
    subst hwr hu
    have HXX := Lib.hid hx
    have HZZ := Lib.hid hz
    have HBB := Lib.hid hb
    have lX : L.length = n := HLL.out.1
    rcases Nat.lt_or_ge t n with hlt | hge
    · have c1 := (own_zi hx (by rw [mix_len]; exact lX)).at t hlt
      rw [mix_at fif L t (by omega)] at c1
      have f1 := own_fr hx t
      have px := HLL.out.2.2.1.at t
      obtain ⟨x, hxx⟩ : ∃ x, L.getD t 0 = x := ⟨_, rfl⟩
      rw [hxx] at c1 px
      obtain ⟨x0, x1⟩ := px
      have py := fif_in x0 x1
      obtain ⟨y, hy⟩ : ∃ y, fif x = y := ⟨_, rfl⟩
      rw [hy] at py
      obtain ⟨y0, y1⟩ := py
      have hq : (x * 4).tdiv 5 = y := hy
      have HY : Hid (fif (L.getD t 0) = y) := by show _ = _; rw [hxx, hy]
      have ti : (t : Int) < (n : Int) := by omega
      have hown1 := ownsRow_setCell_below hz (a := ⟨xa, t, none⟩) hxv.2 (.int .i64 y)
      have HOW := Lib.hid hown1
      have wsz : (wr.setCell ⟨xa, t, none⟩ (.int .i64 y)).heap.size = wr.heap.size := by simp [World.setCell]
      have HNB : Hid (Bk ((wr.setCell ⟨xa, t, none⟩ (.int .i64 y)).alloc (.cells #[.int .i64 (y + a1)] 3)) wr.heap.size 3 #[.int .i64 (y + a1)]) := Bk.nq _ _ _ wsz
      have wq : IntKind.i64.wrap y = y := IntWalk.i64_in _ (by omega)
      have wq2 : wrap64 y = y := IntWalk.wrap64_in _ (by omega)
      have HBS : Hid (v2.heap.size ≤ ((wr.setCell ⟨xa, t, none⟩ (.int .i64 y)).alloc (.cells #[.int .i64 (y + a1)] 3)).heap.size) := by show _ ≤ _; simp [World.setCell]; omega
      clear hx hz hb hown1 hxx hy wsz
      go_wp2_with (at_builtin; refine list_app _ rfl _ _ rfl v2.heap.size u t (((L.map fif).take t).map (· + a1)) rfl (HOW.out.alloc _) ⟨wr.heap.size, 0, none⟩ 1 1 [y + a1] rfl (zi_one HNB.out) (by omega) HBS.out ?_; intro v' w5 hown4 hgrow hat)
      have hstep := sl_step hlt lX hxv.2 HY.out HXX.out HZZ.out HBB.out hB hown4 hgrow
      have HST := Lib.hid hstep
      clear hstep hown4 hgrow hat
      go_wp2
      go_roundw
      case rel => exact HST.out
      case measure => simp [intOf]; omega
    · obtain rfl : n = t := by omega
      rw [List.take_of_length_le (by rw [List.length_map]; omega)] at hz
      have eM : mix fif L n = PP := by have := mix_all fif L; rw [lX] at this; rw [this]; exact HPX.out.2.2
      rw [eM] at hx
      rw [HPX.out.2.2] at hz
      obtain ⟨pa, pb, rfl, hpc, hpq⟩ := row_form hz (by omega)
      have zx1 : Zi wr (some ⟨xa, 0, none⟩) n PP := own_zi hx HPX.out.1
      have zp1 : Zi wr (some ⟨pa, 0, none⟩) n (PP.map (· + a1)) := own_zi hz (by rw [List.length_map]; exact HPX.out.1)
      have HPA : Hid (ya < pa) := by show _ < _; omega
      have hoy1 : wr.ownsRow v1.heap.size 3 1 (.slice (some ⟨ya, 0, none⟩) m yb) m (zs M) := HOY.out.kept hb (.inr (fun e => by have e2 : some ya = some xa := e; have := Option.some.inj e2; omega))
      have HOY1 := Lib.hid hoy1
      have HF1 : Hid (Zi wr (some ⟨xa, 0, none⟩) n PP ∧ Zi wr (some ⟨pa, 0, none⟩) n (PP.map (· + a1))) := ⟨zx1, zp1⟩
      have HW1 : Hid (Bel w wr) := Bel.ch HBb.out hb (by omega)
      have hyw : ya < wr.heap.size := by omega
      clear hx hz hb zx1 zp1 hpc hpq HXX HZZ HBB eM lX HOY hoy1
      obtain ⟨v3, hv3⟩ : ∃ v3, v3 = wr := ⟨_, rfl⟩
      subst hv3
      have HRv3 : Hid (SL M a1 m ya yb v1.heap.size v3 (.slice none 0 0) (.int .i64 0) v3) := ⟨0, _, _, rfl, rfl, by omega, rfl, by have := HOY1.out; simpa [mix] using this, World.ownsRow_nil _ _ _ _, Ch.rf, Nat.le_refl _⟩
      go_wp2
      go_loopw [9, 56] (fun sa sb wr => SL M a1 m ya yb v1.heap.size v3 sa sb wr) (fun _ sb _ => m - (intOf sb).toNat)
      case atStart => exact HRv3.out
      case round =>
        clear HRv3
        obtain ⟨t, wr, u, hwr, hu, ht, rfl, hx, hz, hb, hB⟩ := hrel
        subst hwr hu
        have HXX := Lib.hid hx
        have HZZ := Lib.hid hz
        have HBB := Lib.hid hb
        have lX : M.length = m := HLL.out.2.1
        rcases Nat.lt_or_ge t m with hlt | hge
        · have c1 := (own_zi hx (by rw [mix_len]; exact lX)).at t hlt
          rw [mix_at fif M t (by omega)] at c1
          have f1 := own_fr hx t
          have px := HLL.out.2.2.2.at t
          obtain ⟨x, hxx⟩ : ∃ x, M.getD t 0 = x := ⟨_, rfl⟩
          rw [hxx] at c1 px
          obtain ⟨x0, x1⟩ := px
          have py := fif_in x0 x1
          obtain ⟨y, hy⟩ : ∃ y, fif x = y := ⟨_, rfl⟩
          rw [hy] at py
          obtain ⟨y0, y1⟩ := py
          have hq : (x * 4).tdiv 5 = y := hy
          have HY : Hid (fif (M.getD t 0) = y) := by show _ = _; rw [hxx, hy]
          have ti : (t : Int) < (m : Int) := by omega
          have hown1 := ownsRow_setCell_below hz (a := ⟨ya, t, none⟩) hyw (.int .i64 y)
          have HOW := Lib.hid hown1
          have wsz : (wr.setCell ⟨ya, t, none⟩ (.int .i64 y)).heap.size = wr.heap.size := by simp [World.setCell]
          have HNB : Hid (Bk ((wr.setCell ⟨ya, t, none⟩ (.int .i64 y)).alloc (.cells #[.int .i64 (y + a1)] 3)) wr.heap.size 3 #[.int .i64 (y + a1)]) := Bk.nq _ _ _ wsz
          have wq : IntKind.i64.wrap y = y := IntWalk.i64_in _ (by omega)
          have wq2 : wrap64 y = y := IntWalk.wrap64_in _ (by omega)
          have HBS : Hid (v3.heap.size ≤ ((wr.setCell ⟨ya, t, none⟩ (.int .i64 y)).alloc (.cells #[.int .i64 (y + a1)] 3)).heap.size) := by show _ ≤ _; simp [World.setCell]; omega
          clear hx hz hb hown1 hxx hy wsz
          go_wp2_with (at_builtin; refine list_app _ rfl _ _ rfl v3.heap.size u t (((M.map fif).take t).map (· + a1)) rfl (HOW.out.alloc _) ⟨wr.heap.size, 0, none⟩ 1 1 [y + a1] rfl (zi_one HNB.out) (by omega) HBS.out ?_; intro v' w5 hown4 hgrow hat)
          have hstep := sl_step hlt lX hyw HY.out HXX.out HZZ.out HBB.out hB hown4 hgrow
          have HST := Lib.hid hstep
          clear hstep hown4 hgrow hat
          go_wp2
          go_roundw
          case rel => exact HST.out
          case measure => simp [intOf]; omega
        · obtain rfl : m = t := by omega
          rw [List.take_of_length_le (by rw [List.length_map]; omega)] at hz
          have eM : mix fif M m = QQ := by have := mix_all fif M; rw [lX] at this; rw [this]; exact HQY.out.2.2
          rw [eM] at hx
          rw [HQY.out.2.2] at hz
          obtain ⟨qa, qb, rfl, hqc, hqq⟩ := row_form hz (by omega)
          have zy2 : Zi wr (some ⟨ya, 0, none⟩) m QQ := own_zi hx HQY.out.1
          have zq2 : Zi wr (some ⟨qa, 0, none⟩) m (QQ.map (· + a1)) := own_zi hz (by rw [List.length_map]; exact HQY.out.1)
          have HF2 : Hid (Zi wr (some ⟨xa, 0, none⟩) n PP ∧ Zi wr (some ⟨ya, 0, none⟩) m QQ ∧ Zi wr (some ⟨pa, 0, none⟩) n (PP.map (· + a1)) ∧ Zi wr (some ⟨qa, 0, none⟩) m (QQ.map (· + a1))) :=
            ⟨HF1.out.1.ch hb (fun ad e => by cases e; show xa ≠ ya; omega), zy2, HF1.out.2.ch hb (fun ad e => by cases e; show pa ≠ ya; have := HPA.out; omega), zq2⟩
          have HW2 : Hid (Bel w wr) := Bel.ch HW1.out hb (by omega)
          clear hx hz hb zy2 zq2 hqc hqq HXX HZZ HBB HF1 HW1 eM lX HOY1
          obtain ⟨v4, hv4⟩ : ∃ v4, v4 = wr := ⟨_, rfl⟩
          subst hv4
          have HRv4 : Hid (RL PP n v4 (.slice none 0 0) (.int .i64 0) v4) := ⟨0, _, _, rfl, rfl, by omega, rfl, World.ownsRow_nil _ _ _ _, Bel.rf⟩
          go_wp2
          go_loopw [10, 81] (fun sa sb wr => RL PP n v4 sa sb wr) (fun _ sb _ => n - (intOf sb).toNat)
          case atStart => exact HRv4.out
          case round =>
            clear HRv4
            obtain ⟨t, wr, u, hwr, hu, ht, rfl, hz, hb⟩ := hrel
            subst hwr hu
            have HZZ := Lib.hid hz
            have HBB := Lib.hid hb
            rcases Nat.lt_or_ge t n with hlt | hge
            · obtain ⟨j, hj⟩ : ∃ j, n - 1 - t = j := ⟨_, rfl⟩
              have hji : (n : Int) - 1 - (t : Int) = (j : Int) := by omega
              have hjn : (j : Int) < (n : Int) := by omega
              have c1 := (HF2.out.1.bel hb).at j (by omega)
              obtain ⟨y, hy⟩ : ∃ x, PP.getD j 0 = x := ⟨_, rfl⟩
              rw [hy] at c1
              have HY := Lib.hid (And.intro hj hy)
              have ti : (t : Int) < (n : Int) := by omega
              have tb : v4.heap.size ≤ wr.heap.size := hb.size
              clear hz hb hj hy
              go_wp2_with (at_builtin; refine list_app _ rfl _ _ rfl v4.heap.size u t (PP.reverse.take t) rfl (HZZ.out.alloc _) ⟨wr.heap.size, 0, none⟩ 1 1 [y] rfl (zi_one (Bk.nw _ _ _)) (by omega) (by simp; omega) ?_; intro v' w5 hown4 hgrow hat)
              have hstep := rl_step hlt HPX.out.1 HY.out.1 HY.out.2 HZZ.out HBB.out hown4 hgrow
              have HST := Lib.hid hstep
              clear hstep hown4 hgrow hat
              go_wp2
              go_roundw
              case rel => exact HST.out
              case measure => simp [intOf]; omega
            · obtain rfl : n = t := by omega
              rw [List.take_of_length_le (by rw [List.length_reverse]; have := HPX.out.1; omega)] at hz
              obtain ⟨ra, rb, rfl, hrc, hrq⟩ := row_form hz (by omega)
              have zr3 : Zi wr (some ⟨ra, 0, none⟩) n PP.reverse := own_zi hz (by rw [List.length_reverse]; exact HPX.out.1)
              have HF3 : Hid (Zi wr (some ⟨xa, 0, none⟩) n PP ∧ Zi wr (some ⟨ya, 0, none⟩) m QQ ∧ Zi wr (some ⟨pa, 0, none⟩) n (PP.map (· + a1)) ∧ Zi wr (some ⟨qa, 0, none⟩) m (QQ.map (· + a1)) ∧ Zi wr (some ⟨ra, 0, none⟩) n PP.reverse) :=
                ⟨HF2.out.1.bel hb, HF2.out.2.1.bel hb, HF2.out.2.2.1.bel hb, HF2.out.2.2.2.bel hb, zr3⟩
              have HW3 : Hid (Bel w wr) := HW2.out.tr hb
              clear hz hb zr3 hrc hrq HZZ HBB HF2 HW2
              obtain ⟨v5, hv5⟩ : ∃ v5, v5 = wr := ⟨_, rfl⟩
              subst hv5
              have HRv5 : Hid (RL QQ m v5 (.slice none 0 0) (.int .i64 0) v5) := ⟨0, _, _, rfl, rfl, by omega, rfl, World.ownsRow_nil _ _ _ _, Bel.rf⟩
              go_wp2
              go_loopw [11, 98] (fun sa sb wr => RL QQ m v5 sa sb wr) (fun _ sb _ => m - (intOf sb).toNat)
              case atStart => exact HRv5.out
              case round =>
                clear HRv5
                obtain ⟨t, wr, u, hwr, hu, ht, rfl, hz, hb⟩ := hrel
                subst hwr hu
                have HZZ := Lib.hid hz
                have HBB := Lib.hid hb
                rcases Nat.lt_or_ge t m with hlt | hge
                · obtain ⟨j, hj⟩ : ∃ j, m - 1 - t = j := ⟨_, rfl⟩
                  have hji : (m : Int) - 1 - (t : Int) = (j : Int) := by omega
                  have hjn : (j : Int) < (m : Int) := by omega
                  have c1 := (HF3.out.2.1.bel hb).at j (by omega)
                  obtain ⟨y, hy⟩ : ∃ x, QQ.getD j 0 = x := ⟨_, rfl⟩
                  rw [hy] at c1
                  have HY := Lib.hid (And.intro hj hy)
                  have ti : (t : Int) < (m : Int) := by omega
                  have tb : v5.heap.size ≤ wr.heap.size := hb.size
                  clear hz hb hj hy
                  go_wp2_with (at_builtin; refine list_app _ rfl _ _ rfl v5.heap.size u t (QQ.reverse.take t) rfl (HZZ.out.alloc _) ⟨wr.heap.size, 0, none⟩ 1 1 [y] rfl (zi_one (Bk.nw _ _ _)) (by omega) (by simp; omega) ?_; intro v' w5 hown4 hgrow hat)
                  have hstep := rl_step hlt HQY.out.1 HY.out.1 HY.out.2 HZZ.out HBB.out hown4 hgrow
                  have HST := Lib.hid hstep
                  clear hstep hown4 hgrow hat
                  go_wp2
                  go_roundw
                  case rel => exact HST.out
                  case measure => simp [intOf]; omega
                · obtain rfl : m = t := by omega
                  rw [List.take_of_length_le (by rw [List.length_reverse]; have := HQY.out.1; omega)] at hz
                  obtain ⟨sa, sb, rfl, hsc, hsq⟩ := row_form hz (by omega)
                  have zs4 : Zi wr (some ⟨sa, 0, none⟩) m QQ.reverse := own_zi hz (by rw [List.length_reverse]; exact HQY.out.1)
                  have HF4 : Hid (Zi wr (some ⟨xa, 0, none⟩) n PP ∧ Zi wr (some ⟨ya, 0, none⟩) m QQ ∧ Zi wr (some ⟨pa, 0, none⟩) n (PP.map (· + a1)) ∧ Zi wr (some ⟨qa, 0, none⟩) m (QQ.map (· + a1)) ∧ Zi wr (some ⟨ra, 0, none⟩) n PP.reverse ∧ Zi wr (some ⟨sa, 0, none⟩) m QQ.reverse) :=
                    ⟨HF3.out.1.bel hb, HF3.out.2.1.bel hb, HF3.out.2.2.1.bel hb, HF3.out.2.2.2.1.bel hb, HF3.out.2.2.2.2.bel hb, zs4⟩
                  have HW4 : Hid (Bel w wr) := HW3.out.tr hb
                  clear hz hb zs4 hsc hsq HZZ HBB HF3 HW3
                  have lP := HPX.out.1
                  have lQ := HQY.out.1
                  have bP := HPX.out.2.1
                  have bQ := HQY.out.2.1
                  have sP : Sam PP := fun x hx => by have := bP x hx; omega
                  have sQ : Sam QQ := fun x hx => by have := bQ x hx; omega
                  have sPb : Sam (PP.map (· + a1)) := fun y hy => by
                    obtain ⟨x, hx, rfl⟩ := List.mem_map.1 hy
                    have := bP x hx
                    show _ ∧ _
                    omega
                  have sQb : Sam (QQ.map (· + a1)) := fun y hy => by
                    obtain ⟨x, hx, rfl⟩ := List.mem_map.1 hy
                    have := bQ x hx
                    show _ ∧ _
                    omega
                  have sPr : Sam PP.reverse := fun x hx => sP x (by simpa using hx)
                  have sQr : Sam QQ.reverse := fun x hx => sQ x (by simpa using hx)
                  have D1 : Hid (∀ W, Bel wr W → _) := fun W hW => distance_ok (some ⟨xa, 0, none⟩) (some ⟨ya, 0, none⟩) xb yb n m PP QQ k n1 n2 m1 m2 k0 k1 k2 k3 sP sQ W (HF4.out.1.bel hW) (HF4.out.2.1.bel hW)
                  have D2 : Hid (∀ W, Bel wr W → _) := fun W hW => distance_ok (some ⟨pa, 0, none⟩) (some ⟨qa, 0, none⟩) pb qb n m (PP.map (· + a1)) (QQ.map (· + a1)) k n1 n2 m1 m2 k0 k1 k2 k3 sPb sQb W (HF4.out.2.2.1.bel hW) (HF4.out.2.2.2.1.bel hW)
                  have D3 : Hid (∀ W, Bel wr W → _) := fun W hW => distance_ok (some ⟨ra, 0, none⟩) (some ⟨sa, 0, none⟩) rb sb n m PP.reverse QQ.reverse k n1 n2 m1 m2 k0 k1 k2 k3 sPr sQr W (HF4.out.2.2.2.2.1.bel hW) (HF4.out.2.2.2.2.2.bel hW)
                  have e2 : wt (PP.map (· + a1)) (QQ.map (· + a1)) k n m = wt PP QQ k n m := (wt_cong (n := n) (m := m) (fun i j hi hj => by
                    unfold cst
                    rw [map_at _ _ _ (by omega), map_at _ _ _ (by omega)]
                    rw [show PP.getD i 0 + a1 - (QQ.getD j 0 + a1) = PP.getD i 0 - QQ.getD j 0 by omega]) _ n m rfl (Nat.le_refl _) (Nat.le_refl _)).symm
                  have e3 : n = m → wt PP.reverse QQ.reverse k n m = wt PP QQ k n m := fun e => by
                    subst e
                    exact wt_rev sP sQ k0 lP lQ (by omega) (by omega)
                  rw [e2] at D2
                  obtain ⟨a, ha⟩ : ∃ a, wt PP QQ k n m = a := ⟨_, rfl⟩
                  obtain ⟨c, hc⟩ : ∃ a, wt PP.reverse QQ.reverse k n m = a := ⟨_, rfl⟩
                  rw [ha] at D1 D2 e3
                  rw [hc] at D3 e3
                  have HLA := Lib.hid (And.intro ha (And.intro hc e3))
                  have ka : (a == a) = true := by simp
                  clear e2 e3 ha hc sP sQ sPb sQb sPr sQr bP bQ lP lQ
                  go_wp2_with fail
                  go_at_call 16
                  refine (D1.out _ Bel.rf).mono ?_
                  rintro e p1 ⟨rfl, hb⟩
                  have HD_p1 : Hid (Bel wr p1) := hb
                  clear hb
                  go_wp2_with fail
                  go_at_call 16
                  refine (D2.out _ HD_p1.out).mono ?_
                  rintro e p2 ⟨rfl, hb⟩
                  have HD_p2 : Hid (Bel wr p2) := HD_p1.out.tr hb
                  clear hb
                  go_wp2_with fail
                  go_at_call 16
                  refine (D3.out _ HD_p2.out).mono ?_
                  rintro e p3 ⟨rfl, hb⟩
                  have HD_p3 : Hid (Bel wr p3) := HD_p2.out.tr hb
                  clear hb
                  rcases Classical.em (n = m) with hnm | hnm
                  · obtain rfl : c = a := HLA.out.2.2 hnm
                    subst hnm
                    have nn : ((n : Int) != (n : Int)) = false := by simp
                    go_wp2_with (go_at_call 20; refine (AW.out _).mono ?_; rintro e w9 ⟨rfl, hb9⟩)
                    go_ret
                    exact ⟨rfl, ((HW4.out.tr HD_p3.out).tr hb9).bl⟩
                  · have nm1 : ¬ (n : Int) = (m : Int) := by omega
                    have nm2 : ((n : Int) != (m : Int)) = true := by simp; omega
                    go_wp2_with (go_at_call 20; refine (AW.out _).mono ?_; rintro e w9 ⟨rfl, hb9⟩)
                    go_ret
                    exact ⟨rfl, ((HW4.out.tr HD_p3.out).tr hb9).bl⟩

set_option maxRecDepth 100000 in
theorem lifted (os : Os) (started : os.Started) (H : Type) (enc : TypeId × Value → H) :
    ReturnsInHanded {} Try.checked os 6 .any (Rows.warpMovesSpec.pre6 enc Try.prog Try.f6 Rows.warpMovesRow.domain false) (Rows.warpMovesSpec.post enc Try.prog Try.f6 false true false false) := by
  refine returnsInHanded_of_change (C := Try.checked) own started (by kernel_rfl) Try.func6
    (ChangeSpec.witness6 (enc := enc) (C := Try.checked) false ⟨#[], #[.slice none 0 0, .int .i8 0], []⟩ 8 (by kernel_rfl) (by kernel_rfl) (by kernel_rfl) (by kernel_rfl)) ?_
  intro W base args ds gs before hval0 hW hcnd _
  have hval : ∀ (j : Nat) t v, Try.f6.params[j]? = some t → args[j]? = some v → Value.okWide Try.prog W .any base t v := hval0
  have hW' := hW
  obtain ⟨p, q, hA0, hV, rfl, hfz, hnd⟩ := hW
  have hA : DataW.TrodAll enc Try.prog W 0 (fun _ => true) true Try.f6.params.toList args.toList ds p := hA0
  rw [Try.params6] at hA hval
  obtain ⟨v0, vs0, d0, ds0, p0, q0, hargs, rfl, rfl, h0, r0⟩ := trodAll_cons hA
  obtain ⟨v1, vs1, d1, ds1, p1, q1, rfl, rfl, rfl, h1, r1⟩ := trodAll_cons r0
  obtain ⟨rfl, rfl, rfl⟩ := trodAll_nil r1
  obtain rfl : args = #[v0, v1] := by cases args; simp_all
  obtain ⟨rfl, rfl⟩ := trodVars_none hV
  obtain ⟨a0, len0, cap0, rfl⟩ := okWide_slice Try.underlying22 (hval 0 22 v0 rfl rfl)
  have k0 := h0
  have lt0 : ∀ x ∈ p0, x.block < W.heap.size := by obtain ⟨m, hm⟩ := k0; exact DataW.trod_lt m _ _ _ hm
  obtain ⟨z0, w0⟩ : ∃ zs, IsRow .i64 W a0 len0 cap0 zs := by
    obtain ⟨fuel, hf⟩ := h0
    rcases open_ints Try.underlying22 Try.underlying3 (by kernel_rfl) hf with ⟨hcs, _⟩ | ⟨x, l, c, zs, hcs, _, hl, hm, hz, _, hcell, hwz⟩
    · simp [Value.cells] at hcs
      obtain ⟨rfl, rfl, rfl⟩ := hcs
      exact ⟨[], .inl ⟨rfl, rfl, rfl, rfl⟩⟩
    · simp [Value.cells] at hcs
      obtain ⟨rfl, rfl, rfl⟩ := hcs
      exact ⟨zs, .inr ⟨_, rfl, hl, hm, by simpa using hz, hcell, hwz⟩⟩
  obtain ⟨a1, rfl, rfl, rfl, w1⟩ := open_int Try.underlying41 (hval 1 41 v1 rfl rfl) h1
  clear hA0 hval0
  refine (walk a0 len0 cap0 z0 a1 W w0 w1).mono fun e W' ⟨he, bel⟩ => ?_
  subst he
  exact ⟨_, rfl, _, _, _, [], _, [], hW', trodAll_mk1 (shut_bool Try.underlying4 _), (trodAll_cons_mk (Below.trod laidOut (by kernel_rfl) (of_decide_eq_true (by kernel_rfl)) k0 bel lt0) (trodAll_cons_mk (shut_int Try.underlying41 w1) trodAll_mk0)), rfl, bel.frame _, fun h => by cases h⟩

theorem over : Rows.warpMovesRow.holds Try.pinned (OpenSpec.ofChange Rows.warpMovesSpec) :=
  OpenClaim.holds_of_wide 6 Try.f6 rfl rfl rfl rfl rfl rfl rfl ⟨rfl, rfl, rfl, rfl, rfl⟩ rfl rfl rfl rfl rfl (by kernel_rfl) Try.func6 (by kernel_rfl)
    (of_decide_eq_true (by kernel_rfl)) (by unfold Func.isWrapper; first | (rw [if_pos (by decide +kernel)]; kernel_rfl) | (rw [if_neg (by decide +kernel)]; exact ⟨rfl, rfl⟩))
    (fun os started H enc _ => lifted os started H enc)

theorem proved : Rows.WarpMovesSaid := over
end Go.Proofs.Ytkjffielnmdpcaa.warpMoves
