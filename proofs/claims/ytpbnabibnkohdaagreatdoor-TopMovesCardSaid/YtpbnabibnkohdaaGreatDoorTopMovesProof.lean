/- That the law TopMoves returns true for every input that can be read, and leaves its arguments as they were; the package variables that it lists start as the program lays them, which the card ties to the text; no further condition. -/
import Derived.Test.YtpbnabibnkohdaaGreatDoorRows
import Derived.WalkKit
import Derived.ProofKit
import Derived.OpenShut
import Derived.LaidMore
import Derived.Stop.Joined
import Derived.SevenTiedAt
import Derived.Test.YtpbnabibnkohdaaGreatDoorCards
import Derived.Test.YtpbnabibnkohdaaGreatDoorTie
import Derived.Test.YtpbnabibnkohdaaGreatDoorGm1
import Derived.Test.YtpbnabibnkohdaaGreatDoorGm2
import Derived.Test.YtpbnabibnkohdaaGreatDoorGm3
import Derived.Test.YtpbnabibnkohdaaGreatDoorGm4
import Derived.Test.YtpbnabibnkohdaaGreatDoorGm5
import Derived.Test.YtpbnabibnkohdaaGreatDoorGm6
import Derived.Test.YtpbnabibnkohdaaGreatDoorGm7
import Derived.Test.YtpbnabibnkohdaaGreatDoorGm8
import Derived.ShutString
import Derived.ChangeOld
import Derived.Below
namespace Go.Proofs.YtpbnabibnkohdaaGreatDoor.topMoves
open Go.ChangeShapes Go.WideShapes Go.ChangeAt Go.RowKit Wo
open Go.ChangeMaps (open_string shut_string)
set_option linter.unusedVariables false

theorem own : ownKnob Tryz.prog.godebug = none := by kernel_rfl
theorem laidOut : laidOutB Tryz.prog = true := by kernel_rfl

/-- WHAT THE WALK IS TOLD OF A SLICE OF INTEGERS THAT CAME IN: it is nil; or it leads to a row of 'cap' cells, the numbers 'zs' (the first 'len' are its elements, the rest its spare room), each fitting its kind. -/
def IsRow (k : IntKind) (w : World) (a : Option Addr) (len cap : Nat) (zs : List Int) : Prop :=
  (a = none ∧ len = 0 ∧ cap = 0 ∧ zs = []) ∨
  ∃ x, a = some x ∧ len ≤ cap ∧ cap ≤ maxLen ∧ zs.length = cap ∧ (∀ i, i < zs.length → w.cell? (x.add i) = some (.int k (zs.getD i 0))) ∧ ∀ n ∈ zs, (Lit.int k n).wf = true

open Go.Proofs.YtpbnabibnkohdaaGreatDoor.Ed Go.Proofs.YtpbnabibnkohdaaGreatDoor.Ms Go.Proofs.YtpbnabibnkohdaaGreatDoor.Wi Go.Proofs.YtpbnabibnkohdaaGreatDoor.Wo Go.Proofs.YtpbnabibnkohdaaGreatDoor.Sr Go.Proofs.YtpbnabibnkohdaaGreatDoor.Ra Go.Proofs.YtpbnabibnkohdaaGreatDoor.Tp in
set_option maxHeartbeats 16000000 in
set_option maxRecDepth 100000 in
theorem walk (a0 : Option Addr) (len0 cap0 : Nat) (z0 : List Int) (a1 : Int) (w : World) (hL : Tp.Lt w) (w0 : IsRow .i64 w a0 len0 cap0 z0) (w1 : (Lit.int .i8 a1).wf = true) :
    Calls Tryz.prog 4 #[.slice a0 len0 cap0, .int .i8 a1] w fun e w' => e = .returned (.bool true) ∧ Below w.heap.size w w' := by
  have b1 := bounds_i8 w1
  obtain ⟨j1, j2⟩ := b1
  have HWF := Lib.hid w1
  clear w1
  have AW : Hid (∀ W, Bel w W → Calls Tryz.prog 13 #[] W fun e w' => e = .returned (.bool true) ∧ Bel W w') := fun W hW => running_any W (Un.Pows.bel hL hW)
  clear hL
  go_enter Tryz.func4, Tryz.ntmps4
  go_wp2_with fail
  go_at_call 6
  refine (new_any a0 len0 cap0 z0 w w0).mono ?_
  rintro e v1 ⟨q, rfl, hq, ho1, hb1⟩
  have HO := Lib.hid ho1
  have HBa : Hid (Bel w v1) := hb1
  clear ho1 hb1
  go_wp2_with fail
  go_at_call 14
  refine (measure_any q _ HO.out).mono ?_
  rintro e u1 ⟨k, b, g, rfl, hmv, ho, hc⟩
  have HBm : Hid (Bel w u1) := Bel.ch HBa.out hc (by have := hq; omega)
  have HO1 : Hid (Ok (u1.alloc (.cells #[.int .i64 k, .int .i64 b, .int .i64 g] 38)) q) := ho.bel (Bel.rf.al _)
  have HKm : Hid (Bk (u1.alloc (.cells #[.int .i64 k, .int .i64 b, .int .i64 g] 38)) u1.heap.size 38 #[.int .i64 k, .int .i64 b, .int .i64 g]) := Bk.nw _ _ _
  have QL : q < u1.heap.size := ho.lt
  have hv1u : v1.heap.size ≤ u1.heap.size := hc.sz
  clear ho hc
  have HMV := Lib.hid hmv
  clear hmv
  go_wp2_with fail
  go_at_call 15
  refine (suited_x q k b g HMV.out _ HO1.out).mono ?_
  rintro e v2 ⟨xa, xb, ya, yb, n, m, L, M, rfl, n1, n2, m1, m2, hf, hxy, hox0, hoy0, lL, lM, sL, sM, ho2, hc2⟩
  have HFT := Lib.hid hf
  have HKv := Lib.hid (hc2.bk HKm.out (by have := QL; omega))
  have HBb : Hid (Bel w v2) := Bel.ch (HBm.out.al _) hc2 (by have := hq; omega)
  have sz1 : (u1.alloc (.cells #[.int .i64 k, .int .i64 b, .int .i64 g] 38)).heap.size = u1.heap.size + 1 := by simp
  have hxm := (hox0.lt xa rfl).1
  have hym := (hoy0.lt ya rfl).1
  rw [sz1] at hxm hym
  have hox : v2.ownsRow v1.heap.size 3 1 (.slice (some ⟨xa, 0, none⟩) n xb) n (zs L) := own_low hox0 (by omega)
  have hoy : v2.ownsRow v1.heap.size 3 1 (.slice (some ⟨ya, 0, none⟩) m yb) m (zs M) := own_low hoy0 (by omega)
  have hxv := hox.lt xa rfl
  have hyv := hoy.lt ya rfl
  have HOX := Lib.hid hox
  have HOY := Lib.hid hoy
  clear ho2 hc2 hox hoy hox0 hoy0 hf sz1
  have hB1 := HBa.out.size
  have hB2 := HBb.out.size
  have HLL := Lib.hid (And.intro lL (And.intro lM (And.intro sL sM)))
  obtain ⟨PP, hPP⟩ : ∃ P, L.map fif = P := ⟨_, rfl⟩
  obtain ⟨QQ, hQQ⟩ : ∃ P, M.map fif = P := ⟨_, rfl⟩
  have HPX : Hid (PP.length = n ∧ (∀ x ∈ PP, -800 ≤ x ∧ x ≤ 800) ∧ L.map fif = PP) := ⟨by rw [← hPP, List.length_map]; exact lL, fun x hx => by
    rw [← hPP] at hx
    obtain ⟨z, hz1, rfl⟩ := List.mem_map.1 hx
    have := sL z hz1
    exact fif_in this.1 this.2, hPP⟩
  have HQY : Hid (QQ.length = m ∧ (∀ x ∈ QQ, -800 ≤ x ∧ x ≤ 800) ∧ M.map fif = QQ) := ⟨by rw [← hQQ, List.length_map]; exact lM, fun x hx => by
    rw [← hQQ] at hx
    obtain ⟨z, hz1, rfl⟩ := List.mem_map.1 hx
    have := sM z hz1
    exact fif_in this.1 this.2, hQQ⟩
  clear hPP hQQ lL lM sL sM w0
  have HRv2 : Hid (SL L a1 n xa xb v1.heap.size v2 (.slice none 0 0) (.int .i64 0) v2) := ⟨0, _, _, rfl, rfl, by omega, rfl, by have := HOX.out; simpa [mix] using this, World.ownsRow_nil _ _ _ _, Ch.rf, Nat.le_refl _⟩
  go_wp2
  go_loopw [9, 30] (fun sa sb wr => SL L a1 n xa xb v1.heap.size v2 sa sb wr) (fun _ sb _ => n - (intOf sb).toNat)
  case atStart => exact HRv2.out
  case round =>
    clear HRv2
    obtain ⟨t, wr, u, hwr, hu, ht, rfl, hx, hz, hb, hB⟩ := hrel
    subst hwr hu
    have HXX := Lib.hid hx
    have HZZ := Lib.hid hz
    have HBB := Lib.hid hb
    have lX : L.length = n := HLL.out.1
    rcases Nat.lt_or_ge t n with hlt | hge
    · have c1 := (own_zi hx (by rw [mix_len]; exact lX)).at t hlt
      rw [mix_at fif L t (by omega)] at c1
      have f1 := own_fr hx t
      have px := HLL.out.2.2.1.at t
      obtain ⟨x, hxx⟩ : ∃ x, L.getD t 0 = x := ⟨_, rfl⟩
      rw [hxx] at c1 px
      obtain ⟨x0, x1⟩ := px
      have py := fif_in x0 x1
      obtain ⟨y, hy⟩ : ∃ y, fif x = y := ⟨_, rfl⟩
      rw [hy] at py
      obtain ⟨y0, y1⟩ := py
      have hq : (x * 4).tdiv 5 = y := hy
      have HY : Hid (fif (L.getD t 0) = y) := by show _ = _; rw [hxx, hy]
      have ti : (t : Int) < (n : Int) := by omega
      have hown1 := ownsRow_setCell_below hz (a := ⟨xa, t, none⟩) hxv.2 (.int .i64 y)
      have HOW := Lib.hid hown1
      have wsz : (wr.setCell ⟨xa, t, none⟩ (.int .i64 y)).heap.size = wr.heap.size := by simp [World.setCell]
      have HNB : Hid (Bk ((wr.setCell ⟨xa, t, none⟩ (.int .i64 y)).alloc (.cells #[.int .i64 (y + a1)] 3)) wr.heap.size 3 #[.int .i64 (y + a1)]) := Bk.nq _ _ _ wsz
      have wq : IntKind.i64.wrap y = y := IntWalk.i64_in _ (by omega)
      have wq2 : wrap64 y = y := IntWalk.wrap64_in _ (by omega)
      have HBS : Hid (v2.heap.size ≤ ((wr.setCell ⟨xa, t, none⟩ (.int .i64 y)).alloc (.cells #[.int .i64 (y + a1)] 3)).heap.size) := by show _ ≤ _; simp [World.setCell]; omega
      clear hx hz hb hown1 hxx hy wsz
      go_wp2_with (at_builtin; refine Go.Proofs.YtpbnabibnkohdaaGreatDoor.Ed.list_app _ rfl _ _ rfl v2.heap.size u t (((L.map fif).take t).map (· + a1)) rfl (HOW.out.alloc _) ⟨wr.heap.size, 0, none⟩ 1 1 [y + a1] rfl (Go.Proofs.YtpbnabibnkohdaaGreatDoor.Ed.zi_one HNB.out) (by omega) HBS.out ?_; intro v' w5 hown4 hgrow hat)
      have hstep := sl_step hlt lX hxv.2 HY.out HXX.out HZZ.out HBB.out hB hown4 hgrow
      have HST := Lib.hid hstep
      clear hstep hown4 hgrow hat
      go_wp2
      go_roundw
      case rel => exact HST.out
      case measure => simp [intOf]; omega
    · obtain rfl : n = t := by omega
      rw [List.take_of_length_le (by rw [List.length_map]; omega)] at hz
      have eM : mix fif L n = PP := by have := mix_all fif L; rw [lX] at this; rw [this]; exact HPX.out.2.2
      rw [eM] at hx
      rw [HPX.out.2.2] at hz
      obtain ⟨pa, pb, rfl, hpc, hpq⟩ := row_form hz (by omega)
      have zx1 : Zi wr (some ⟨xa, 0, none⟩) n PP := own_zi hx HPX.out.1
      have zp1 : Zi wr (some ⟨pa, 0, none⟩) n (PP.map (· + a1)) := own_zi hz (by rw [List.length_map]; exact HPX.out.1)
      have HPA : Hid (ya < pa) := by show _ < _; omega
      have hoy1 : wr.ownsRow v1.heap.size 3 1 (.slice (some ⟨ya, 0, none⟩) m yb) m (zs M) := HOY.out.kept hb (.inr (fun e => by have e2 : some ya = some xa := e; have := Option.some.inj e2; omega))
      have HOY1 := Lib.hid hoy1
      have HF1 : Hid (Zi wr (some ⟨xa, 0, none⟩) n PP ∧ Zi wr (some ⟨pa, 0, none⟩) n (PP.map (· + a1))) := ⟨zx1, zp1⟩
      have HW1 : Hid (Bel w wr) := Bel.ch HBb.out hb (by omega)
      have HKM1 := Lib.hid (hb.bk HKv.out (by omega))
      have hyw : ya < wr.heap.size := by omega
      clear hx hz hb zx1 zp1 hpc hpq HXX HZZ HBB eM lX HOY hoy1
      obtain ⟨v3, hv3⟩ : ∃ v3, v3 = wr := ⟨_, rfl⟩
      subst hv3
      have HRv3 : Hid (SL M a1 m ya yb v1.heap.size v3 (.slice none 0 0) (.int .i64 0) v3) := ⟨0, _, _, rfl, rfl, by omega, rfl, by have := HOY1.out; simpa [mix] using this, World.ownsRow_nil _ _ _ _, Ch.rf, Nat.le_refl _⟩
      go_wp2
      go_loopw [10, 55] (fun sa sb wr => SL M a1 m ya yb v1.heap.size v3 sa sb wr) (fun _ sb _ => m - (intOf sb).toNat)
      case atStart => exact HRv3.out
      case round =>
        clear HRv3
        obtain ⟨t, wr, u, hwr, hu, ht, rfl, hx, hz, hb, hB⟩ := hrel
        subst hwr hu
        have HXX := Lib.hid hx
        have HZZ := Lib.hid hz
        have HBB := Lib.hid hb
        have lX : M.length = m := HLL.out.2.1
        rcases Nat.lt_or_ge t m with hlt | hge
        · have c1 := (own_zi hx (by rw [mix_len]; exact lX)).at t hlt
          rw [mix_at fif M t (by omega)] at c1
          have f1 := own_fr hx t
          have px := HLL.out.2.2.2.at t
          obtain ⟨x, hxx⟩ : ∃ x, M.getD t 0 = x := ⟨_, rfl⟩
          rw [hxx] at c1 px
          obtain ⟨x0, x1⟩ := px
          have py := fif_in x0 x1
          obtain ⟨y, hy⟩ : ∃ y, fif x = y := ⟨_, rfl⟩
          rw [hy] at py
          obtain ⟨y0, y1⟩ := py
          have hq : (x * 4).tdiv 5 = y := hy
          have HY : Hid (fif (M.getD t 0) = y) := by show _ = _; rw [hxx, hy]
          have ti : (t : Int) < (m : Int) := by omega
          have hown1 := ownsRow_setCell_below hz (a := ⟨ya, t, none⟩) hyw (.int .i64 y)
          have HOW := Lib.hid hown1
          have wsz : (wr.setCell ⟨ya, t, none⟩ (.int .i64 y)).heap.size = wr.heap.size := by simp [World.setCell]
          have HNB : Hid (Bk ((wr.setCell ⟨ya, t, none⟩ (.int .i64 y)).alloc (.cells #[.int .i64 (y + a1)] 3)) wr.heap.size 3 #[.int .i64 (y + a1)]) := Bk.nq _ _ _ wsz
          have wq : IntKind.i64.wrap y = y := IntWalk.i64_in _ (by omega)
          have wq2 : wrap64 y = y := IntWalk.wrap64_in _ (by omega)
          have HBS : Hid (v3.heap.size ≤ ((wr.setCell ⟨ya, t, none⟩ (.int .i64 y)).alloc (.cells #[.int .i64 (y + a1)] 3)).heap.size) := by show _ ≤ _; simp [World.setCell]; omega
          clear hx hz hb hown1 hxx hy wsz
          go_wp2_with (at_builtin; refine Go.Proofs.YtpbnabibnkohdaaGreatDoor.Ed.list_app _ rfl _ _ rfl v3.heap.size u t (((M.map fif).take t).map (· + a1)) rfl (HOW.out.alloc _) ⟨wr.heap.size, 0, none⟩ 1 1 [y + a1] rfl (Go.Proofs.YtpbnabibnkohdaaGreatDoor.Ed.zi_one HNB.out) (by omega) HBS.out ?_; intro v' w5 hown4 hgrow hat)
          have hstep := sl_step hlt lX hyw HY.out HXX.out HZZ.out HBB.out hB hown4 hgrow
          have HST := Lib.hid hstep
          clear hstep hown4 hgrow hat
          go_wp2
          go_roundw
          case rel => exact HST.out
          case measure => simp [intOf]; omega
        · obtain rfl : m = t := by omega
          rw [List.take_of_length_le (by rw [List.length_map]; omega)] at hz
          have eM : mix fif M m = QQ := by have := mix_all fif M; rw [lX] at this; rw [this]; exact HQY.out.2.2
          rw [eM] at hx
          rw [HQY.out.2.2] at hz
          obtain ⟨qa, qb, rfl, hqc, hqq⟩ := row_form hz (by omega)
          have zy2 : Zi wr (some ⟨ya, 0, none⟩) m QQ := own_zi hx HQY.out.1
          have zq2 : Zi wr (some ⟨qa, 0, none⟩) m (QQ.map (· + a1)) := own_zi hz (by rw [List.length_map]; exact HQY.out.1)
          have HF2 : Hid (Zi wr (some ⟨xa, 0, none⟩) n PP ∧ Zi wr (some ⟨ya, 0, none⟩) m QQ ∧ Zi wr (some ⟨pa, 0, none⟩) n (PP.map (· + a1)) ∧ Zi wr (some ⟨qa, 0, none⟩) m (QQ.map (· + a1))) :=
            ⟨HF1.out.1.ch hb (fun ad e => by cases e; show xa ≠ ya; omega), zy2, HF1.out.2.ch hb (fun ad e => by cases e; show pa ≠ ya; have := HPA.out; omega), zq2⟩
          have HW2 : Hid (Bel w wr) := Bel.ch HW1.out hb (by omega)
          have HKM2 := Lib.hid (hb.bk HKM1.out (by omega))
          have HQA : Hid (u1.heap.size < qa) := by show _ < _; omega
          clear hx hz hb zy2 zq2 hqc hqq HXX HZZ HBB HF1 HW1 eM lX HOY1
          obtain ⟨v4, hv4⟩ : ∃ v4, v4 = wr := ⟨_, rfl⟩
          subst hv4
          have PB := HPX.out.2.1
          have QB := HQY.out.2.1
          have sP : Sam PP := fun x hx => by have := PB x hx; omega
          have sQ : Sam QQ := fun x hx => by have := QB x hx; omega
          have sP2 := sam_mv PB j1 j2
          have sQ2 := sam_mv QB j1 j2
          have KK : Hid (∀ G, Mv k b G → ∀ V, (Zi V (some ⟨xa, 0, none⟩) n PP ∧ Zi V (some ⟨ya, 0, none⟩) m QQ ∧ Zi V (some ⟨pa, 0, none⟩) n (PP.map (· + a1)) ∧ Zi V (some ⟨qa, 0, none⟩) m (QQ.map (· + a1))) → ∀ W, Bel V W → Calls Tryz.prog 16 #[.agg #[.int .i64 k, .int .i64 b, .int .i64 G], .slice (some ⟨xa, 0, none⟩) n xb, .slice (some ⟨ya, 0, none⟩) m yb] W fun e w' => e = .returned (.tuple #[.agg #[.int .i64 (md k b G n m PP QQ).1, .int .i64 (md k b G n m PP QQ).2], .int .i64 0]) ∧ Bel W w') := fun G hG V hV W hW => dist_any k b G hG (some ⟨xa, 0, none⟩) (some ⟨ya, 0, none⟩) xb yb n m PP QQ HFT.out n1 n2 m1 m2 sP sQ W (hV.1.bel hW) (hV.2.1.bel hW)
          have KQ : Hid (∀ G, Mv k b G → Mv k b (gmv k G a1) → ∀ V, (Zi V (some ⟨xa, 0, none⟩) n PP ∧ Zi V (some ⟨ya, 0, none⟩) m QQ ∧ Zi V (some ⟨pa, 0, none⟩) n (PP.map (· + a1)) ∧ Zi V (some ⟨qa, 0, none⟩) m (QQ.map (· + a1))) → ∀ W, Bel V W → Calls Tryz.prog 16 #[.agg #[.int .i64 k, .int .i64 b, .int .i64 (gmv k G a1)], .slice (some ⟨pa, 0, none⟩) n pb, .slice (some ⟨qa, 0, none⟩) m qb] W fun e w' => e = .returned (.tuple #[.agg #[.int .i64 (md k b G n m PP QQ).1, .int .i64 (md k b G n m PP QQ).2], .int .i64 0]) ∧ Bel W w') := fun G hG hG2 V hV W hW => by
            rw [← md_move (s := a1) hG HFT.out HPX.out.1 HQY.out.1]
            exact dist_any k b _ hG2 (some ⟨pa, 0, none⟩) (some ⟨qa, 0, none⟩) pb qb n m _ _ HFT.out n1 n2 m1 m2 sP2 sQ2 W (hV.2.2.1.bel hW) (hV.2.2.2.bel hW)
          have KV : Hid (∀ G, Mv k b G → ∀ W, _) := fun G hG W => valid_yes (md_rv hG HFT.out n1 n2 m1 m2 HPX.out.1 HQY.out.1 sP sQ) W
          have kA := HKM2.out
          have k0 : v4.cell? ⟨u1.heap.size, 0, none⟩ = some (.int .i64 k) := kA.cell 0
          have k1 : v4.cell? ⟨u1.heap.size, 1, none⟩ = some (.int .i64 b) := kA.cell 1
          have k2 : v4.cell? ⟨u1.heap.size, 2, none⟩ = some (.int .i64 g) := kA.cell 2
          have kf := kA.fr 2
          have lk := kA.lt
          have hw4 : w.heap.size ≤ u1.heap.size := HBm.out.size
          clear sP sQ sP2 sQ2 PB QB kA
          rcases Classical.em (k = 5) with hk | hk
          · obtain ⟨hb0, g0, g1⟩ : b = 0 ∧ -1000 ≤ g ∧ g ≤ 1000 := by have := HMV.out; unfold Mv at this; omega
            subst hk
            subst hb0
            have gb := fif_in g0 g1
            obtain ⟨f, hf⟩ : ∃ f, fif g = f := ⟨_, rfl⟩
            rw [hf] at gb
            obtain ⟨f0, f1⟩ := gb
            have gq : (g * 4).tdiv 5 = f := hf
            have gw : wrap64 f = f := IntWalk.wrap64_in _ (by omega)
            have hgm : gmv 5 f a1 = f + a1 := rfl
            have M1 : Mv 5 0 f := .inr (.inr ⟨rfl, rfl, by omega, by omega⟩)
            have M2 : Mv 5 0 (f + a1) := .inr (.inr ⟨rfl, rfl, by omega, by omega⟩)
            have D1' := KK.out f M1
            have D2' := KQ.out f M1 (by rw [hgm]; exact M2)
            rw [hgm] at D2'
            have VT := Lib.hid (KV.out f M1)
            obtain ⟨T, hT⟩ : ∃ T, md 5 0 f n m PP QQ = T := ⟨_, rfl⟩
            rw [hT] at D1' D2' VT
            obtain ⟨t1, t2⟩ := T
            have q1 : (t1 == t1) = true := by simp
            have q2 : (t2 == t2) = true := by simp
            have q3 := ne_self t1
            have q4 := ne_self t2
            obtain ⟨v6, hv6⟩ : ∃ v6, v4.setCell ⟨u1.heap.size, 2, none⟩ (.int .i64 f) = v6 := ⟨_, rfl⟩
            have Z6 : Hid ((Zi v6 (some ⟨xa, 0, none⟩) n PP ∧ Zi v6 (some ⟨ya, 0, none⟩) m QQ ∧ Zi v6 (some ⟨pa, 0, none⟩) n (PP.map (· + a1)) ∧ Zi v6 (some ⟨qa, 0, none⟩) m (QQ.map (· + a1)))) := by
              obtain ⟨z1, z2, z3, z4⟩ := HF2.out
              have h1 := HPA.out
              have h2 := HQA.out
              show _ ∧ _
              rw [← hv6]
              exact ⟨zi_far z1 (show xa ≠ u1.heap.size by omega) _, zi_far z2 (show ya ≠ u1.heap.size by omega) _, zi_far z3 (show pa ≠ u1.heap.size by omega) _, zi_far z4 (show qa ≠ u1.heap.size by omega) _⟩
            have HB6 : Hid (Bel w v6) := by show Bel w v6; rw [← hv6]; exact HW2.out.st (show w.heap.size ≤ u1.heap.size from hw4) _
            have HK6 : Hid (Bk v6 u1.heap.size 38 #[.int .i64 5, .int .i64 0, .int .i64 f]) := by show Bk v6 _ _ _; rw [← hv6]; exact HKM2.out.st 2 (.int .i64 f)
            have S6 : Hid (v6.heap.size = v4.heap.size) := by show _ = _; rw [← hv6]; simp [World.setCell]
            have D1 := Lib.hid (D1' v6 Z6.out)
            have D2 := Lib.hid (D2' v6 Z6.out)
            have HV6 := Lib.hid hv6
            clear hT D1' D2' hgm KK KQ KV hf M1 M2 hv6
            have HB : Hid (Bel v6 (v6.alloc (.cells #[.int .i64 5, .int .i64 0, .int .i64 (f + a1)] 38))) := Bel.rf.al _
            have HKM : Hid (Bk (v6.alloc (.cells #[.int .i64 5, .int .i64 0, .int .i64 (f + a1)] 38)) u1.heap.size 38 #[.int .i64 5, .int .i64 0, .int .i64 f]) := HK6.out.al _
            have HKN : Hid (Bk (v6.alloc (.cells #[.int .i64 5, .int .i64 0, .int .i64 (f + a1)] 38)) v4.heap.size 38 #[.int .i64 5, .int .i64 0, .int .i64 (f + a1)]) := Bk.nq _ _ _ S6.out
            go_wp2_with fail
            rw [HV6.out]
            go_at_call 16
            refine (D1.out _ HB.out).mono ?_
            rintro e v7 ⟨rfl, hb⟩
            have HBa : Hid (Bel v6 v7) := HB.out.tr hb
            have KM : Bk v7 u1.heap.size 38 #[.int .i64 5, .int .i64 0, .int .i64 f] := HKM.out.bel hb
            have cM0 : v7.cell? ⟨u1.heap.size, 0, none⟩ = some (.int .i64 5) := KM.cell 0
            have cM1 : v7.cell? ⟨u1.heap.size, 1, none⟩ = some (.int .i64 0) := KM.cell 1
            have cM2 : v7.cell? ⟨u1.heap.size, 2, none⟩ = some (.int .i64 f) := KM.cell 2
            have lM := KM.lt
            have KN : Bk v7 v4.heap.size 38 #[.int .i64 5, .int .i64 0, .int .i64 (f + a1)] := HKN.out.bel hb
            have cN0 : v7.cell? ⟨v4.heap.size, 0, none⟩ = some (.int .i64 5) := KN.cell 0
            have cN1 : v7.cell? ⟨v4.heap.size, 1, none⟩ = some (.int .i64 0) := KN.cell 1
            have cN2 : v7.cell? ⟨v4.heap.size, 2, none⟩ = some (.int .i64 (f + a1)) := KN.cell 2
            have lN := KN.lt
            replace HB : Hid (Bel v6 (v7.alloc (.cells #[.int .i64 t1, .int .i64 t2] 42))) := HBa.out.al _
            replace HKM : Hid (Bk (v7.alloc (.cells #[.int .i64 t1, .int .i64 t2] 42)) u1.heap.size 38 #[.int .i64 5, .int .i64 0, .int .i64 f]) := KM.al _
            replace HKN : Hid (Bk (v7.alloc (.cells #[.int .i64 t1, .int .i64 t2] 42)) v4.heap.size 38 #[.int .i64 5, .int .i64 0, .int .i64 (f + a1)]) := KN.al _
            have HKR : Hid (Bk (v7.alloc (.cells #[.int .i64 t1, .int .i64 t2] 42)) v7.heap.size 42 #[.int .i64 t1, .int .i64 t2]) := Bk.nw _ _ _
            clear hb HBa KM KN
            go_wp2_with fail
            go_at_call 16
            refine (D2.out _ HB.out).mono ?_
            rintro e v8 ⟨rfl, hb⟩
            have HBa : Hid (Bel v6 v8) := HB.out.tr hb
            have KM : Bk v8 u1.heap.size 38 #[.int .i64 5, .int .i64 0, .int .i64 f] := HKM.out.bel hb
            have cM0 : v8.cell? ⟨u1.heap.size, 0, none⟩ = some (.int .i64 5) := KM.cell 0
            have cM1 : v8.cell? ⟨u1.heap.size, 1, none⟩ = some (.int .i64 0) := KM.cell 1
            have cM2 : v8.cell? ⟨u1.heap.size, 2, none⟩ = some (.int .i64 f) := KM.cell 2
            have lM := KM.lt
            have KN : Bk v8 v4.heap.size 38 #[.int .i64 5, .int .i64 0, .int .i64 (f + a1)] := HKN.out.bel hb
            have cN0 : v8.cell? ⟨v4.heap.size, 0, none⟩ = some (.int .i64 5) := KN.cell 0
            have cN1 : v8.cell? ⟨v4.heap.size, 1, none⟩ = some (.int .i64 0) := KN.cell 1
            have cN2 : v8.cell? ⟨v4.heap.size, 2, none⟩ = some (.int .i64 (f + a1)) := KN.cell 2
            have lN := KN.lt
            have KR : Bk v8 v7.heap.size 42 #[.int .i64 t1, .int .i64 t2] := HKR.out.bel hb
            have cR0 : v8.cell? ⟨v7.heap.size, 0, none⟩ = some (.int .i64 t1) := KR.cell 0
            have cR1 : v8.cell? ⟨v7.heap.size, 1, none⟩ = some (.int .i64 t2) := KR.cell 1
            have lR := KR.lt
            replace HB : Hid (Bel v6 (v8.alloc (.cells #[.int .i64 t1, .int .i64 t2] 42))) := HBa.out.al _
            replace HKM : Hid (Bk (v8.alloc (.cells #[.int .i64 t1, .int .i64 t2] 42)) u1.heap.size 38 #[.int .i64 5, .int .i64 0, .int .i64 f]) := KM.al _
            replace HKN : Hid (Bk (v8.alloc (.cells #[.int .i64 t1, .int .i64 t2] 42)) v4.heap.size 38 #[.int .i64 5, .int .i64 0, .int .i64 (f + a1)]) := KN.al _
            replace HKR : Hid (Bk (v8.alloc (.cells #[.int .i64 t1, .int .i64 t2] 42)) v7.heap.size 42 #[.int .i64 t1, .int .i64 t2]) := KR.al _
            have HKS : Hid (Bk (v8.alloc (.cells #[.int .i64 t1, .int .i64 t2] 42)) v8.heap.size 42 #[.int .i64 t1, .int .i64 t2]) := Bk.nw _ _ _
            clear hb HBa KM KN KR
            go_wp2_with fail
            go_at_call 17
            refine (VT.out _).mono ?_
            rintro e v9 ⟨rfl, hb⟩
            have HBa : Hid (Bel v6 v9) := HB.out.tr hb
            have KM : Bk v9 u1.heap.size 38 #[.int .i64 5, .int .i64 0, .int .i64 f] := HKM.out.bel hb
            have cM0 : v9.cell? ⟨u1.heap.size, 0, none⟩ = some (.int .i64 5) := KM.cell 0
            have cM1 : v9.cell? ⟨u1.heap.size, 1, none⟩ = some (.int .i64 0) := KM.cell 1
            have cM2 : v9.cell? ⟨u1.heap.size, 2, none⟩ = some (.int .i64 f) := KM.cell 2
            have lM := KM.lt
            have KN : Bk v9 v4.heap.size 38 #[.int .i64 5, .int .i64 0, .int .i64 (f + a1)] := HKN.out.bel hb
            have cN0 : v9.cell? ⟨v4.heap.size, 0, none⟩ = some (.int .i64 5) := KN.cell 0
            have cN1 : v9.cell? ⟨v4.heap.size, 1, none⟩ = some (.int .i64 0) := KN.cell 1
            have cN2 : v9.cell? ⟨v4.heap.size, 2, none⟩ = some (.int .i64 (f + a1)) := KN.cell 2
            have lN := KN.lt
            have KR : Bk v9 v7.heap.size 42 #[.int .i64 t1, .int .i64 t2] := HKR.out.bel hb
            have cR0 : v9.cell? ⟨v7.heap.size, 0, none⟩ = some (.int .i64 t1) := KR.cell 0
            have cR1 : v9.cell? ⟨v7.heap.size, 1, none⟩ = some (.int .i64 t2) := KR.cell 1
            have lR := KR.lt
            have KS : Bk v9 v8.heap.size 42 #[.int .i64 t1, .int .i64 t2] := HKS.out.bel hb
            have cS0 : v9.cell? ⟨v8.heap.size, 0, none⟩ = some (.int .i64 t1) := KS.cell 0
            have cS1 : v9.cell? ⟨v8.heap.size, 1, none⟩ = some (.int .i64 t2) := KS.cell 1
            have lS := KS.lt
            replace HB : Hid (Bel v6 v9) := HBa.out
            replace HKM : Hid (Bk v9 u1.heap.size 38 #[.int .i64 5, .int .i64 0, .int .i64 f]) := KM
            replace HKN : Hid (Bk v9 v4.heap.size 38 #[.int .i64 5, .int .i64 0, .int .i64 (f + a1)]) := KN
            replace HKR : Hid (Bk v9 v7.heap.size 42 #[.int .i64 t1, .int .i64 t2]) := KR
            replace HKS : Hid (Bk v9 v8.heap.size 42 #[.int .i64 t1, .int .i64 t2]) := KS
            clear hb HBa KM KN KR KS
            go_wp2_with (go_at_call 13; refine (AW.out _ (HB6.out.tr HB.out)).mono ?_; rintro e v10 ⟨rfl, h10⟩)
            go_ret
            exact ⟨rfl, ((HB6.out.tr HB.out).tr h10).bl⟩
          · have e5 : (k == 5) = false := by simpa using hk
            have hgm : gmv k g a1 = g := by unfold gmv; rw [if_neg hk]
            have D1 := Lib.hid (KK.out g HMV.out v4 HF2.out)
            have D2' := KQ.out g HMV.out (by rw [hgm]; exact HMV.out) v4 HF2.out
            rw [hgm] at D2'
            have D2 := Lib.hid D2'
            have VT := Lib.hid (KV.out g HMV.out)
            obtain ⟨T, hT⟩ : ∃ T, md k b g n m PP QQ = T := ⟨_, rfl⟩
            rw [hT] at D1 D2 VT
            obtain ⟨t1, t2⟩ := T
            have q1 : (t1 == t1) = true := by simp
            have q2 : (t2 == t2) = true := by simp
            have q3 := ne_self t1
            have q4 := ne_self t2
            clear hT D2' hgm KK KQ KV
            have HB : Hid (Bel v4 (v4.alloc (.cells #[.int .i64 k, .int .i64 b, .int .i64 g] 38))) := Bel.rf.al _
            have HKM : Hid (Bk (v4.alloc (.cells #[.int .i64 k, .int .i64 b, .int .i64 g] 38)) u1.heap.size 38 #[.int .i64 k, .int .i64 b, .int .i64 g]) := HKM2.out.al _
            have HKN : Hid (Bk (v4.alloc (.cells #[.int .i64 k, .int .i64 b, .int .i64 g] 38)) v4.heap.size 38 #[.int .i64 k, .int .i64 b, .int .i64 g]) := Bk.nw _ _ _
            go_wp2_with fail
            go_at_call 16
            refine (D1.out _ HB.out).mono ?_
            rintro e v7 ⟨rfl, hb⟩
            have HBa : Hid (Bel v4 v7) := HB.out.tr hb
            have KM : Bk v7 u1.heap.size 38 #[.int .i64 k, .int .i64 b, .int .i64 g] := HKM.out.bel hb
            have cM0 : v7.cell? ⟨u1.heap.size, 0, none⟩ = some (.int .i64 k) := KM.cell 0
            have cM1 : v7.cell? ⟨u1.heap.size, 1, none⟩ = some (.int .i64 b) := KM.cell 1
            have cM2 : v7.cell? ⟨u1.heap.size, 2, none⟩ = some (.int .i64 g) := KM.cell 2
            have lM := KM.lt
            have KN : Bk v7 v4.heap.size 38 #[.int .i64 k, .int .i64 b, .int .i64 g] := HKN.out.bel hb
            have cN0 : v7.cell? ⟨v4.heap.size, 0, none⟩ = some (.int .i64 k) := KN.cell 0
            have cN1 : v7.cell? ⟨v4.heap.size, 1, none⟩ = some (.int .i64 b) := KN.cell 1
            have cN2 : v7.cell? ⟨v4.heap.size, 2, none⟩ = some (.int .i64 g) := KN.cell 2
            have lN := KN.lt
            replace HB : Hid (Bel v4 (v7.alloc (.cells #[.int .i64 t1, .int .i64 t2] 42))) := HBa.out.al _
            replace HKM : Hid (Bk (v7.alloc (.cells #[.int .i64 t1, .int .i64 t2] 42)) u1.heap.size 38 #[.int .i64 k, .int .i64 b, .int .i64 g]) := KM.al _
            replace HKN : Hid (Bk (v7.alloc (.cells #[.int .i64 t1, .int .i64 t2] 42)) v4.heap.size 38 #[.int .i64 k, .int .i64 b, .int .i64 g]) := KN.al _
            have HKR : Hid (Bk (v7.alloc (.cells #[.int .i64 t1, .int .i64 t2] 42)) v7.heap.size 42 #[.int .i64 t1, .int .i64 t2]) := Bk.nw _ _ _
            clear hb HBa KM KN
            go_wp2_with fail
            go_at_call 16
            refine (D2.out _ HB.out).mono ?_
            rintro e v8 ⟨rfl, hb⟩
            have HBa : Hid (Bel v4 v8) := HB.out.tr hb
            have KM : Bk v8 u1.heap.size 38 #[.int .i64 k, .int .i64 b, .int .i64 g] := HKM.out.bel hb
            have cM0 : v8.cell? ⟨u1.heap.size, 0, none⟩ = some (.int .i64 k) := KM.cell 0
            have cM1 : v8.cell? ⟨u1.heap.size, 1, none⟩ = some (.int .i64 b) := KM.cell 1
            have cM2 : v8.cell? ⟨u1.heap.size, 2, none⟩ = some (.int .i64 g) := KM.cell 2
            have lM := KM.lt
            have KN : Bk v8 v4.heap.size 38 #[.int .i64 k, .int .i64 b, .int .i64 g] := HKN.out.bel hb
            have cN0 : v8.cell? ⟨v4.heap.size, 0, none⟩ = some (.int .i64 k) := KN.cell 0
            have cN1 : v8.cell? ⟨v4.heap.size, 1, none⟩ = some (.int .i64 b) := KN.cell 1
            have cN2 : v8.cell? ⟨v4.heap.size, 2, none⟩ = some (.int .i64 g) := KN.cell 2
            have lN := KN.lt
            have KR : Bk v8 v7.heap.size 42 #[.int .i64 t1, .int .i64 t2] := HKR.out.bel hb
            have cR0 : v8.cell? ⟨v7.heap.size, 0, none⟩ = some (.int .i64 t1) := KR.cell 0
            have cR1 : v8.cell? ⟨v7.heap.size, 1, none⟩ = some (.int .i64 t2) := KR.cell 1
            have lR := KR.lt
            replace HB : Hid (Bel v4 (v8.alloc (.cells #[.int .i64 t1, .int .i64 t2] 42))) := HBa.out.al _
            replace HKM : Hid (Bk (v8.alloc (.cells #[.int .i64 t1, .int .i64 t2] 42)) u1.heap.size 38 #[.int .i64 k, .int .i64 b, .int .i64 g]) := KM.al _
            replace HKN : Hid (Bk (v8.alloc (.cells #[.int .i64 t1, .int .i64 t2] 42)) v4.heap.size 38 #[.int .i64 k, .int .i64 b, .int .i64 g]) := KN.al _
            replace HKR : Hid (Bk (v8.alloc (.cells #[.int .i64 t1, .int .i64 t2] 42)) v7.heap.size 42 #[.int .i64 t1, .int .i64 t2]) := KR.al _
            have HKS : Hid (Bk (v8.alloc (.cells #[.int .i64 t1, .int .i64 t2] 42)) v8.heap.size 42 #[.int .i64 t1, .int .i64 t2]) := Bk.nw _ _ _
            clear hb HBa KM KN KR
            go_wp2_with fail
            go_at_call 17
            refine (VT.out _).mono ?_
            rintro e v9 ⟨rfl, hb⟩
            have HBa : Hid (Bel v4 v9) := HB.out.tr hb
            have KM : Bk v9 u1.heap.size 38 #[.int .i64 k, .int .i64 b, .int .i64 g] := HKM.out.bel hb
            have cM0 : v9.cell? ⟨u1.heap.size, 0, none⟩ = some (.int .i64 k) := KM.cell 0
            have cM1 : v9.cell? ⟨u1.heap.size, 1, none⟩ = some (.int .i64 b) := KM.cell 1
            have cM2 : v9.cell? ⟨u1.heap.size, 2, none⟩ = some (.int .i64 g) := KM.cell 2
            have lM := KM.lt
            have KN : Bk v9 v4.heap.size 38 #[.int .i64 k, .int .i64 b, .int .i64 g] := HKN.out.bel hb
            have cN0 : v9.cell? ⟨v4.heap.size, 0, none⟩ = some (.int .i64 k) := KN.cell 0
            have cN1 : v9.cell? ⟨v4.heap.size, 1, none⟩ = some (.int .i64 b) := KN.cell 1
            have cN2 : v9.cell? ⟨v4.heap.size, 2, none⟩ = some (.int .i64 g) := KN.cell 2
            have lN := KN.lt
            have KR : Bk v9 v7.heap.size 42 #[.int .i64 t1, .int .i64 t2] := HKR.out.bel hb
            have cR0 : v9.cell? ⟨v7.heap.size, 0, none⟩ = some (.int .i64 t1) := KR.cell 0
            have cR1 : v9.cell? ⟨v7.heap.size, 1, none⟩ = some (.int .i64 t2) := KR.cell 1
            have lR := KR.lt
            have KS : Bk v9 v8.heap.size 42 #[.int .i64 t1, .int .i64 t2] := HKS.out.bel hb
            have cS0 : v9.cell? ⟨v8.heap.size, 0, none⟩ = some (.int .i64 t1) := KS.cell 0
            have cS1 : v9.cell? ⟨v8.heap.size, 1, none⟩ = some (.int .i64 t2) := KS.cell 1
            have lS := KS.lt
            replace HB : Hid (Bel v4 v9) := HBa.out
            replace HKM : Hid (Bk v9 u1.heap.size 38 #[.int .i64 k, .int .i64 b, .int .i64 g]) := KM
            replace HKN : Hid (Bk v9 v4.heap.size 38 #[.int .i64 k, .int .i64 b, .int .i64 g]) := KN
            replace HKR : Hid (Bk v9 v7.heap.size 42 #[.int .i64 t1, .int .i64 t2]) := KR
            replace HKS : Hid (Bk v9 v8.heap.size 42 #[.int .i64 t1, .int .i64 t2]) := KS
            clear hb HBa KM KN KR KS
            go_wp2_with (go_at_call 13; refine (AW.out _ (HW2.out.tr HB.out)).mono ?_; rintro e v10 ⟨rfl, h10⟩)
            go_ret
            exact ⟨rfl, ((HW2.out.tr HB.out).tr h10).bl⟩

noncomputable def pinWorld (os : Os) : World := { World.doorLaid Tryz.prog 400 os with heap := (World.doorLaid Tryz.prog 400 os).heap.setIfInBounds 4 (.cells (Go.Pinned.utf8FirstZ.map fun (n : Nat) => Value.int .u8 (n : Int)).toArray 240 (0, 0)) }
theorem door_met (os : Os) (args : Array Value) : laidMetH Tryz.prog [("math/bits.deBruijn32tab", Rows.laid_math_bits_deBruijn32tab), ("math/bits.deBruijn64tab", Rows.laid_math_bits_deBruijn64tab), ("internal/strconv.uint64pow10", Rows.laid_internal_strconv_uint64pow10), ("unicode/utf8.acceptRanges", Rows.laid_unicode_utf8_acceptRanges), ("strconv.ErrRange", Rows.laid_strconv_ErrRange), ("strconv.ErrSyntax", Rows.laid_strconv_ErrSyntax), ("shapesearch/unit.powers", Rows.laid_shapesearch_unit_powers), ("unicode/utf8.first", Rows.laid_unicode_utf8_first)] ((pinWorld os).forCall (fun _ _ => 0) ⟨#[], args, []⟩).memory :=
  laidMetH_of_parts3 (fuel := 8) (laidMet_of_run' 8 (by kernel_rfl) (by kernel_rfl)) (by kernel_rfl) (by kernel_rfl)
set_option maxRecDepth 100000 in
theorem lifted (os : Os) (started : os.Started) (H : Type) (enc : TypeId × Value → H) :
    ReturnsInHanded {} Tryz.checked os 4 .any (fun w args => (Rows.topMovesSpec.pre enc Tryz.prog Tryz.f4 [] false w args ∧ laidMetH Tryz.prog [("math/bits.deBruijn32tab", Rows.laid_math_bits_deBruijn32tab), ("math/bits.deBruijn64tab", Rows.laid_math_bits_deBruijn64tab), ("internal/strconv.uint64pow10", Rows.laid_internal_strconv_uint64pow10), ("unicode/utf8.acceptRanges", Rows.laid_unicode_utf8_acceptRanges), ("strconv.ErrRange", Rows.laid_strconv_ErrRange), ("strconv.ErrSyntax", Rows.laid_strconv_ErrSyntax), ("shapesearch/unit.powers", Rows.laid_shapesearch_unit_powers), ("unicode/utf8.first", Rows.laid_unicode_utf8_first)] w) ∧ sizedMet enc Tryz.prog Tryz.f4 (OpenSpec.ofChange Rows.topMovesSpec) false w args)
      (Rows.topMovesSpec.post enc Tryz.prog Tryz.f4 false true false false) := by
  refine returnsInHanded_of_change_and (C := Tryz.checked) (X := fun w _ => laidMetH Tryz.prog [("math/bits.deBruijn32tab", Rows.laid_math_bits_deBruijn32tab), ("math/bits.deBruijn64tab", Rows.laid_math_bits_deBruijn64tab), ("internal/strconv.uint64pow10", Rows.laid_internal_strconv_uint64pow10), ("unicode/utf8.acceptRanges", Rows.laid_unicode_utf8_acceptRanges), ("strconv.ErrRange", Rows.laid_strconv_ErrRange), ("strconv.ErrSyntax", Rows.laid_strconv_ErrSyntax), ("shapesearch/unit.powers", Rows.laid_shapesearch_unit_powers), ("unicode/utf8.first", Rows.laid_unicode_utf8_first)] w) (fun _ _ _ hh h => h.of_heap hh) own started (by kernel_rfl) Tryz.func4
    (ChangeSpec.witness_shaped (enc := enc) (C := Tryz.checked) (os := os) (X := fun w _ => laidMetH Tryz.prog [("math/bits.deBruijn32tab", Rows.laid_math_bits_deBruijn32tab), ("math/bits.deBruijn64tab", Rows.laid_math_bits_deBruijn64tab), ("internal/strconv.uint64pow10", Rows.laid_internal_strconv_uint64pow10), ("unicode/utf8.acceptRanges", Rows.laid_unicode_utf8_acceptRanges), ("strconv.ErrRange", Rows.laid_strconv_ErrRange), ("strconv.ErrSyntax", Rows.laid_strconv_ErrSyntax), ("shapesearch/unit.powers", Rows.laid_shapesearch_unit_powers), ("unicode/utf8.first", Rows.laid_unicode_utf8_first)] w) false (pinWorld os) #[.slice none 0 0, .int .i8 0] 8 rfl (World.shaped_of_RefB (by kernel_rfl) (by kernel_rfl)) (by kernel_rfl) (by kernel_rfl) (by kernel_rfl) (door_met os _)) ?_
  intro W base args ds gs before hval0 hW _ _ hL hsz
  have hval : ∀ (j : Nat) t v, Tryz.f4.params[j]? = some t → args[j]? = some v → Value.okWide Tryz.prog W .any base t v := hval0
  have hW' := hW
  obtain ⟨p, q, hA0, hV, rfl, hfz, hnd⟩ := hW
  have hA : DataW.TrodAll enc Tryz.prog W 0 (fun _ => true) true Tryz.f4.params.toList args.toList ds p := hA0
  rw [Tryz.params4] at hA hval
  obtain ⟨v0, vs0, d0, ds0, p0, q0, hargs, rfl, rfl, h0, r0⟩ := trodAll_cons hA
  obtain ⟨v1, vs1, d1, ds1, p1, q1, rfl, rfl, rfl, h1, r1⟩ := trodAll_cons r0
  obtain ⟨rfl, rfl, rfl⟩ := trodAll_nil r1
  obtain rfl : args = #[v0, v1] := by cases args; simp_all
  obtain ⟨rfl, rfl⟩ := trodVars_none hV
  obtain ⟨a0, len0, cap0, rfl⟩ := okWide_slice Tryz.underlying22 (hval 0 22 v0 rfl rfl)
  have k0 := h0
  have lt0 : ∀ x ∈ p0, x.block < W.heap.size := by obtain ⟨m, hm⟩ := k0; exact DataW.trod_lt m _ _ _ hm
  obtain ⟨z0, w0⟩ : ∃ zs, IsRow .i64 W a0 len0 cap0 zs := by
    obtain ⟨fuel, hf⟩ := h0
    rcases open_ints Tryz.underlying22 Tryz.underlying3 (by kernel_rfl) hf with ⟨hcs, _⟩ | ⟨x, l, c, zs, hcs, _, hl, hm, hz, _, hcell, hwz⟩
    · simp [Value.cells] at hcs
      obtain ⟨rfl, rfl, rfl⟩ := hcs
      exact ⟨[], .inl ⟨rfl, rfl, rfl, rfl⟩⟩
    · simp [Value.cells] at hcs
      obtain ⟨rfl, rfl, rfl⟩ := hcs
      exact ⟨zs, .inr ⟨_, rfl, hl, hm, by simpa using hz, hcell, hwz⟩⟩
  obtain ⟨a1, rfl, rfl, rfl, w1⟩ := open_int Tryz.underlying36 (hval 1 36 v1 rfl rfl) h1
  clear hA0 hval0
  refine (walk a0 len0 cap0 z0 a1 W (Tp.lt_of hL) w0 w1).mono fun e W' ⟨he, bel⟩ => ?_
  subst he
  exact ⟨_, rfl, _, _, _, [], _, [], hW', trodAll_mk1 (shut_bool Tryz.underlying4 _), (trodAll_cons_mk (Below.trod laidOut (by kernel_rfl) (of_decide_eq_true (by kernel_rfl)) k0 bel lt0) (trodAll_cons_mk (shut_int Tryz.underlying36 w1) trodAll_mk0)), rfl, bel.frame _, fun h => by cases h⟩

theorem over : Rows.topMovesRow.holds Tryz.pinned (OpenSpec.ofChange Rows.topMovesSpec) :=
  OpenClaim.holds_of_wide 4 Tryz.f4 rfl rfl rfl rfl rfl rfl rfl ⟨rfl, rfl, rfl, rfl, rfl⟩ rfl rfl rfl rfl rfl (by kernel_rfl) Tryz.func4 (by kernel_rfl)
    (of_decide_eq_true (by kernel_rfl)) (by unfold Func.isWrapper; first | (rw [if_pos (by decide +kernel)]; kernel_rfl) | (rw [if_neg (by decide +kernel)]; exact ⟨rfl, rfl⟩))
    (fun os started H enc _ => lifted os started H enc)

theorem proved : Rows.TopMovesCardSaid :=
  Claim7.holds_tied_plain_at .later [] [.data, .data, .data, .data, .sentinel, .sentinel, .data, .pinned] true (true, "b141cbc9322f80865e9265fb1d9648d696aa6cb162d7e691e33f3edc7f9f5847") true
    over (fun _ h => by cases h) (by kernel_rfl) (fun _ h => by cases h) topMoves_row_tie rfl ⟨rfl, rfl⟩ (by kernel_rfl) rfl
    (fun f fn hf hfn => by
      obtain rfl : f = 4 := Option.some.inj ((show Tryz.prog.funcNamed "shapesearch/shapesearchtop.TopMoves" = some 4 by kernel_rfl).symm.trans hf) |>.symm
      obtain rfl : fn = Tryz.f4 := (Option.some.inj (Tryz.func4.symm.trans hfn)).symm
      exact ⟨by kernel_rfl, fun j t ht => by
        rw [Tryz.params4] at ht
        have hm : t ∈ [22, 36] := by simpa using Array.mem_of_getElem? ht
        have hall : ([22, 36].all fun u => !Tryz.prog.wantsStandIn u) = true := by kernel_rfl
        exact (show Tryz.prog.wantsStandIn t = false by simpa using List.all_eq_true.1 hall t hm)⟩)
    (by kernel_rfl)
end Go.Proofs.YtpbnabibnkohdaaGreatDoor.topMoves
