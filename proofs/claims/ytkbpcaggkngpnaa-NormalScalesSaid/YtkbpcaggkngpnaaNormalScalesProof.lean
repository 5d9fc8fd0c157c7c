/- That the law NormalScales returns true for every input that can be read, and leaves its arguments as they were; no further condition. -/
import Derived.Test.YtkbpcaggkngpnaaRows
import Derived.WalkKit
import Derived.ProofKit
import Derived.OpenShut
import Derived.Test.YtkbpcaggkngpnaaWords
import Derived.Test.YtkbpcaggkngpnaaSrcNew0
import Derived.Test.YtkbpcaggkngpnaaNear
import Derived.Test.YtkbpcaggkngpnaaNorAwake
import Derived.Test.YtkbpcaggkngpnaaApp
import Derived.ShutString
import Derived.ChangeOld
import Derived.Below
namespace Go.Proofs.Ytkbpcaggkngpnaa.normalScales
open Go.ChangeShapes Go.WideShapes Go.ChangeAt Go.RowKit Wo
open Go.ChangeMaps (open_string shut_string)
set_option linter.unusedVariables false

theorem own : ownKnob Try.prog.godebug = none := by kernel_rfl
theorem laidOut : laidOutB Try.prog = true := by kernel_rfl

/-- WHAT THE WALK IS TOLD OF A SLICE OF INTEGERS THAT CAME IN: it is nil; or it leads to a row of 'cap' cells, the numbers 'zs' (the first 'len' are its elements, the rest its spare room), each fitting its kind. -/
def IsRow (k : IntKind) (w : World) (a : Option Addr) (len cap : Nat) (zs : List Int) : Prop :=
  (a = none ∧ len = 0 ∧ cap = 0 ∧ zs = []) ∨
  ∃ x, a = some x ∧ len ≤ cap ∧ cap ≤ maxLen ∧ zs.length = cap ∧ (∀ i, i < zs.length → w.cell? (x.add i) = some (.int k (zs.getD i 0))) ∧ ∀ n ∈ zs, (Lit.int k n).wf = true

section
open Go.Proofs.Ytkbpcaggkngpnaa.Nr Go.Proofs.Ytkbpcaggkngpnaa.Wi Go.Proofs.Ytkbpcaggkngpnaa.Wo Go.Proofs.Ytkbpcaggkngpnaa.Sr
theorem own_far {w : World} {base h n c : Nat} {xs : List Value} {e : TypeId} (hown : w.ownsRow base e 1 (.slice (some ⟨h, 0, none⟩) n c) n xs) {p : Addr} (hp : h ≠ p.block) (u : Value) : (w.setCell p u).ownsRow base e 1 (.slice (some ⟨h, 0, none⟩) n c) n xs := by
  refine ⟨hown.1, ?_⟩
  rcases hown.2 with ⟨h0, _⟩ | ⟨g, cap, cur, e1, hb, hg, h1⟩
  · cases h0
  · have e2 := e1
    injection e1 with e1 _ _
    injection e1 with e1
    cases e1
    exact .inr ⟨h, cap, cur, e2, hb, Bk.far (t := e) hg hp u, h1⟩
theorem bel_low {w a b : World} {B : Nat} (h : Bel w a) (hb : Below B a b) (hB : w.heap.size ≤ B) : Bel w b := Below.trans h (Below.mono hb hB)
end
open Go.Proofs.Ytkbpcaggkngpnaa.Nr Go.Proofs.Ytkbpcaggkngpnaa.Eu Go.Proofs.Ytkbpcaggkngpnaa.Wi Go.Proofs.Ytkbpcaggkngpnaa.Wo Go.Proofs.Ytkbpcaggkngpnaa.Sr Go.Proofs.Ytkbpcaggkngpnaa.Ra in
set_option maxHeartbeats 16000000 in
set_option maxRecDepth 100000 in
theorem walk (a0 : Option Addr) (len0 cap0 : Nat) (z0 : List Int) (a1 : Int) (a2 : Int) (w : World) (w0 : IsRow .i64 w a0 len0 cap0 z0) (w1 : (Lit.int .u8 a1).wf = true) (w2 : (Lit.int .i8 a2).wf = true) :
    Calls Try.prog 4 #[.slice a0 len0 cap0, .int .u8 a1, .int .i8 a2] w fun e w' => e = .returned (.bool true) ∧ Below w.heap.size w w' := by
  have b1 := bounds_u8 w1
  obtain ⟨i1, i2⟩ := b1
  have b2 := bounds_i8 w2
  obtain ⟨j1, j2⟩ := b2
  have HW := Lib.hid (And.intro w1 w2)
  clear w1 w2
  have AW : Hid (∀ W, Calls Try.prog 17 #[] W fun e w' => e = .returned (.bool true) ∧ Bel W w') := awake_any
  go_enter Try.func4, Try.ntmps4
  go_wp2_with fail
  go_at_call 13
  refine (new_any a0 len0 cap0 z0 w w0).mono ?_
  rintro e v1 ⟨g, rfl, hg, ho1, hb1⟩
  have HO1 := Lib.hid ho1
  have HB1 := Lib.hid hb1
  clear ho1 hb1 w0
  go_wp2_with fail
  go_at_call 14
  refine (pair_any g _ HO1.out).mono ?_
  rintro e v2 ⟨xa, xb, ya, yb, n, L, M, rfl, n1, n2, hxy, hox, hoy, lL, lM, sL, sM, ho2, hc2⟩
  have HB2 : Hid (Bel w v2) := Bel.ch HB1.out hc2 hg
  have HOX := Lib.hid hox
  have HOY := Lib.hid hoy
  have zx : Zi v2 (some ⟨xa, 0, none⟩) n L := own_zi hox lL
  have zy : Zi v2 (some ⟨ya, 0, none⟩) n M := own_zi hoy lM
  have hlm : L.length = M.length := by rw [lL, lM]
  have ni1 : 2 ≤ (n : Int) := by omega
  have ni2 : (n : Int) ≤ 32 := by omega
  have HLL := Lib.hid (And.intro lL (And.intro lM (And.intro sL sM)))
  clear ho2 hc2 hox hoy
  have hxv := HOX.out.lt xa rfl
  have hyv := HOY.out.lt ya rfl
  have mt : a1.tmod 4 = a1 % 4 := Int.tmod_eq_emod_of_nonneg (by omega)
  obtain ⟨r, hr⟩ : ∃ r, a1 % 4 = r := ⟨_, rfl⟩
  rw [hr] at mt
  have r0 : 0 ≤ r ∧ r ≤ 3 := by omega
  obtain ⟨r1, r2⟩ := r0
  have wr1 : wrap64 r = r := IntWalk.wrap64_in _ (by omega)
  have wr2 : IntKind.i64.wrap r = r := IntWalk.i64_in _ (by omega)
  obtain ⟨f, hf⟩ : ∃ f, 1 + r = f := ⟨_, rfl⟩
  have f0 : 1 ≤ f ∧ f ≤ 4 := by omega
  obtain ⟨f1, f2⟩ := f0
  have wf1 : wrap64 f = f := IntWalk.wrap64_in _ (by omega)
  have wf2 : wrap64 (1 + r) = f := by rw [hf]; exact wf1
  have HF := Lib.hid hr
  obtain ⟨P, hP⟩ : ∃ P, L.map q5 = P := ⟨_, rfl⟩
  obtain ⟨Q, hQ⟩ : ∃ Q, M.map q5 = Q := ⟨_, rfl⟩
  have lP : P.length = n := by rw [← hP]; simpa using lL
  have lQ : Q.length = n := by rw [← hQ]; simpa using lM
  have bP : Bd 200 P := fun x hx => by
    rw [← hP] at hx
    obtain ⟨z, hz1, rfl⟩ := List.mem_map.1 hx
    have := sL z hz1
    exact q5_in this.1 this.2
  have sQ : Sam Q := fun x hx => by
    rw [← hQ] at hx
    obtain ⟨z, hz1, rfl⟩ := List.mem_map.1 hx
    have := sM z hz1
    have := q5_in this.1 this.2
    omega
  have HP := Lib.hid (And.intro hP (And.intro lP bP))
  have HQ := Lib.hid (And.intro hQ (And.intro lQ sQ))
  have hB0 : w.heap.size ≤ v1.heap.size := HB1.out.size
  have hB2 := HB2.out.size
  have HR0 : Hid (∃ (t : Nat) (V : World) (u11 u12 : Value), V = v2 ∧ u11 = (Value.slice none 0 0) ∧ u12 = (Value.slice none 0 0) ∧ t ≤ n ∧ (Value.int .i64 0) = .int .i64 (t : Int) ∧ Bel w v2 ∧ v2.ownsRow v1.heap.size 3 1 (.slice (some ⟨xa, 0, none⟩) n xb) n (zs (mix q5 L t)) ∧ v2.ownsRow v1.heap.size 3 1 (.slice (some ⟨ya, 0, none⟩) n yb) n (zs (mix q5 M t)) ∧ Tw v2.heap.size v2 v2 u11 t ((af f a2 P).take t) u12 t ((af (-f) a2 P).take t)) :=
    ⟨0, _, _, _, rfl, rfl, rfl, by omega, rfl, HB2.out, by simpa [mix] using HOX.out, by simpa [mix] using HOY.out, by simpa using Tw.nil (Bel.rf (a := v2)) (Nat.le_refl _)⟩
  clear hP hQ lP lQ bP sQ lL lM sL sM zx zy hlm HOX HOY hr
  go_wp2
  go_loopw [11, 12, 36] (fun s11 s12 s36 wr => ∃ (t : Nat) (V : World) (u11 u12 : Value), V = wr ∧ u11 = s11 ∧ u12 = s12 ∧ t ≤ n ∧ s36 = .int .i64 (t : Int) ∧ Bel w wr ∧ wr.ownsRow v1.heap.size 3 1 (.slice (some ⟨xa, 0, none⟩) n xb) n (zs (mix q5 L t)) ∧ wr.ownsRow v1.heap.size 3 1 (.slice (some ⟨ya, 0, none⟩) n yb) n (zs (mix q5 M t)) ∧ Tw v2.heap.size wr wr u11 t ((af f a2 P).take t) u12 t ((af (-f) a2 P).take t)) (fun _ _ s36 _ => n - (intOf s36).toNat)
  case atStart => exact HR0.out
  case round =>
    clear HR0
    obtain ⟨t, wr, u11, u12, hwr, hu11, hu12, ht, rfl, hb, hox, hoy, hT⟩ := hrel
    subst hwr hu11 hu12
    have HB := Lib.hid hb
    have HOX := Lib.hid hox
    have HOY := Lib.hid hoy
    have HT0 := Lib.hid hT
    rcases Nat.lt_or_ge t n with hlt | hge
    · have c1 := (own_zi hox (by rw [mix_len]; exact HLL.out.1)).at t hlt
      have c2 := (own_zi hoy (by rw [mix_len]; exact HLL.out.2.1)).at t hlt
      rw [mix_at q5 L t (by have := HLL.out.1; omega)] at c1
      rw [mix_at q5 M t (by have := HLL.out.2.1; omega)] at c2
      have fr1 := own_fr hox t
      have fr2 := own_fr hoy t
      have px := HLL.out.2.2.1.at t
      have py := HLL.out.2.2.2.at t
      have e1 := map_at q5 L t (by have := HLL.out.1; omega)
      rw [HP.out.1] at e1
      have e2 := af_at f a2 P t (by have := HP.out.2.1; omega)
      have e3 := af_at (-f) a2 P t (by have := HP.out.2.1; omega)
      obtain ⟨x, hx⟩ : ∃ x, L.getD t 0 = x := ⟨_, rfl⟩
      obtain ⟨y, hy⟩ : ∃ x, M.getD t 0 = x := ⟨_, rfl⟩
      rw [hx] at c1 px e1
      rw [hy] at c2 py
      have pp := q5_in px.1 px.2
      have pq := q5_in py.1 py.2
      obtain ⟨p, hp⟩ : ∃ p, q5 x = p := ⟨_, rfl⟩
      obtain ⟨q, hq⟩ : ∃ q, q5 y = q := ⟨_, rfl⟩
      rw [hp] at pp e1
      rw [hq] at pq
      rw [e1] at e2 e3
      obtain ⟨p0, p1⟩ := pp
      obtain ⟨q0, q1⟩ := pq
      obtain ⟨x0, x1⟩ := px
      obtain ⟨y0, y1⟩ := py
      have mb := mul_bd (A := 200) (B := 4) (by decide) (by decide) p0 p1 (show -4 ≤ f by omega) f2
      obtain ⟨m, hm⟩ : ∃ m, p * f = m := ⟨_, rfl⟩
      rw [hm] at mb e2
      rw [show p * -f = -m by rw [← hm]; grind] at e3
      obtain ⟨mb0, mb1⟩ : -800 ≤ m ∧ m ≤ 800 := by omega
      obtain ⟨z1, hz1⟩ : ∃ z, m + a2 = z := ⟨_, rfl⟩
      obtain ⟨z2, hz2⟩ : ∃ z, a2 - m = z := ⟨_, rfl⟩
      rw [hz1] at e2
      rw [show -m + a2 = z2 by omega] at e3
      have HX : Hid ((af f a2 P).take (t + 1) = (af f a2 P).take t ++ [z1] ∧ (af (-f) a2 P).take (t + 1) = (af (-f) a2 P).take t ++ [z2]) := ⟨by rw [take_snoc _ t (by rw [af_len]; have := HP.out.2.1; omega), e2], by rw [take_snoc _ t (by rw [af_len]; have := HP.out.2.1; omega), e3]⟩
      have HMX : Hid ((mix q5 L t).set t p = mix q5 L (t + 1) ∧ (mix q5 M t).set t q = mix q5 M (t + 1)) := ⟨by rw [← hp, ← hx]; exact mix_set q5 L t (by have := HLL.out.1; omega), by rw [← hq, ← hy]; exact mix_set q5 M t (by have := HLL.out.2.1; omega)⟩
      have d1 : x.tdiv 5 = p := hp
      have d2 : y.tdiv 5 = q := hq
      have k1 : IntKind.i64.wrap p = p := IntWalk.i64_in _ (by omega)
      have k2 : IntKind.i64.wrap q = q := IntWalk.i64_in _ (by omega)
      have ti : (t : Int) < (n : Int) := by omega
      have hxy2 : xa ≠ ya := by omega
      have HZ := Lib.hid (And.intro hz1 (And.intro hz2 (And.intro hm (And.intro hx hy))))
      clear hb hox hoy hT hx hy hp hq e1 e2 e3 mb hz1 hz2 hm
      go_wp2
      go_region
      all_goals
        obtain ⟨W2, hW2⟩ : ∃ W2, W2 = ((wr.setCell ⟨xa, t, none⟩ (.int .i64 p)).setCell ⟨ya, t, none⟩ (.int .i64 q)).drew := ⟨_, rfl⟩
        have wb : Bel w W2 := by rw [hW2]; exact ((HB.out.st (by show _ ≤ xa; omega) _).st (by show _ ≤ ya; omega) _).drw
        have nox : W2.ownsRow v1.heap.size 3 1 (.slice (some ⟨xa, 0, none⟩) n xb) n (zs (mix q5 L (t + 1))) := by
          rw [hW2, ← HMX.out.1]
          exact own_bel (own_far (own_set HOX.out p) (show xa ≠ ya from hxy2) _) (Bel.rf.drw)
        have noy : W2.ownsRow v1.heap.size 3 1 (.slice (some ⟨ya, 0, none⟩) n yb) n (zs (mix q5 M (t + 1))) := by
          rw [hW2, ← HMX.out.2]
          exact own_bel (own_set (own_far HOY.out (show ya ≠ xa from fun e => hxy2 e.symm) _) q) (Bel.rf.drw)
        have hT1 : Tw v2.heap.size W2 W2 u11 t ((af f a2 P).take t) u12 t ((af (-f) a2 P).take t) := by
          rw [hW2]
          obtain ⟨q1, q2, q3, q4, q5⟩ := HT0.out
          have r1 := ownsRow_setCell_below (ownsRow_setCell_below q1 (a := ⟨xa, t, none⟩) hxv.2 (.int .i64 p)) (a := ⟨ya, t, none⟩) hyv.2 (.int .i64 q)
          have r2 := ownsRow_setCell_below (ownsRow_setCell_below q2 (a := ⟨xa, t, none⟩) hxv.2 (.int .i64 p)) (a := ⟨ya, t, none⟩) hyv.2 (.int .i64 q)
          exact ⟨own_bel r1 (Bel.rf.drw), own_bel r2 (Bel.rf.drw), q3, Below.refl _ _, by simpa [World.setCell] using q5⟩
        rw [← hW2]
        have HT := Lib.hid hT1
        have HNX := Lib.hid nox
        have HNY := Lib.hid noy
        have HWB := Lib.hid wb
        have c3 : W2.cell? ⟨xa, t, none⟩ = some (.int .i64 p) := by
          have := (own_zi nox (by rw [mix_len]; exact HLL.out.1)).at t hlt
          rw [← HMX.out.1, List.getD_eq_getElem?_getD, List.getElem?_set_self (by rw [mix_len]; have := HLL.out.1; omega)] at this
          exact this
        have HCX : Hid (∀ W, Below v2.heap.size W2 W → W.cell? ⟨xa, t, none⟩ = some (.int .i64 p)) := fun W hW => (Below.cell (p := ⟨xa, t, none⟩) hW hxv.2).trans c3
        have cA1 : ∀ o, (W2.alloc o).cell? ⟨xa, t, none⟩ = some (.int .i64 p) := fun o => kp_al c3 o
        have cA3 : ∀ o, (W2.alloc o).drew.cell? ⟨xa, t, none⟩ = some (.int .i64 p) := fun o => kp_al c3 o
        have m1 : p * f = m := HZ.out.2.2.1
        have m2 : IntKind.i64.wrap m = m := IntWalk.i64_in _ (by omega)
        have m3 : m + a2 = z1 := HZ.out.1
        have m4 : a2 - m = z2 := HZ.out.2.1
        have m5 : IntKind.i64.wrap z1 = z1 := IntWalk.i64_in _ (by omega)
        have m6 : IntKind.i64.wrap z2 = z2 := IntWalk.i64_in _ (by omega)
        have m7 : IntKind.i64.wrap a2 = a2 := IntWalk.i64_in _ (by omega)
        clear hW2 wb nox noy hT1 c1 c2 fr1 fr2
        go_wp2
        go_region_law (first
          | (refine step_app _ rfl (.tmp 55) (.tmp 65) rfl v2.heap.size u11 t ((af f a2 P).take t) rfl (own_bel hTB.o1 (by repeat (first | exact Bel.rf | (with_reducible refine Bel.drwN ?_ _) | (with_reducible refine Bel.drw ?_) | (with_reducible refine Bel.al ?_ _)))) _ 1 1 [z1] rfl (by first | (refine zi_one (Bk.nq _ _ _ ?_); simp; done) | (refine zi_one ((Bk.nq _ _ _ ?_).al _); simp; done) | (refine zi_one (hkB _ ?_ (Bk.nq _ _ _ ?_)) <;> simp; done) | (refine zi_one (hkB _ ?_ ((Bk.nq _ _ _ ?_).al _)) <;> simp; done)) (by omega) (Tw.base (Tw.bel hTB (by repeat (first | exact Bel.rf | (with_reducible refine Bel.drwN ?_ _) | (with_reducible refine Bel.drw ?_) | (with_reducible refine Bel.al ?_ _))))) ?_; intro vp wp hop hgp hatp; have hT2 := Tw.app1 (Tw.bel hTB (by repeat (first | exact Bel.rf | (with_reducible refine Bel.drwN ?_ _) | (with_reducible refine Bel.drw ?_) | (with_reducible refine Bel.al ?_ _)))) hop hgp hatp)
          | (refine step_app _ rfl (.tmp 55) (.tmp 65) rfl v2.heap.size u11 t ((af f a2 P).take t) rfl (own_bel HT.out.o1 (by repeat (first | exact Bel.rf | (with_reducible refine Bel.drwN ?_ _) | (with_reducible refine Bel.drw ?_) | (with_reducible refine Bel.al ?_ _)))) _ 1 1 [z1] rfl (by first | (refine zi_one (Bk.nq _ _ _ ?_); simp; done) | (refine zi_one ((Bk.nq _ _ _ ?_).al _); simp; done)) (by omega) (Tw.base (Tw.bel HT.out (by repeat (first | exact Bel.rf | (with_reducible refine Bel.drwN ?_ _) | (with_reducible refine Bel.drw ?_) | (with_reducible refine Bel.al ?_ _))))) ?_; intro vp wp hop hgp hatp; have hTA := Tw.app1 (Tw.bel HT.out (by repeat (first | exact Bel.rf | (with_reducible refine Bel.drwN ?_ _) | (with_reducible refine Bel.drw ?_) | (with_reducible refine Bel.al ?_ _)))) hop hgp hatp;  have cqx := HCX.out _ (Tw.low hTA); have hkA := fun (q : Nat) (hq : W2.heap.size ≤ q) h => bk_grown (g := q) (t := 3) (cs := #[.int .i64 z2]) h hgp (fun b e => (HT.out.o1.lt b e).2) hq)
          | (refine step_app _ rfl (.tmp 67) (.tmp 77) rfl v2.heap.size u12 t ((af (-f) a2 P).take t) rfl (own_bel hTA.o2 (by repeat (first | exact Bel.rf | (with_reducible refine Bel.drwN ?_ _) | (with_reducible refine Bel.drw ?_) | (with_reducible refine Bel.al ?_ _)))) _ 1 1 [z2] rfl (by first | (refine zi_one (Bk.nq _ _ _ ?_); simp; done) | (refine zi_one ((Bk.nq _ _ _ ?_).al _); simp; done) | (refine zi_one (hkA _ ?_ (Bk.nq _ _ _ ?_)) <;> simp; done) | (refine zi_one (hkA _ ?_ ((Bk.nq _ _ _ ?_).al _)) <;> simp; done)) (by omega) (Tw.base (Tw.bel hTA (by repeat (first | exact Bel.rf | (with_reducible refine Bel.drwN ?_ _) | (with_reducible refine Bel.drw ?_) | (with_reducible refine Bel.al ?_ _))))) ?_; intro vq wq hoq hgq hatq; have hT2 := Tw.app2 (Tw.bel hTA (by repeat (first | exact Bel.rf | (with_reducible refine Bel.drwN ?_ _) | (with_reducible refine Bel.drw ?_) | (with_reducible refine Bel.al ?_ _)))) hoq hgq hatq)
          | (refine step_app _ rfl (.tmp 67) (.tmp 77) rfl v2.heap.size u12 t ((af (-f) a2 P).take t) rfl (own_bel HT.out.o2 (by repeat (first | exact Bel.rf | (with_reducible refine Bel.drwN ?_ _) | (with_reducible refine Bel.drw ?_) | (with_reducible refine Bel.al ?_ _)))) _ 1 1 [z2] rfl (by first | (refine zi_one (Bk.nq _ _ _ ?_); simp; done) | (refine zi_one ((Bk.nq _ _ _ ?_).al _); simp; done)) (by omega) (Tw.base (Tw.bel HT.out (by repeat (first | exact Bel.rf | (with_reducible refine Bel.drwN ?_ _) | (with_reducible refine Bel.drw ?_) | (with_reducible refine Bel.al ?_ _))))) ?_; intro vq wq hoq hgq hatq; have hTB := Tw.app2 (Tw.bel HT.out (by repeat (first | exact Bel.rf | (with_reducible refine Bel.drwN ?_ _) | (with_reducible refine Bel.drw ?_) | (with_reducible refine Bel.al ?_ _)))) hoq hgq hatq; have cqx := HCX.out _ (Tw.low hTB); have hkB := fun (q : Nat) (hq : W2.heap.size ≤ q) h => bk_grown (g := q) (t := 3) (cs := #[.int .i64 z1]) h hgq (fun b e => (HT.out.o2.lt b e).2) hq))
        all_goals
          have HT2 := Lib.hid hT2
          clear hT2
          go_wp2
          go_roundw
          case rel => exact ⟨t + 1, _, _, _, rfl, rfl, rfl, by omega, by go_num, bel_low HWB.out HT2.out.low hB2, own_blw HNX.out HT2.out.low hxv.2, own_blw HNY.out HT2.out.low hyv.2, by rw [HX.out.1, HX.out.2]; exact ⟨HT2.out.1, HT2.out.2.1, HT2.out.2.2.1, Below.refl _ _, HT2.out.2.2.2.2⟩⟩
          case measure => simp [intOf]; omega
    · obtain rfl : t = n := by omega
      rw [List.take_of_length_le (by rw [af_len]; have := HP.out.2.1; omega), List.take_of_length_le (by rw [af_len]; have := HP.out.2.1; omega)] at hT
      have eX : mix q5 L t = P := by have := mix_all q5 L; rwa [HLL.out.1, HP.out.1] at this
      have eY : mix q5 M t = Q := by have := mix_all q5 M; rwa [HLL.out.2.1, HQ.out.1] at this
      rw [eX] at hox
      rw [eY] at hoy
      obtain ⟨za, zb, rfl, hzc, hzq⟩ := row_form hT.o1 (by omega)
      obtain ⟨ta, tb, rfl, htc, htq⟩ := row_form hT.o2 (by omega)
      have lZ : (af f a2 P).length = t := by rw [af_len]; exact HP.out.2.1
      have lT : (af (-f) a2 P).length = t := by rw [af_len]; exact HP.out.2.1
      have zz : Zi wr (some ⟨za, 0, none⟩) t (af f a2 P) := own_zi hT.o1 lZ
      have zt : Zi wr (some ⟨ta, 0, none⟩) t (af (-f) a2 P) := own_zi hT.o2 lT
      have zx : Zi wr (some ⟨xa, 0, none⟩) t P := own_zi hox HP.out.2.1
      have zy : Zi wr (some ⟨ya, 0, none⟩) t Q := own_zi hoy HQ.out.2.1
      have lP := HP.out.2.1
      have lQ := HQ.out.2.1
      have sP : Sam P := fun x hx => by have := HP.out.2.2 x hx; omega
      have sQ := HQ.out.2.2
      have bm : ∀ x ∈ P, -800 ≤ x * f ∧ x * f ≤ 800 := fun x hx => by
        have h1 := HP.out.2.2 x hx
        have h2 := mul_bd (A := 200) (B := 4) (by decide) (by decide) h1.1 h1.2 (show -4 ≤ f by omega) f2
        omega
      have sZ : Sam (af f a2 P) := fun y hy => by
        obtain ⟨x, hx, rfl⟩ := List.mem_map.1 hy
        have := bm x hx
        show _ ∧ _
        omega
      have sT : Sam (af (-f) a2 P) := fun y hy => by
        obtain ⟨x, hx, rfl⟩ := List.mem_map.1 hy
        have := bm x hx
        have e : x * -f = -(x * f) := by grind
        show _ ∧ _
        omega
      have hpq : P.length = Q.length := by omega
      have G1 : Hid (∀ W, Bel wr W → _) := fun W hW => Gap_ok (some ⟨xa, 0, none⟩) (some ⟨ya, 0, none⟩) xb yb t P Q n1 n2 sP sQ W (zx.bel hW) (zy.bel hW)
      have G2 : Hid (∀ W, Bel wr W → _) := fun W hW => Gap_ok (some ⟨za, 0, none⟩) (some ⟨ya, 0, none⟩) zb yb t (af f a2 P) Q n1 n2 sZ sQ W (zz.bel hW) (zy.bel hW)
      have G3 : Hid (∀ W, Bel wr W → _) := fun W hW => Gap_ok (some ⟨xa, 0, none⟩) (some ⟨za, 0, none⟩) xb zb t P (af f a2 P) n1 n2 sP sZ W (zx.bel hW) (zz.bel hW)
      have G4 : Hid (∀ W, Bel wr W → _) := fun W hW => Gap_ok (some ⟨xa, 0, none⟩) (some ⟨ta, 0, none⟩) xb tb t P (af (-f) a2 P) n1 n2 sP sT W (zx.bel hW) (zt.bel hW)
      have S1 : Hid (∀ W, Bel wr W → _) := fun W hW => spread_ok xa xb t P (by omega) n2 W (zx.bel hW)
      have v := vr_le sP (by omega)
      have u := vr_le sQ (by omega)
      have vz := vr_le sZ (by omega)
      have cs := pr_cs hpq
      have ev : vr (af f a2 P) = f * f * vr P := af_vr f a2 P
      have et : vr (af (-f) a2 P) = f * f * vr P := by rw [af_vr]; grind
      have e2 : pr (af f a2 P) Q = f * pr P Q := by
        have := af_pr f a2 1 0 P Q hpq
        rw [af_id] at this
        rw [this]; grind
      have e3 : pr P (af f a2 P) = f * vr P := by
        have := af_pr 1 0 f a2 P P rfl
        rw [af_id, pr_self] at this
        rw [this]; grind
      have e4 : pr P (af (-f) a2 P) = -f * vr P := by
        have := af_pr 1 0 (-f) a2 P P rfl
        rw [af_id, pr_self] at this
        rw [this]; grind
      unfold gv at G1 G2 G3 G4
      rw [ev] at vz
      rw [ev, e2, (gap_scale (k := f) v.1 u.1 cs (by omega)).1, (gap_scale (k := f) v.1 u.1 cs (by omega)).2] at G2
      have gs := gap_self v.1 f1 v.2 vz.2
      rw [ev, e3, gs.1.1, gs.1.2] at G3
      rw [et, e4, gs.2.1, gs.2.2] at G4
      obtain ⟨X, hX⟩ : ∃ x, rN (vr P) (vr Q) (pr P Q) = x := ⟨_, rfl⟩
      obtain ⟨Y, hY⟩ : ∃ x, rD (vr P) (vr Q) (pr P Q) = x := ⟨_, rfl⟩
      rw [hX, hY] at G1 G2
      obtain ⟨V, hV⟩ : ∃ c, vr P = c := ⟨_, rfl⟩
      rw [hV] at G4 S1
      have HBV := Lib.hid hb
      have HALL := Lib.hid (And.intro hX (And.intro hY hV))
      have kXX : (X == X) = true := by simp
      have kYY : (Y == Y) = true := by simp
      obtain ⟨D, hD⟩ : ∃ D, (if V = 0 then (0 : Int) else 2) = D := ⟨_, rfl⟩
      rw [hD] at G4
      have HDD := Lib.hid hD
      clear hT hb hox hoy zz zt zx zy lZ lT lP lQ sP sQ bm sZ sT hpq v u vz cs ev et e2 e3 e4 gs hX hY hV eX eY hzc hzq htc htq hD HT0 HOX HOY
      go_wp2_with fail
      go_at_call 18
      refine (G1.out _ Bel.rf).mono ?_
      rintro e p1 ⟨rfl, hb⟩
      have HD_p1 : Hid (Bel wr (p1.alloc (.cells #[.int .i64 X, .int .i64 Y] 36))) := (hb).al _
      have HN_p1 : Hid (Bk (p1.alloc (.cells #[.int .i64 X, .int .i64 Y] 36)) p1.heap.size 36 #[.int .i64 X, .int .i64 Y]) := Bk.nw _ _ _
      have sz_p1 : 0 ≤ p1.heap.size := Nat.zero_le _
      clear hb
      go_wp2_with fail
      go_at_call 18
      refine (G2.out _ HD_p1.out).mono ?_
      rintro e p2 ⟨rfl, hb⟩
      have HD_p2 : Hid (Bel wr (p2.alloc (.cells #[.int .i64 X, .int .i64 Y] 36))) := (HD_p1.out.tr hb).al _
      have HN_p2 : Hid (Bk (p2.alloc (.cells #[.int .i64 X, .int .i64 Y] 36)) p2.heap.size 36 #[.int .i64 X, .int .i64 Y]) := Bk.nw _ _ _
      have sz_p2 : p1.heap.size + 1 ≤ p2.heap.size := by have := hb.size; simpa using this
      have HN_p1 := Lib.hid ((HN_p1.out.bel hb).al (.cells #[.int .i64 X, .int .i64 Y] 36))
      clear hb
      go_wp2_with fail
      go_at_call 18
      refine (G3.out _ HD_p2.out).mono ?_
      rintro e p3 ⟨rfl, hb⟩
      have HD_p3 : Hid (Bel wr (p3.alloc (.cells #[.int .i64 0, .int .i64 1] 36))) := (HD_p2.out.tr hb).al _
      have HN_p3 : Hid (Bk (p3.alloc (.cells #[.int .i64 0, .int .i64 1] 36)) p3.heap.size 36 #[.int .i64 0, .int .i64 1]) := Bk.nw _ _ _
      have sz_p3 : p2.heap.size + 1 ≤ p3.heap.size := by have := hb.size; simpa using this
      have HN_p1 := Lib.hid ((HN_p1.out.bel hb).al (.cells #[.int .i64 0, .int .i64 1] 36))
      have HN_p2 := Lib.hid ((HN_p2.out.bel hb).al (.cells #[.int .i64 0, .int .i64 1] 36))
      clear hb
      go_wp2_with fail
      go_at_call 18
      refine (G4.out _ HD_p3.out).mono ?_
      rintro e p4 ⟨rfl, hb⟩
      have HD_p4 : Hid (Bel wr (p4.alloc (.cells #[.int .i64 D, .int .i64 1] 36))) := (HD_p3.out.tr hb).al _
      have HN_p4 : Hid (Bk (p4.alloc (.cells #[.int .i64 D, .int .i64 1] 36)) p4.heap.size 36 #[.int .i64 D, .int .i64 1]) := Bk.nw _ _ _
      have sz_p4 : p3.heap.size + 1 ≤ p4.heap.size := by have := hb.size; simpa using this
      have HN_p1 := Lib.hid ((HN_p1.out.bel hb).al (.cells #[.int .i64 D, .int .i64 1] 36))
      have HN_p2 := Lib.hid ((HN_p2.out.bel hb).al (.cells #[.int .i64 D, .int .i64 1] 36))
      have HN_p3 := Lib.hid ((HN_p3.out.bel hb).al (.cells #[.int .i64 D, .int .i64 1] 36))
      clear hb
      rcases Classical.em (V = 0) with hv | hv
      · obtain rfl : D = 0 := by rw [← HDD.out, if_pos hv]
        rw [show decide (V ≠ 0) = false by simp [hv]] at S1
        go_wp2_with fail
        go_at_call 19
        refine (S1.out _ (HD_p4.out.al _)).mono ?_
        rintro e p5 ⟨rfl, hb⟩
        have HD_p5 : Hid (Bel wr p5) := (HD_p4.out.al _).tr hb
        have B1 := (HN_p1.out.al _).bel hb
        have B2 := (HN_p2.out.al _).bel hb
        have B3 := (HN_p3.out.al _).bel hb
        have B4 := (HN_p4.out.al _).bel hb
        have B5 : Bk p5 (p4.heap.size + 1) 36 #[.int .i64 0, .int .i64 1] := (Bk.nq _ _ _ (by simp)).bel hb
        clear hb
        have C1 := B1
        have C2 := B2
        have C3 := B3
        have C4 := B4
        have C5 := B5
        have c1_0 : p5.cell? ⟨p1.heap.size, 0, none⟩ = some (.int .i64 X) := C1.cell 0
        have c1_1 : p5.cell? ⟨p1.heap.size, 1, none⟩ = some (.int .i64 Y) := C1.cell 1
        have c2_0 : p5.cell? ⟨p2.heap.size, 0, none⟩ = some (.int .i64 X) := C2.cell 0
        have c2_1 : p5.cell? ⟨p2.heap.size, 1, none⟩ = some (.int .i64 Y) := C2.cell 1
        have c3_0 : p5.cell? ⟨p3.heap.size, 0, none⟩ = some (.int .i64 0) := C3.cell 0
        have c3_1 : p5.cell? ⟨p3.heap.size, 1, none⟩ = some (.int .i64 1) := C3.cell 1
        have c4_0 : p5.cell? ⟨p4.heap.size, 0, none⟩ = some (.int .i64 0) := C4.cell 0
        have c4_1 : p5.cell? ⟨p4.heap.size, 1, none⟩ = some (.int .i64 1) := C4.cell 1
        have c5_0 : p5.cell? ⟨p4.heap.size + 1, 0, none⟩ = some (.int .i64 0) := C5.cell 0
        have c5_1 : p5.cell? ⟨p4.heap.size + 1, 1, none⟩ = some (.int .i64 1) := C5.cell 1
        clear B1 B2 B3 B4 B5 C1 C2 C3 C4 C5
        go_wp2_with (go_at_call 17; refine (AW.out _).mono ?_; rintro e w9 ⟨rfl, hb9⟩)
        go_ret
        exact ⟨rfl, ((HBV.out.tr HD_p5.out).tr hb9).bl⟩
      · obtain rfl : D = 2 := by rw [← HDD.out, if_neg hv]
        rw [show decide (V ≠ 0) = true by simp [hv]] at S1
        go_wp2_with fail
        go_at_call 19
        refine (S1.out _ (HD_p4.out.al _)).mono ?_
        rintro e p5 ⟨rfl, hb⟩
        have HD_p5 : Hid (Bel wr p5) := (HD_p4.out.al _).tr hb
        have B1 := (HN_p1.out.al _).bel hb
        have B2 := (HN_p2.out.al _).bel hb
        have B3 := (HN_p3.out.al _).bel hb
        have B4 := (HN_p4.out.al _).bel hb
        have B5 : Bk p5 (p4.heap.size + 1) 36 #[.int .i64 0, .int .i64 1] := (Bk.nq _ _ _ (by simp)).bel hb
        clear hb
        have g0 : p5.cell? ⟨p4.heap.size + 1, 0, none⟩ = some (.int .i64 0) := B5.cell 0
        have g1 := B5.fr 0
        have C1 := Bk.far B1 (p := ⟨p4.heap.size + 1, 0, none⟩) (by show _ ≠ p4.heap.size + 1; omega) (.int .i64 2)
        have C2 := Bk.far B2 (p := ⟨p4.heap.size + 1, 0, none⟩) (by show _ ≠ p4.heap.size + 1; omega) (.int .i64 2)
        have C3 := Bk.far B3 (p := ⟨p4.heap.size + 1, 0, none⟩) (by show _ ≠ p4.heap.size + 1; omega) (.int .i64 2)
        have C4 := Bk.far B4 (p := ⟨p4.heap.size + 1, 0, none⟩) (by show _ ≠ p4.heap.size + 1; omega) (.int .i64 2)
        have C5 := Bk.st B5 0 (.int .i64 2)
        have c1_0 : (p5.setCell ⟨p4.heap.size + 1, 0, none⟩ (.int .i64 2)).cell? ⟨p1.heap.size, 0, none⟩ = some (.int .i64 X) := C1.cell 0
        have c1_1 : (p5.setCell ⟨p4.heap.size + 1, 0, none⟩ (.int .i64 2)).cell? ⟨p1.heap.size, 1, none⟩ = some (.int .i64 Y) := C1.cell 1
        have c2_0 : (p5.setCell ⟨p4.heap.size + 1, 0, none⟩ (.int .i64 2)).cell? ⟨p2.heap.size, 0, none⟩ = some (.int .i64 X) := C2.cell 0
        have c2_1 : (p5.setCell ⟨p4.heap.size + 1, 0, none⟩ (.int .i64 2)).cell? ⟨p2.heap.size, 1, none⟩ = some (.int .i64 Y) := C2.cell 1
        have c3_0 : (p5.setCell ⟨p4.heap.size + 1, 0, none⟩ (.int .i64 2)).cell? ⟨p3.heap.size, 0, none⟩ = some (.int .i64 0) := C3.cell 0
        have c3_1 : (p5.setCell ⟨p4.heap.size + 1, 0, none⟩ (.int .i64 2)).cell? ⟨p3.heap.size, 1, none⟩ = some (.int .i64 1) := C3.cell 1
        have c4_0 : (p5.setCell ⟨p4.heap.size + 1, 0, none⟩ (.int .i64 2)).cell? ⟨p4.heap.size, 0, none⟩ = some (.int .i64 2) := C4.cell 0
        have c4_1 : (p5.setCell ⟨p4.heap.size + 1, 0, none⟩ (.int .i64 2)).cell? ⟨p4.heap.size, 1, none⟩ = some (.int .i64 1) := C4.cell 1
        have c5_0 : (p5.setCell ⟨p4.heap.size + 1, 0, none⟩ (.int .i64 2)).cell? ⟨p4.heap.size + 1, 0, none⟩ = some (.int .i64 2) := C5.cell 0
        have c5_1 : (p5.setCell ⟨p4.heap.size + 1, 0, none⟩ (.int .i64 2)).cell? ⟨p4.heap.size + 1, 1, none⟩ = some (.int .i64 1) := C5.cell 1
        clear B1 B2 B3 B4 B5 C1 C2 C3 C4 C5
        go_wp2_with (go_at_call 17; refine (AW.out _).mono ?_; rintro e w9 ⟨rfl, hb9⟩)
        go_ret
        exact ⟨rfl, ((HBV.out.tr (HD_p5.out.st (p := ⟨p4.heap.size + 1, 0, none⟩) (by show _ ≤ p4.heap.size + 1; have := HD_p4.out.size; simp at this; omega) (.int .i64 2))).tr hb9).bl⟩

set_option maxRecDepth 100000 in
theorem lifted (os : Os) (started : os.Started) (H : Type) (enc : TypeId × Value → H) :
    ReturnsInHanded {} Try.checked os 4 .any (Rows.normalScalesSpec.pre6 enc Try.prog Try.f4 Rows.normalScalesRow.domain false) (Rows.normalScalesSpec.post enc Try.prog Try.f4 false true false false) := by
  refine returnsInHanded_of_change (C := Try.checked) own started (by kernel_rfl) Try.func4
    (ChangeSpec.witness6 (enc := enc) (C := Try.checked) false ⟨#[], #[.slice none 0 0, .int .u8 0, .int .i8 0], []⟩ 8 (by kernel_rfl) (by kernel_rfl) (by kernel_rfl) (by kernel_rfl)) ?_
  intro W base args ds gs before hval0 hW hcnd _
  have hval : ∀ (j : Nat) t v, Try.f4.params[j]? = some t → args[j]? = some v → Value.okWide Try.prog W .any base t v := hval0
  have hW' := hW
  obtain ⟨p, q, hA0, hV, rfl, hfz, hnd⟩ := hW
  have hA : DataW.TrodAll enc Try.prog W 0 (fun _ => true) true Try.f4.params.toList args.toList ds p := hA0
  rw [Try.params4] at hA hval
  obtain ⟨v0, vs0, d0, ds0, p0, q0, hargs, rfl, rfl, h0, r0⟩ := trodAll_cons hA
  obtain ⟨v1, vs1, d1, ds1, p1, q1, rfl, rfl, rfl, h1, r1⟩ := trodAll_cons r0
  obtain ⟨v2, vs2, d2, ds2, p2, q2, rfl, rfl, rfl, h2, r2⟩ := trodAll_cons r1
  obtain ⟨rfl, rfl, rfl⟩ := trodAll_nil r2
  obtain rfl : args = #[v0, v1, v2] := by cases args; simp_all
  obtain ⟨rfl, rfl⟩ := trodVars_none hV
  obtain ⟨a0, len0, cap0, rfl⟩ := okWide_slice Try.underlying22 (hval 0 22 v0 rfl rfl)
  have k0 := h0
  have lt0 : ∀ x ∈ p0, x.block < W.heap.size := by obtain ⟨m, hm⟩ := k0; exact DataW.trod_lt m _ _ _ hm
  obtain ⟨z0, w0⟩ : ∃ zs, IsRow .i64 W a0 len0 cap0 zs := by
    obtain ⟨fuel, hf⟩ := h0
    rcases open_ints Try.underlying22 Try.underlying3 (by kernel_rfl) hf with ⟨hcs, _⟩ | ⟨x, l, c, zs, hcs, _, hl, hm, hz, _, hcell, hwz⟩
    · simp [Value.cells] at hcs
      obtain ⟨rfl, rfl, rfl⟩ := hcs
      exact ⟨[], .inl ⟨rfl, rfl, rfl, rfl⟩⟩
    · simp [Value.cells] at hcs
      obtain ⟨rfl, rfl, rfl⟩ := hcs
      exact ⟨zs, .inr ⟨_, rfl, hl, hm, by simpa using hz, hcell, hwz⟩⟩
  obtain ⟨a1, rfl, rfl, rfl, w1⟩ := open_int Try.underlying5 (hval 1 5 v1 rfl rfl) h1
  obtain ⟨a2, rfl, rfl, rfl, w2⟩ := open_int Try.underlying34 (hval 2 34 v2 rfl rfl) h2
  clear hA0 hval0
  refine (walk a0 len0 cap0 z0 a1 a2 W w0 w1 w2).mono fun e W' ⟨he, bel⟩ => ?_
  subst he
  exact ⟨_, rfl, _, _, _, [], _, [], hW', trodAll_mk1 (shut_bool Try.underlying4 _), (trodAll_cons_mk (Below.trod laidOut (by kernel_rfl) (of_decide_eq_true (by kernel_rfl)) k0 bel lt0) (trodAll_cons_mk (shut_int Try.underlying5 w1) (trodAll_cons_mk (shut_int Try.underlying34 w2) trodAll_mk0))), rfl, bel.frame _, fun h => by cases h⟩

theorem over : Rows.normalScalesRow.holds Try.pinned (OpenSpec.ofChange Rows.normalScalesSpec) :=
  OpenClaim.holds_of_wide 4 Try.f4 rfl rfl rfl rfl rfl rfl rfl ⟨rfl, rfl, rfl, rfl, rfl⟩ rfl rfl rfl rfl rfl (by kernel_rfl) Try.func4 (by kernel_rfl)
    (of_decide_eq_true (by kernel_rfl)) (by unfold Func.isWrapper; first | (rw [if_pos (by decide +kernel)]; kernel_rfl) | (rw [if_neg (by decide +kernel)]; exact ⟨rfl, rfl⟩))
    (fun os started H enc _ => lifted os started H enc)

theorem proved : Rows.NormalScalesSaid := over
end Go.Proofs.Ytkbpcaggkngpnaa.normalScales
