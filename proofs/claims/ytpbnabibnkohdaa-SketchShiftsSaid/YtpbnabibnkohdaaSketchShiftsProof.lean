/- That the law SketchShifts returns true for every input that can be read, and leaves its arguments as they were; no further condition. -/
import Derived.Test.YtpbnabibnkohdaaRows
import Derived.WalkKit
import Derived.ProofKit
import Derived.OpenShut
import Derived.Test.YtpbnabibnkohdaaWords
import Derived.Test.YtpbnabibnkohdaaSrcNew0
import Derived.Test.YtpbnabibnkohdaaSkL
import Derived.Test.YtpbnabibnkohdaaSrcLen
import Derived.ShutString
import Derived.ChangeOld
import Derived.Below
namespace Go.Proofs.Ytpbnabibnkohdaa.sketchShifts
open Go.ChangeShapes Go.WideShapes Go.ChangeAt Go.RowKit Wo
open Go.ChangeMaps (open_string shut_string)
set_option linter.unusedVariables false

theorem own : ownKnob Try.prog.godebug = none := by kernel_rfl
theorem laidOut : laidOutB Try.prog = true := by kernel_rfl

/-- WHAT THE WALK IS TOLD OF A SLICE OF INTEGERS THAT CAME IN: it is nil; or it leads to a row of 'cap' cells, the numbers 'zs' (the first 'len' are its elements, the rest its spare room), each fitting its kind. -/
def IsRow (k : IntKind) (w : World) (a : Option Addr) (len cap : Nat) (zs : List Int) : Prop :=
  (a = none ∧ len = 0 ∧ cap = 0 ∧ zs = []) ∨
  ∃ x, a = some x ∧ len ≤ cap ∧ cap ≤ maxLen ∧ zs.length = cap ∧ (∀ i, i < zs.length → w.cell? (x.add i) = some (.int k (zs.getD i 0))) ∧ ∀ n ∈ zs, (Lit.int k n).wf = true

open Go.Proofs.Ytpbnabibnkohdaa.Sk Go.Proofs.Ytpbnabibnkohdaa.Pc Go.Proofs.Ytpbnabibnkohdaa.Nr Go.Proofs.Ytpbnabibnkohdaa.Eu Go.Proofs.Ytpbnabibnkohdaa.Wi Go.Proofs.Ytpbnabibnkohdaa.Wo Go.Proofs.Ytpbnabibnkohdaa.Sr Go.Proofs.Ytpbnabibnkohdaa.Ra in
set_option maxHeartbeats 16000000 in
set_option maxRecDepth 100000 in
theorem walk (a0 : Option Addr) (len0 cap0 : Nat) (z0 : List Int) (a1 : Int) (a2 : Int) (w : World) (w0 : IsRow .i64 w a0 len0 cap0 z0) (w1 : (Lit.int .i8 a1).wf = true) (w2 : (Lit.int .u8 a2).wf = true) :
    Calls Try.prog 5 #[.slice a0 len0 cap0, .int .i8 a1, .int .u8 a2] w fun e w' => e = .returned (.bool true) ∧ Below w.heap.size w w' := by
  have b1 := bounds_i8 w1
  obtain ⟨j1, j2⟩ := b1
  have b2 := bounds_u8 w2
  obtain ⟨i1, i2⟩ := b2
  have HW := Lib.hid (And.intro w1 w2)
  clear w1 w2
  have AW : Hid (∀ W, Calls Try.prog 21 #[] W fun e w' => e = .returned (.bool true) ∧ Bel W w') := awake_any
  have mt : a2.tmod 4 = a2 % 4 := Int.tmod_eq_emod_of_nonneg (by omega)
  obtain ⟨r, hr⟩ : ∃ r, a2 % 4 = r := ⟨_, rfl⟩
  rw [hr] at mt
  have r0 : 0 ≤ r ∧ r ≤ 3 := by omega
  obtain ⟨r1, r2⟩ := r0
  have wr1 : wrap64 r = r := IntWalk.wrap64_in _ (by omega)
  have wr2 : IntKind.i64.wrap r = r := IntWalk.i64_in _ (by omega)
  obtain ⟨f, hf⟩ : ∃ f, 1 + r = f := ⟨_, rfl⟩
  have f0 : 1 ≤ f ∧ f ≤ 4 := by omega
  obtain ⟨f1, f2⟩ := f0
  have wf1 : wrap64 f = f := IntWalk.wrap64_in _ (by omega)
  have wf2 : wrap64 (1 + r) = f := by rw [hf]; exact wf1
  have HF := Lib.hid hr
  clear hr
  go_enter Try.func5, Try.ntmps5
  go_wp2_with fail
  go_at_call 12
  refine (new_any a0 len0 cap0 z0 w w0).mono ?_
  rintro e v1 ⟨g, rfl, hg, ho1, hb1⟩
  have HO1 := Lib.hid ho1
  have HB1 := Lib.hid hb1
  clear ho1 hb1 w0
  go_wp2_with fail
  go_at_call 25
  refine (length_any g _ HO1.out).mono ?_
  rintro e u1 ⟨x, rfl, hx0, hx1, ho, hc⟩
  obtain ⟨m, rfl⟩ := Int.eq_ofNat_of_zero_le (show 0 ≤ x by omega)
  have HBu1 : Hid (Bel w u1) := Bel.ch HB1.out hc hg
  have HOu1 := Lib.hid ho
  have HSu1 : Hid (v1.heap.size ≤ u1.heap.size) := hc.sz
  clear ho hc
  have m2 : 2 ≤ m := by omega
  have m32 : m ≤ 32 := by omega
  go_wp2_with fail
  go_at_call 14
  refine (list_any g m (by omega) _ HOu1.out).mono ?_
  rintro e u2 ⟨vx, L, rfl, hox, lL, sL, ho, hc⟩
  obtain ⟨xa, xb, rfl, cx, hxg⟩ := row_form (L := L) hox (by omega)
  have HBu2 : Hid (Bel w u2) := Bel.ch HBu1.out hc hg
  have HOu2 := Lib.hid ho
  have gl := HOu1.out.lt
  have hgv1 := HO1.out.lt
  have HOX := Lib.hid (own_lo hox HSu1.out)
  have HLL := Lib.hid (And.intro lL (And.intro sL cx))
  have hxne : xa ≠ g := by omega
  obtain ⟨Z, hZ⟩ : ∃ Z : Nat, min 8 m = Z := ⟨_, rfl⟩
  have Z1 : 1 ≤ Z := by omega
  have Z8 : Z ≤ 8 := by omega
  have Zm : Z ≤ m := by omega
  have hz8 : (if (m : Int) < 8 then (m : Int) else 8) = (Z : Int) := by split <;> omega
  clear ho hc hox lL sL hZ
  go_wp2_with fail
  go_at_call 13
  refine (range_any g 1 _ (by omega) (by omega) (by omega) _ HOu2.out).mono ?_
  rintro e v2 ⟨x, rfl, hx0, hx1, ho3, hc3⟩
  obtain ⟨n, rfl⟩ := Int.eq_ofNat_of_zero_le (show 0 ≤ x by omega)
  have HB2 : Hid (Bel w v2) := Bel.ch HBu2.out hc3 hg
  have HOX2 := Lib.hid (own_ch HOX.out hc3 hgv1)
  have n1 : 1 ≤ n := by omega
  have n8 : n ≤ 8 := by omega
  have nm : n ≤ m := by omega
  have hxv := HOX2.out.lt xa rfl
  clear ho3 hc3 HOX hz8 Z1 Z8 Zm hx0 hx1
  obtain ⟨P, hP⟩ : ∃ P, L.map q5 = P := ⟨_, rfl⟩
  have lP : P.length = m := by rw [← hP]; simpa using HLL.out.1
  have bP : Bd 200 P := fun x hx => by
    rw [← hP] at hx
    obtain ⟨z, hz1, rfl⟩ := List.mem_map.1 hx
    have := HLL.out.2.1 z hz1
    exact q5_in this.1 this.2
  have HP := Lib.hid (And.intro hP (And.intro lP bP))
  have hB2 := HB2.out.size
  have HR0 : Hid (∃ (t : Nat) (V : World) (u11 u12 : Value), V = v2 ∧ u11 = (Value.slice none 0 0) ∧ u12 = (Value.slice none 0 0) ∧ t ≤ m ∧ (Value.int .i64 0) = .int .i64 (t : Int) ∧ Bel w v2 ∧ v2.ownsRow v1.heap.size 3 1 (.slice (some ⟨xa, 0, none⟩) m xb) m (zs (mix q5 L t)) ∧ Tw v2.heap.size v2 v2 u11 t ((af 1 a1 P).take t) u12 t ((af f 0 P).take t)) :=
    ⟨0, _, _, _, rfl, rfl, rfl, by omega, rfl, HB2.out, by simpa [mix] using HOX2.out, by simpa using Tw.nil (Bel.rf (a := v2)) (Nat.le_refl _)⟩
  clear hP lP bP
  go_wp2
  go_loopw [11, 12, 38] (fun s11 s12 s38 wr => ∃ (t : Nat) (V : World) (u11 u12 : Value), V = wr ∧ u11 = s11 ∧ u12 = s12 ∧ t ≤ m ∧ s38 = .int .i64 (t : Int) ∧ Bel w wr ∧ wr.ownsRow v1.heap.size 3 1 (.slice (some ⟨xa, 0, none⟩) m xb) m (zs (mix q5 L t)) ∧ Tw v2.heap.size wr wr u11 t ((af 1 a1 P).take t) u12 t ((af f 0 P).take t)) (fun _ _ s38 _ => m - (intOf s38).toNat)
  case atStart => exact HR0.out
  case round =>
    clear HR0
    obtain ⟨t, wr, u11, u12, hwr, hu11, hu12, ht, rfl, hb, hox, hT⟩ := hrel
    subst hwr hu11 hu12
    have HB := Lib.hid hb
    have HOX := Lib.hid hox
    have HT0 := Lib.hid hT
    rcases Nat.lt_or_ge t m with hlt | hge
    · have c1 := (own_zi hox (by rw [mix_len]; exact HLL.out.1)).at t hlt
      rw [mix_at q5 L t (by have := HLL.out.1; omega)] at c1
      have fr1 := own_fr hox t
      have px := HLL.out.2.1.at t
      have e1 := map_at q5 L t (by have := HLL.out.1; omega)
      rw [HP.out.1] at e1
      have e2 := af_at 1 a1 P t (by have := HP.out.2.1; omega)
      have e3 := af_at f 0 P t (by have := HP.out.2.1; omega)
      obtain ⟨x, hx⟩ : ∃ x, L.getD t 0 = x := ⟨_, rfl⟩
      rw [hx] at c1 px e1
      have pp := q5_in px.1 px.2
      obtain ⟨p, hp⟩ : ∃ p, q5 x = p := ⟨_, rfl⟩
      rw [hp] at pp e1
      rw [e1] at e2 e3
      obtain ⟨p0, p1⟩ := pp
      obtain ⟨x0, x1⟩ := px
      have mb := mul_bd (A := 200) (B := 4) (by decide) (by decide) p0 p1 (show -4 ≤ f by omega) f2
      obtain ⟨z2, hz2⟩ : ∃ z, p * f = z := ⟨_, rfl⟩
      rw [hz2] at mb
      obtain ⟨mb0, mb1⟩ : -800 ≤ z2 ∧ z2 ≤ 800 := by omega
      obtain ⟨z1, hz1⟩ : ∃ z, p + a1 = z := ⟨_, rfl⟩
      rw [show p * 1 + a1 = z1 by omega] at e2
      rw [show p * f + 0 = z2 by omega] at e3
      have HX : Hid ((af 1 a1 P).take (t + 1) = (af 1 a1 P).take t ++ [z1] ∧ (af f 0 P).take (t + 1) = (af f 0 P).take t ++ [z2]) := ⟨by rw [take_snoc _ t (by rw [af_len]; have := HP.out.2.1; omega), e2], by rw [take_snoc _ t (by rw [af_len]; have := HP.out.2.1; omega), e3]⟩
      have HMX : Hid ((mix q5 L t).set t p = mix q5 L (t + 1)) := by show _ = _; rw [← hp, ← hx]; exact mix_set q5 L t (by have := HLL.out.1; omega)
      have d1 : x.tdiv 5 = p := hp
      have k1 : wrap64 p = p := IntWalk.wrap64_in _ (by omega)
      have ti : (t : Int) < (m : Int) := by omega
      have HZ := Lib.hid (And.intro hz1 (And.intro hz2 hx))
      obtain ⟨W2, hW2⟩ : ∃ W2, W2 = wr.setCell ⟨xa, t, none⟩ (.int .i64 p) := ⟨_, rfl⟩
      have wb : Bel w W2 := by rw [hW2]; exact HB.out.st (by show _ ≤ xa; omega) _
      have nox : W2.ownsRow v1.heap.size 3 1 (.slice (some ⟨xa, 0, none⟩) m xb) m (zs (mix q5 L (t + 1))) := by
        rw [hW2, ← HMX.out]
        exact own_set HOX.out p
      have hT1 : Tw v2.heap.size W2 W2 u11 t ((af 1 a1 P).take t) u12 t ((af f 0 P).take t) := by
        rw [hW2]
        obtain ⟨q1, q2, q3, q4, q5⟩ := HT0.out
        have r1 := ownsRow_setCell_below q1 (a := ⟨xa, t, none⟩) hxv.2 (.int .i64 p)
        have r2 := ownsRow_setCell_below q2 (a := ⟨xa, t, none⟩) hxv.2 (.int .i64 p)
        exact ⟨r1, r2, q3, Below.refl _ _, by simpa [World.setCell] using q5⟩
      have HT := Lib.hid hT1
      have HNX := Lib.hid nox
      have HWB := Lib.hid wb
      have c3 : W2.cell? ⟨xa, t, none⟩ = some (.int .i64 p) := by
        have := (own_zi nox (by rw [mix_len]; exact HLL.out.1)).at t hlt
        rw [← HMX.out, List.getD_eq_getElem?_getD, List.getElem?_set_self (by rw [mix_len]; have := HLL.out.1; omega)] at this
        exact this
      have HCX : Hid (∀ W, Below v2.heap.size W2 W → W.cell? ⟨xa, t, none⟩ = some (.int .i64 p)) := fun W hW => (Below.cell (p := ⟨xa, t, none⟩) hW hxv.2).trans c3
      have HW2 := Lib.hid hW2
      clear hb hox hT hx hp e1 e2 e3 mb hz1 hz2 hW2 wb nox hT1
      go_wp2
      rw [← HW2.out]
      clear c1 fr1
      have cA1 : ∀ o, (W2.alloc o).cell? ⟨xa, t, none⟩ = some (.int .i64 p) := fun o => kp_al c3 o
      have cA3 : ∀ o, (W2.alloc o).drew.cell? ⟨xa, t, none⟩ = some (.int .i64 p) := fun o => kp_al c3 o
      have m1 : p * f = z2 := HZ.out.2.1
      have m2' : IntKind.i64.wrap z2 = z2 := IntWalk.i64_in _ (by omega)
      have m3 : p + a1 = z1 := HZ.out.1
      have m5 : IntKind.i64.wrap z1 = z1 := IntWalk.i64_in _ (by omega)
      have m7 : IntKind.i64.wrap a1 = a1 := IntWalk.i64_in _ (by omega)
      go_region_law (first
          | (refine step_app _ rfl (.tmp 47) (.tmp 55) rfl v2.heap.size u11 t ((af 1 a1 P).take t) rfl (own_bel hTB.o1 (by repeat (first | exact Bel.rf | (with_reducible refine Bel.drwN ?_ _) | (with_reducible refine Bel.drw ?_) | (with_reducible refine Bel.al ?_ _)))) _ 1 1 [z1] rfl (by first | (refine zi_one (Bk.nq _ _ _ ?_); simp; done) | (refine zi_one ((Bk.nq _ _ _ ?_).al _); simp; done) | (refine zi_one (hkB _ ?_ (Bk.nq _ _ _ ?_)) <;> simp; done) | (refine zi_one (hkB _ ?_ ((Bk.nq _ _ _ ?_).al _)) <;> simp; done)) (by omega) (Tw.base (Tw.bel hTB (by repeat (first | exact Bel.rf | (with_reducible refine Bel.drwN ?_ _) | (with_reducible refine Bel.drw ?_) | (with_reducible refine Bel.al ?_ _))))) ?_; intro vp wp hop hgp hatp; have hT2 := Tw.app1 (Tw.bel hTB (by repeat (first | exact Bel.rf | (with_reducible refine Bel.drwN ?_ _) | (with_reducible refine Bel.drw ?_) | (with_reducible refine Bel.al ?_ _)))) hop hgp hatp)
          | (refine step_app _ rfl (.tmp 47) (.tmp 55) rfl v2.heap.size u11 t ((af 1 a1 P).take t) rfl (own_bel HT.out.o1 (by repeat (first | exact Bel.rf | (with_reducible refine Bel.drwN ?_ _) | (with_reducible refine Bel.drw ?_) | (with_reducible refine Bel.al ?_ _)))) _ 1 1 [z1] rfl (by first | (refine zi_one (Bk.nq _ _ _ ?_); simp; done) | (refine zi_one ((Bk.nq _ _ _ ?_).al _); simp; done)) (by omega) (Tw.base (Tw.bel HT.out (by repeat (first | exact Bel.rf | (with_reducible refine Bel.drwN ?_ _) | (with_reducible refine Bel.drw ?_) | (with_reducible refine Bel.al ?_ _))))) ?_; intro vp wp hop hgp hatp; have hTA := Tw.app1 (Tw.bel HT.out (by repeat (first | exact Bel.rf | (with_reducible refine Bel.drwN ?_ _) | (with_reducible refine Bel.drw ?_) | (with_reducible refine Bel.al ?_ _)))) hop hgp hatp; have cqx := HCX.out _ (Tw.low hTA); have hkA := fun (q : Nat) (hq : W2.heap.size ≤ q) h => bk_grown (g := q) (t := 3) (cs := #[.int .i64 z2]) h hgp (fun b e => (HT.out.o1.lt b e).2) hq)
          | (refine step_app _ rfl (.tmp 57) (.tmp 64) rfl v2.heap.size u12 t ((af f 0 P).take t) rfl (own_bel hTA.o2 (by repeat (first | exact Bel.rf | (with_reducible refine Bel.drwN ?_ _) | (with_reducible refine Bel.drw ?_) | (with_reducible refine Bel.al ?_ _)))) _ 1 1 [z2] rfl (by first | (refine zi_one (Bk.nq _ _ _ ?_); simp; done) | (refine zi_one ((Bk.nq _ _ _ ?_).al _); simp; done) | (refine zi_one (hkA _ ?_ (Bk.nq _ _ _ ?_)) <;> simp; done) | (refine zi_one (hkA _ ?_ ((Bk.nq _ _ _ ?_).al _)) <;> simp; done)) (by omega) (Tw.base (Tw.bel hTA (by repeat (first | exact Bel.rf | (with_reducible refine Bel.drwN ?_ _) | (with_reducible refine Bel.drw ?_) | (with_reducible refine Bel.al ?_ _))))) ?_; intro vq wq hoq hgq hatq; have hT2 := Tw.app2 (Tw.bel hTA (by repeat (first | exact Bel.rf | (with_reducible refine Bel.drwN ?_ _) | (with_reducible refine Bel.drw ?_) | (with_reducible refine Bel.al ?_ _)))) hoq hgq hatq)
          | (refine step_app _ rfl (.tmp 57) (.tmp 64) rfl v2.heap.size u12 t ((af f 0 P).take t) rfl (own_bel HT.out.o2 (by repeat (first | exact Bel.rf | (with_reducible refine Bel.drwN ?_ _) | (with_reducible refine Bel.drw ?_) | (with_reducible refine Bel.al ?_ _)))) _ 1 1 [z2] rfl (by first | (refine zi_one (Bk.nq _ _ _ ?_); simp; done) | (refine zi_one ((Bk.nq _ _ _ ?_).al _); simp; done)) (by omega) (Tw.base (Tw.bel HT.out (by repeat (first | exact Bel.rf | (with_reducible refine Bel.drwN ?_ _) | (with_reducible refine Bel.drw ?_) | (with_reducible refine Bel.al ?_ _))))) ?_; intro vq wq hoq hgq hatq; have hTB := Tw.app2 (Tw.bel HT.out (by repeat (first | exact Bel.rf | (with_reducible refine Bel.drwN ?_ _) | (with_reducible refine Bel.drw ?_) | (with_reducible refine Bel.al ?_ _)))) hoq hgq hatq; have cqx := HCX.out _ (Tw.low hTB); have hkB := fun (q : Nat) (hq : W2.heap.size ≤ q) h => bk_grown (g := q) (t := 3) (cs := #[.int .i64 z1]) h hgq (fun b e => (HT.out.o2.lt b e).2) hq))
      all_goals
        have HT2 := Lib.hid hT2
        clear hT2
        go_wp2
        go_roundw
        case rel => exact ⟨t + 1, _, _, _, rfl, rfl, rfl, by omega, by go_num, bel_low HWB.out HT2.out.low hB2, own_blw HNX.out HT2.out.low hxv.2, by rw [HX.out.1, HX.out.2]; exact ⟨HT2.out.1, HT2.out.2.1, HT2.out.2.2.1, Below.refl _ _, HT2.out.2.2.2.2⟩⟩
        case measure => simp [intOf]; omega
    · obtain rfl : t = m := by omega
      rw [List.take_of_length_le (by rw [af_len]; have := HP.out.2.1; omega), List.take_of_length_le (by rw [af_len]; have := HP.out.2.1; omega)] at hT
      have eX : mix q5 L t = P := by have := mix_all q5 L; rwa [HLL.out.1, HP.out.1] at this
      rw [eX] at hox
      obtain ⟨ya, yb, rfl, hyc, hyq⟩ := row_form hT.o1 (by omega)
      obtain ⟨za, zb, rfl, hzc, hzq⟩ := row_form hT.o2 (by omega)
      have lP := HP.out.2.1
      have bP := HP.out.2.2
      have zx : Zi wr (some ⟨xa, 0, none⟩) t P := own_zi hox lP
      have zy : Zi wr (some ⟨ya, 0, none⟩) t (af 1 a1 P) := own_zi hT.o1 (by rw [af_len]; exact lP)
      have zz : Zi wr (some ⟨za, 0, none⟩) t (af f 0 P) := own_zi hT.o2 (by rw [af_len]; exact lP)
      have sP : Sam P := fun x hx => by have := bP x hx; omega
      have sY : Sam (af 1 a1 P) := fun y hy => by
        obtain ⟨x, hx, rfl⟩ := List.mem_map.1 hy
        have := bP x hx
        omega
      have sZ : Sam (af f 0 P) := fun y hy => by
        obtain ⟨x, hx, rfl⟩ := List.mem_map.1 hy
        have h1 := bP x hx
        have h2 := mul_bd (A := 200) (B := 4) (by decide) (by decide) h1.1 h1.2 (show -4 ≤ f by omega) f2
        omega
      have cY : cen (af 1 a1 P) = cen P := cen_mv a1 P
      have cZ : ∀ k, k < n → pa (cen (af f 0 P)) t n k = pa (cen P) t n k * f := fun k hk => pa_sc f P t n k lP n1 hk
      have vY : vr (af 1 a1 P) = vr P := by rw [af_vr]; omega
      have vZ : vr (af f 0 P) = f * f * vr P := af_vr f 0 P
      have pb := cen_pb (n := n) sP lP m32 n1
      have OX : Hid (∀ W, Bel wr W → Calls Try.prog 16 #[.slice (some ⟨xa, 0, none⟩) t xb, .int .i64 (n : Int)] W fun e w' => ∃ h c', e = .returned (.tuple #[.agg #[.int .i64 (t : Int), .slice (some ⟨h, 0, none⟩) n c', .int .i64 ((t : Int) * vr P)], .int .i64 0]) ∧ Zi w' (some ⟨h, 0, none⟩) n (pls (cen P) t n) ∧ Bel W w') := fun W hW => (Of_ok xa xb t n P m2 m32 n1 n8 nm HLL.out.2.2 sP W (zx.bel hW)).mono fun _ _ ⟨h, c', e, _, _, z, b⟩ => ⟨h, c', e, z, b⟩
      have OY : Hid (∀ W, Bel wr W → Calls Try.prog 16 #[.slice (some ⟨ya, 0, none⟩) t yb, .int .i64 (n : Int)] W fun e w' => ∃ h c', e = .returned (.tuple #[.agg #[.int .i64 (t : Int), .slice (some ⟨h, 0, none⟩) n c', .int .i64 ((t : Int) * vr P)], .int .i64 0]) ∧ Zi w' (some ⟨h, 0, none⟩) n (pls (cen P) t n) ∧ Bel W w') := fun W hW => by
        rw [← vY, ← cY]
        exact (Of_ok ya yb t n _ m2 m32 n1 n8 nm hyc sY W (zy.bel hW)).mono fun _ _ ⟨h, c', e, _, _, z, b⟩ => ⟨h, c', e, z, b⟩
      have OZ : Hid (∀ W, Bel wr W → Calls Try.prog 16 #[.slice (some ⟨za, 0, none⟩) t zb, .int .i64 (n : Int)] W fun e w' => ∃ h c', e = .returned (.tuple #[.agg #[.int .i64 (t : Int), .slice (some ⟨h, 0, none⟩) n c', .int .i64 ((t : Int) * vr P * f * f)], .int .i64 0]) ∧ Zi w' (some ⟨h, 0, none⟩) n (pls (cen (af f 0 P)) t n) ∧ Bel W w') := fun W hW => by
        rw [show (t : Int) * vr P * f * f = (t : Int) * (f * f * vr P) by grind, ← vZ]
        exact (Of_ok za zb t n _ m2 m32 n1 n8 nm hzc sZ W (zz.bel hW)).mono fun _ _ ⟨h, c', e, _, _, z, b⟩ => ⟨h, c', e, z, b⟩
      have HS : Hid (∀ k, k < n → (pls (cen (af f 0 P)) t n).getD k 0 = (pls (cen P) t n).getD k 0 * f ∧ -2048000 ≤ (pls (cen P) t n).getD k 0 ∧ (pls (cen P) t n).getD k 0 ≤ 2048000) := fun k hk => by
        rw [pls_pa _ t n k hk, pls_pa _ t n k hk, cZ k hk]
        exact ⟨rfl, pb k hk⟩
      have v := vr_le sP (by omega)
      have HLS : Hid ((pls (cen P) t n).length = n) := pls_len _ _ _
      obtain ⟨S1, hS1⟩ : ∃ c, pls (cen P) t n = c := ⟨_, rfl⟩
      obtain ⟨S2, hS2⟩ : ∃ c, pls (cen (af f 0 P)) t n = c := ⟨_, rfl⟩
      rw [hS1] at OX OY HS HLS
      rw [hS2] at OZ HS
      have eb : (t : Int) * vr P ≤ 32 * 1024000000 := Int.mul_le_mul (by omega) v.2 v.1 (by omega)
      have ea : 0 ≤ (t : Int) * vr P := Int.mul_nonneg (by omega) v.1
      obtain ⟨E1, hE1⟩ : ∃ c, (t : Int) * vr P = c := ⟨_, rfl⟩
      rw [hE1] at OX OY OZ ea eb
      have ec := mul_bd (A := 32768000000) (B := 4) (x := E1) (y := f) (by decide) (by decide) (by omega) (by omega) (by omega) f2
      obtain ⟨E2, hE2⟩ : ∃ c, E1 * f = c := ⟨_, rfl⟩
      rw [hE2] at OZ ec
      have ed := mul_bd (A := 131072000000) (B := 4) (x := E2) (y := f) (by decide) (by decide) (by omega) (by omega) (by omega) f2
      obtain ⟨E3, hE3⟩ : ∃ c, E2 * f = c := ⟨_, rfl⟩
      rw [hE3] at OZ ed
      have g1 : wrap64 (E1 * f) = E2 := by rw [hE2]; exact IntWalk.wrap64_in _ (by omega)
      have g2 : wrap64 (E2 * f) = E3 := by rw [hE3]; exact IntWalk.wrap64_in _ (by omega)
      have g3 := ne_self E3
      have g4 := ne_self (n : Int)
      have HBw : Hid (Bel w wr) := hb
      clear hb hox hT eX zx zy zz sP sY sZ cY cZ vY vZ pb v hS1 hS2 eb ea hE1 ec hE2 ed hE3 lP bP hyc hyq hzc hzq
      clear HB
      have HB : Hid (Bel wr wr) := Bel.rf
      go_wp2_with fail
      go_at_call 16
      refine (OX.out _ HB.out).mono ?_
      rintro e v3 ⟨h1, k1, rfl, hz1, hb⟩
      have HBa : Hid (Bel wr v3) := HB.out.tr hb
      replace HB : Hid (Bel wr (v3.alloc (.cells #[.int .i64 (t : Int), .slice (some ⟨h1, 0, none⟩) n k1, .int .i64 E1] 29))) := HBa.out.al _
      have HKA : Hid (Bk (v3.alloc (.cells #[.int .i64 (t : Int), .slice (some ⟨h1, 0, none⟩) n k1, .int .i64 E1] 29)) v3.heap.size 29 #[.int .i64 (t : Int), .slice (some ⟨h1, 0, none⟩) n k1, .int .i64 E1]) := Bk.nw _ _ _
      clear hb HBa 
      have HZA : Hid (Zi (v3.alloc (.cells #[.int .i64 (t : Int), .slice (some ⟨h1, 0, none⟩) n k1, .int .i64 E1] 29)) (some ⟨h1, 0, none⟩) n S1) := hz1.bel (Bel.rf.al _)
      clear hz1
      go_wp2_with fail
      go_at_call 16
      refine (OY.out _ HB.out).mono ?_
      rintro e v4 ⟨h2, k2, rfl, hz2, hb⟩
      have HBa : Hid (Bel wr v4) := HB.out.tr hb
      have KA : Bk v4 v3.heap.size 29 #[.int .i64 (t : Int), .slice (some ⟨h1, 0, none⟩) n k1, .int .i64 E1] := HKA.out.bel hb
      have cA0 : v4.cell? ⟨v3.heap.size, 0, none⟩ = some (.int .i64 (t : Int)) := KA.cell 0
      have cA1 : v4.cell? ⟨v3.heap.size, 1, none⟩ = some (.slice (some ⟨h1, 0, none⟩) n k1) := KA.cell 1
      have cA2 : v4.cell? ⟨v3.heap.size, 2, none⟩ = some (.int .i64 E1) := KA.cell 2
      have lA := KA.lt
      replace HB : Hid (Bel wr (v4.alloc (.cells #[.int .i64 (t : Int), .slice (some ⟨h2, 0, none⟩) n k2, .int .i64 E1] 29))) := HBa.out.al _
      replace HKA : Hid (Bk (v4.alloc (.cells #[.int .i64 (t : Int), .slice (some ⟨h2, 0, none⟩) n k2, .int .i64 E1] 29)) v3.heap.size 29 #[.int .i64 (t : Int), .slice (some ⟨h1, 0, none⟩) n k1, .int .i64 E1]) := KA.al _
      have HKB : Hid (Bk (v4.alloc (.cells #[.int .i64 (t : Int), .slice (some ⟨h2, 0, none⟩) n k2, .int .i64 E1] 29)) v4.heap.size 29 #[.int .i64 (t : Int), .slice (some ⟨h2, 0, none⟩) n k2, .int .i64 E1]) := Bk.nw _ _ _
      replace HZA : Hid (Zi (v4.alloc (.cells #[.int .i64 (t : Int), .slice (some ⟨h2, 0, none⟩) n k2, .int .i64 E1] 29)) (some ⟨h1, 0, none⟩) n S1) := (HZA.out.bel hb).bel (Bel.rf.al _)
      clear hb HBa KA
      have HZB : Hid (Zi (v4.alloc (.cells #[.int .i64 (t : Int), .slice (some ⟨h2, 0, none⟩) n k2, .int .i64 E1] 29)) (some ⟨h2, 0, none⟩) n S1) := hz2.bel (Bel.rf.al _)
      clear hz2
      go_wp2_with fail
      go_at_call 16
      refine (OZ.out _ HB.out).mono ?_
      rintro e v5 ⟨h3, k3, rfl, hz3, hb⟩
      have HBa : Hid (Bel wr v5) := HB.out.tr hb
      have KA : Bk v5 v3.heap.size 29 #[.int .i64 (t : Int), .slice (some ⟨h1, 0, none⟩) n k1, .int .i64 E1] := HKA.out.bel hb
      have cA0 : v5.cell? ⟨v3.heap.size, 0, none⟩ = some (.int .i64 (t : Int)) := KA.cell 0
      have cA1 : v5.cell? ⟨v3.heap.size, 1, none⟩ = some (.slice (some ⟨h1, 0, none⟩) n k1) := KA.cell 1
      have cA2 : v5.cell? ⟨v3.heap.size, 2, none⟩ = some (.int .i64 E1) := KA.cell 2
      have lA := KA.lt
      have KB : Bk v5 v4.heap.size 29 #[.int .i64 (t : Int), .slice (some ⟨h2, 0, none⟩) n k2, .int .i64 E1] := HKB.out.bel hb
      have cB0 : v5.cell? ⟨v4.heap.size, 0, none⟩ = some (.int .i64 (t : Int)) := KB.cell 0
      have cB1 : v5.cell? ⟨v4.heap.size, 1, none⟩ = some (.slice (some ⟨h2, 0, none⟩) n k2) := KB.cell 1
      have cB2 : v5.cell? ⟨v4.heap.size, 2, none⟩ = some (.int .i64 E1) := KB.cell 2
      have lB := KB.lt
      replace HB : Hid (Bel wr (v5.alloc (.cells #[.int .i64 (t : Int), .slice (some ⟨h3, 0, none⟩) n k3, .int .i64 E3] 29))) := HBa.out.al _
      replace HKA : Hid (Bk (v5.alloc (.cells #[.int .i64 (t : Int), .slice (some ⟨h3, 0, none⟩) n k3, .int .i64 E3] 29)) v3.heap.size 29 #[.int .i64 (t : Int), .slice (some ⟨h1, 0, none⟩) n k1, .int .i64 E1]) := KA.al _
      replace HKB : Hid (Bk (v5.alloc (.cells #[.int .i64 (t : Int), .slice (some ⟨h3, 0, none⟩) n k3, .int .i64 E3] 29)) v4.heap.size 29 #[.int .i64 (t : Int), .slice (some ⟨h2, 0, none⟩) n k2, .int .i64 E1]) := KB.al _
      have HKC : Hid (Bk (v5.alloc (.cells #[.int .i64 (t : Int), .slice (some ⟨h3, 0, none⟩) n k3, .int .i64 E3] 29)) v5.heap.size 29 #[.int .i64 (t : Int), .slice (some ⟨h3, 0, none⟩) n k3, .int .i64 E3]) := Bk.nw _ _ _
      replace HZA : Hid (Zi (v5.alloc (.cells #[.int .i64 (t : Int), .slice (some ⟨h3, 0, none⟩) n k3, .int .i64 E3] 29)) (some ⟨h1, 0, none⟩) n S1) := (HZA.out.bel hb).bel (Bel.rf.al _)
      replace HZB : Hid (Zi (v5.alloc (.cells #[.int .i64 (t : Int), .slice (some ⟨h3, 0, none⟩) n k3, .int .i64 E3] 29)) (some ⟨h2, 0, none⟩) n S1) := (HZB.out.bel hb).bel (Bel.rf.al _)
      clear hb HBa KA KB
      have HZC : Hid (Zi (v5.alloc (.cells #[.int .i64 (t : Int), .slice (some ⟨h3, 0, none⟩) n k3, .int .i64 E3] 29)) (some ⟨h3, 0, none⟩) n S2) := hz3.bel (Bel.rf.al _)
      clear hz3
      go_wp2_with fail
      go_at_call 26
      refine (same_yes h1 k1 h2 k2 t n E1 S1 (by omega) _ HZA.out HZB.out).mono ?_
      rintro e v6 ⟨rfl, hb⟩
      have HBa : Hid (Bel wr v6) := HB.out.tr hb
      have KA : Bk v6 v3.heap.size 29 #[.int .i64 (t : Int), .slice (some ⟨h1, 0, none⟩) n k1, .int .i64 E1] := HKA.out.bel hb
      have cA0 : v6.cell? ⟨v3.heap.size, 0, none⟩ = some (.int .i64 (t : Int)) := KA.cell 0
      have cA1 : v6.cell? ⟨v3.heap.size, 1, none⟩ = some (.slice (some ⟨h1, 0, none⟩) n k1) := KA.cell 1
      have cA2 : v6.cell? ⟨v3.heap.size, 2, none⟩ = some (.int .i64 E1) := KA.cell 2
      have lA := KA.lt
      have KB : Bk v6 v4.heap.size 29 #[.int .i64 (t : Int), .slice (some ⟨h2, 0, none⟩) n k2, .int .i64 E1] := HKB.out.bel hb
      have cB0 : v6.cell? ⟨v4.heap.size, 0, none⟩ = some (.int .i64 (t : Int)) := KB.cell 0
      have cB1 : v6.cell? ⟨v4.heap.size, 1, none⟩ = some (.slice (some ⟨h2, 0, none⟩) n k2) := KB.cell 1
      have cB2 : v6.cell? ⟨v4.heap.size, 2, none⟩ = some (.int .i64 E1) := KB.cell 2
      have lB := KB.lt
      have KC : Bk v6 v5.heap.size 29 #[.int .i64 (t : Int), .slice (some ⟨h3, 0, none⟩) n k3, .int .i64 E3] := HKC.out.bel hb
      have cC0 : v6.cell? ⟨v5.heap.size, 0, none⟩ = some (.int .i64 (t : Int)) := KC.cell 0
      have cC1 : v6.cell? ⟨v5.heap.size, 1, none⟩ = some (.slice (some ⟨h3, 0, none⟩) n k3) := KC.cell 1
      have cC2 : v6.cell? ⟨v5.heap.size, 2, none⟩ = some (.int .i64 E3) := KC.cell 2
      have lC := KC.lt
      replace HB : Hid (Bel wr v6) := HBa.out
      replace HKA : Hid (Bk v6 v3.heap.size 29 #[.int .i64 (t : Int), .slice (some ⟨h1, 0, none⟩) n k1, .int .i64 E1]) := KA
      replace HKB : Hid (Bk v6 v4.heap.size 29 #[.int .i64 (t : Int), .slice (some ⟨h2, 0, none⟩) n k2, .int .i64 E1]) := KB
      replace HKC : Hid (Bk v6 v5.heap.size 29 #[.int .i64 (t : Int), .slice (some ⟨h3, 0, none⟩) n k3, .int .i64 E3]) := KC
      replace HZA : Hid (Zi v6 (some ⟨h1, 0, none⟩) n S1) := HZA.out.bel hb
      replace HZB : Hid (Zi v6 (some ⟨h2, 0, none⟩) n S1) := HZB.out.bel hb
      replace HZC : Hid (Zi v6 (some ⟨h3, 0, none⟩) n S2) := HZC.out.bel hb
      clear hb HBa KA KB KC
      go_wp2
      go_loopw [124] (fun s124 wq => ∃ (k : Nat) (V : World), V = wq ∧ k ≤ n ∧ s124 = .int .i64 (k : Int) ∧ Bel v6 wq) (fun s124 _ => n - (intOf s124).toNat)
      case atStart => exact ⟨0, _, rfl, by omega, rfl, by first | exact Bel.rf | exact Bel.rf.drwN _⟩
      case round =>
        obtain ⟨k, wq, hwq, hk, rfl, hb⟩ := hrel
        subst hwq
        have HBq := Lib.hid hb
        rcases Nat.lt_or_ge k n with hlt2 | hge2
        · have d1 := (HZA.out.bel hb).at k hlt2
          have d2 := (HZC.out.bel hb).at k hlt2
          have KA := HKA.out.bel hb
          have KC := HKC.out.bel hb
          have a1' : wq.cell? ⟨v3.heap.size, 1, none⟩ = some (.slice (some ⟨h1, 0, none⟩) n k1) := KA.cell 1
          have c1' : wq.cell? ⟨v5.heap.size, 1, none⟩ = some (.slice (some ⟨h3, 0, none⟩) n k3) := KC.cell 1
          have al := KA.lt
          have cl := KC.lt
          have hs := HS.out k hlt2
          obtain ⟨A, hA⟩ : ∃ c, S1.getD k 0 = c := ⟨_, rfl⟩
          rw [hA] at d1 hs
          rw [hs.1] at d2
          obtain ⟨_, A0, A1⟩ := hs
          have mb := mul_bd (A := 2048000) (B := 4) (by decide) (by decide) A0 A1 (show -4 ≤ f by omega) f2
          obtain ⟨B, hB⟩ : ∃ c, A * f = c := ⟨_, rfl⟩
          rw [hB] at d2 mb
          have m1 : IntKind.i64.wrap (A * f) = B := by rw [hB]; exact IntWalk.i64_in _ (by omega)
          have m2' := ne_self B
          have ti2 : (k : Int) < (n : Int) := by omega
          clear hb KA KC hA hB mb
          go_wp2
          go_quiet (fail)
          go_wp2
          go_roundw
          case rel => exact ⟨k + 1, _, rfl, by omega, by go_num, by first | exact HBq.out.drwN _ | exact HBq.out.drw | exact HBq.out⟩
          case measure => simp [intOf]; omega
        · obtain rfl : k = n := by omega
          clear hb
          go_wp2_with (go_at_call 21; refine (AW.out _).mono ?_; rintro e v12 ⟨rfl, h12⟩)
          go_ret
          exact ⟨rfl, (HBw.out.tr ((HB.out.tr HBq.out).tr h12)).bl⟩

set_option maxRecDepth 100000 in
theorem lifted (os : Os) (started : os.Started) (H : Type) (enc : TypeId × Value → H) :
    ReturnsInHanded {} Try.checked os 5 .any (Rows.sketchShiftsSpec.pre6 enc Try.prog Try.f5 Rows.sketchShiftsRow.domain false) (Rows.sketchShiftsSpec.post enc Try.prog Try.f5 false true false false) := by
  refine returnsInHanded_of_change (C := Try.checked) own started (by kernel_rfl) Try.func5
    (ChangeSpec.witness6 (enc := enc) (C := Try.checked) false ⟨#[], #[.slice none 0 0, .int .i8 0, .int .u8 0], []⟩ 8 (by kernel_rfl) (by kernel_rfl) (by kernel_rfl) (by kernel_rfl)) ?_
  intro W base args ds gs before hval0 hW hcnd _
  have hval : ∀ (j : Nat) t v, Try.f5.params[j]? = some t → args[j]? = some v → Value.okWide Try.prog W .any base t v := hval0
  have hW' := hW
  obtain ⟨p, q, hA0, hV, rfl, hfz, hnd⟩ := hW
  have hA : DataW.TrodAll enc Try.prog W 0 (fun _ => true) true Try.f5.params.toList args.toList ds p := hA0
  rw [Try.params5] at hA hval
  obtain ⟨v0, vs0, d0, ds0, p0, q0, hargs, rfl, rfl, h0, r0⟩ := trodAll_cons hA
  obtain ⟨v1, vs1, d1, ds1, p1, q1, rfl, rfl, rfl, h1, r1⟩ := trodAll_cons r0
  obtain ⟨v2, vs2, d2, ds2, p2, q2, rfl, rfl, rfl, h2, r2⟩ := trodAll_cons r1
  obtain ⟨rfl, rfl, rfl⟩ := trodAll_nil r2
  obtain rfl : args = #[v0, v1, v2] := by cases args; simp_all
  obtain ⟨rfl, rfl⟩ := trodVars_none hV
  obtain ⟨a0, len0, cap0, rfl⟩ := okWide_slice Try.underlying22 (hval 0 22 v0 rfl rfl)
  have k0 := h0
  have lt0 : ∀ x ∈ p0, x.block < W.heap.size := by obtain ⟨m, hm⟩ := k0; exact DataW.trod_lt m _ _ _ hm
  obtain ⟨z0, w0⟩ : ∃ zs, IsRow .i64 W a0 len0 cap0 zs := by
    obtain ⟨fuel, hf⟩ := h0
    rcases open_ints Try.underlying22 Try.underlying3 (by kernel_rfl) hf with ⟨hcs, _⟩ | ⟨x, l, c, zs, hcs, _, hl, hm, hz, _, hcell, hwz⟩
    · simp [Value.cells] at hcs
      obtain ⟨rfl, rfl, rfl⟩ := hcs
      exact ⟨[], .inl ⟨rfl, rfl, rfl, rfl⟩⟩
    · simp [Value.cells] at hcs
      obtain ⟨rfl, rfl, rfl⟩ := hcs
      exact ⟨zs, .inr ⟨_, rfl, hl, hm, by simpa using hz, hcell, hwz⟩⟩
  obtain ⟨a1, rfl, rfl, rfl, w1⟩ := open_int Try.underlying47 (hval 1 47 v1 rfl rfl) h1
  obtain ⟨a2, rfl, rfl, rfl, w2⟩ := open_int Try.underlying5 (hval 2 5 v2 rfl rfl) h2
  clear hA0 hval0
  refine (walk a0 len0 cap0 z0 a1 a2 W w0 w1 w2).mono fun e W' ⟨he, bel⟩ => ?_
  subst he
  exact ⟨_, rfl, _, _, _, [], _, [], hW', trodAll_mk1 (shut_bool Try.underlying4 _), (trodAll_cons_mk (Below.trod laidOut (by kernel_rfl) (of_decide_eq_true (by kernel_rfl)) k0 bel lt0) (trodAll_cons_mk (shut_int Try.underlying47 w1) (trodAll_cons_mk (shut_int Try.underlying5 w2) trodAll_mk0))), rfl, bel.frame _, fun h => by cases h⟩

theorem over : Rows.sketchShiftsRow.holds Try.pinned (OpenSpec.ofChange Rows.sketchShiftsSpec) :=
  OpenClaim.holds_of_wide 5 Try.f5 rfl rfl rfl rfl rfl rfl rfl ⟨rfl, rfl, rfl, rfl, rfl⟩ rfl rfl rfl rfl rfl (by kernel_rfl) Try.func5 (by kernel_rfl)
    (of_decide_eq_true (by kernel_rfl)) (by unfold Func.isWrapper; first | (rw [if_pos (by decide +kernel)]; kernel_rfl) | (rw [if_neg (by decide +kernel)]; exact ⟨rfl, rfl⟩))
    (fun os started H enc _ => lifted os started H enc)

theorem proved : Rows.SketchShiftsSaid := over
end Go.Proofs.Ytpbnabibnkohdaa.sketchShifts
