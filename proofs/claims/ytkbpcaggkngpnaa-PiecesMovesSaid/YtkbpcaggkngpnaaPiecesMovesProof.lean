/- That the law PiecesMoves returns true for every input that can be read, and leaves its arguments as they were; no further condition. -/
import Derived.Test.YtkbpcaggkngpnaaRows
import Derived.WalkKit
import Derived.ProofKit
import Derived.OpenShut
import Derived.Test.YtkbpcaggkngpnaaWords
import Derived.Test.YtkbpcaggkngpnaaPieL
import Derived.Test.YtkbpcaggkngpnaaLeav
import Derived.Test.YtkbpcaggkngpnaaSrcNew0
import Derived.ShutString
import Derived.ChangeOld
import Derived.Below
namespace Go.Proofs.Ytkbpcaggkngpnaa.piecesMoves
open Go.ChangeShapes Go.WideShapes Go.ChangeAt Go.RowKit Wo
open Go.ChangeMaps (open_string shut_string)
set_option linter.unusedVariables false

theorem own : ownKnob Try.prog.godebug = none := by kernel_rfl
theorem laidOut : laidOutB Try.prog = true := by kernel_rfl

/-- WHAT THE WALK IS TOLD OF A SLICE OF INTEGERS THAT CAME IN: it is nil; or it leads to a row of 'cap' cells, the numbers 'zs' (the first 'len' are its elements, the rest its spare room), each fitting its kind. -/
def IsRow (k : IntKind) (w : World) (a : Option Addr) (len cap : Nat) (zs : List Int) : Prop :=
  (a = none ∧ len = 0 ∧ cap = 0 ∧ zs = []) ∨
  ∃ x, a = some x ∧ len ≤ cap ∧ cap ≤ maxLen ∧ zs.length = cap ∧ (∀ i, i < zs.length → w.cell? (x.add i) = some (.int k (zs.getD i 0))) ∧ ∀ n ∈ zs, (Lit.int k n).wf = true

open Go.Proofs.Ytkbpcaggkngpnaa.Pc Go.Proofs.Ytkbpcaggkngpnaa.Nr Go.Proofs.Ytkbpcaggkngpnaa.Eu Go.Proofs.Ytkbpcaggkngpnaa.Wi Go.Proofs.Ytkbpcaggkngpnaa.Wo Go.Proofs.Ytkbpcaggkngpnaa.Sr Go.Proofs.Ytkbpcaggkngpnaa.Ra in
set_option maxHeartbeats 4000000 in
set_option maxRecDepth 100000 in
theorem walk (a0 : Option Addr) (len0 cap0 : Nat) (z0 : List Int) (a1 : Int) (w : World) (w0 : IsRow .i64 w a0 len0 cap0 z0) (w1 : (Lit.int .i8 a1).wf = true) :
    Calls Try.prog 12 #[.slice a0 len0 cap0, .int .i8 a1] w fun e w' => e = .returned (.bool true) ∧ Below w.heap.size w w' := by
  have b1 := bounds_i8 w1
  obtain ⟨i1, i2⟩ := b1
  have HW := Lib.hid w1
  clear w1
  have AW : Hid (∀ W, Calls Try.prog 28 #[] W fun e w' => e = .returned (.bool true) ∧ Bel W w') := awake_any
  go_enter Try.func12, Try.ntmps12
  go_wp2_with fail
  go_at_call 13
  refine (new_any a0 len0 cap0 z0 w w0).mono ?_
  rintro e v1 ⟨g, rfl, hg, ho1, hb1⟩
  have HO1 := Lib.hid ho1
  have HB1 := Lib.hid hb1
  clear ho1 hb1 w0
  go_wp2_with fail
  go_at_call 14
  refine (pair_any g _ HO1.out).mono ?_
  rintro e v0 ⟨xa, xb, ya, yb, m, L, M, rfl, n1, n2, hxy, hox, hoy, lL, lM, sL, sM, ho2, hc2⟩
  have HO2 := Lib.hid ho2
  have HC2 := Lib.hid hc2
  have HOX := Lib.hid hox
  have HOY := Lib.hid hoy
  have hgv := HO1.out.lt
  have ni1 : 2 ≤ (m : Int) := by omega
  have ni2 : (m : Int) ≤ 32 := by omega
  have cx := row_cap hox
  have cy := row_cap hoy
  have HLL := Lib.hid (And.intro lL (And.intro lM (And.intro sL (And.intro sM (And.intro cx cy)))))
  clear ho2 hc2 hox hoy cx cy
  go_wp2_with fail
  go_at_call 29
  refine (count_any g m n1 n2 _ HO2.out).mono ?_
  rintro e v2 ⟨n, rfl, k1, k8, km, ho3, hc3⟩
  have HB2 : Hid (Bel w v2) := Bel.ch (Bel.ch HB1.out HC2.out hg) hc3 hg
  have HOX2 := Lib.hid (own_ch HOX.out hc3 hgv)
  have HOY2 := Lib.hid (own_ch HOY.out hc3 hgv)
  have hxv := HOX2.out.lt xa rfl
  have hyv := HOY2.out.lt ya rfl
  have kk1 : 1 ≤ (n : Int) := by omega
  have kk8 : (n : Int) ≤ 8 := by omega
  clear ho3 hc3 HOX HOY
  obtain ⟨P, hP⟩ : ∃ P, L.map fif = P := ⟨_, rfl⟩
  obtain ⟨Q, hQ⟩ : ∃ Q, M.map fif = Q := ⟨_, rfl⟩
  have lP : P.length = m := by rw [← hP]; simpa using lL
  have lQ : Q.length = m := by rw [← hQ]; simpa using lM
  have bP : Bd 800 P := fun x hx => by
    rw [← hP] at hx
    obtain ⟨z, hz1, rfl⟩ := List.mem_map.1 hx
    have := sL z hz1
    exact fif_in this.1 this.2
  have bQ : Bd 800 Q := fun x hx => by
    rw [← hQ] at hx
    obtain ⟨z, hz1, rfl⟩ := List.mem_map.1 hx
    have := sM z hz1
    exact fif_in this.1 this.2
  have HP := Lib.hid (And.intro hP (And.intro lP bP))
  have HQ := Lib.hid (And.intro hQ (And.intro lQ bQ))
  have hB0 : w.heap.size ≤ v1.heap.size := HB1.out.size
  have hB2 := HB2.out.size
  have HR0 : Hid (∃ (t : Nat) (V : World) (u9 u10 : Value), V = v2 ∧ u9 = (Value.slice none 0 0) ∧ u10 = (Value.slice none 0 0) ∧ t ≤ m ∧ (Value.int .i64 0) = .int .i64 (t : Int) ∧ Bel w v2 ∧ v2.ownsRow v1.heap.size 3 1 (.slice (some ⟨xa, 0, none⟩) m xb) m (zs (mix fif L t)) ∧ v2.ownsRow v1.heap.size 3 1 (.slice (some ⟨ya, 0, none⟩) m yb) m (zs (mix fif M t)) ∧ Tw v2.heap.size v2 v2 u9 t ((af 1 a1 P).take t) u10 t ((af 1 a1 Q).take t)) :=
    ⟨0, _, _, _, rfl, rfl, rfl, by omega, rfl, HB2.out, by simpa [mix] using HOX2.out, by simpa [mix] using HOY2.out, by simpa using Tw.nil (Bel.rf (a := v2)) (Nat.le_refl _)⟩
  clear hP hQ lP lQ bP bQ lL lM sL sM HOX2 HOY2
  go_wp2
  go_loopw [9, 10, 37] (fun s9 s10 s37 wr => ∃ (t : Nat) (V : World) (u9 u10 : Value), V = wr ∧ u9 = s9 ∧ u10 = s10 ∧ t ≤ m ∧ s37 = .int .i64 (t : Int) ∧ Bel w wr ∧ wr.ownsRow v1.heap.size 3 1 (.slice (some ⟨xa, 0, none⟩) m xb) m (zs (mix fif L t)) ∧ wr.ownsRow v1.heap.size 3 1 (.slice (some ⟨ya, 0, none⟩) m yb) m (zs (mix fif M t)) ∧ Tw v2.heap.size wr wr u9 t ((af 1 a1 P).take t) u10 t ((af 1 a1 Q).take t)) (fun _ _ s37 _ => m - (intOf s37).toNat)
  case atStart => exact HR0.out
  case round =>
    clear HR0
    obtain ⟨t, wr, u9, u10, hwr, hu9, hu10, ht, rfl, hb, hox, hoy, hT⟩ := hrel
    subst hwr hu9 hu10
    have HB := Lib.hid hb
    have HOX := Lib.hid hox
    have HOY := Lib.hid hoy
    have HT0 := Lib.hid hT
    rcases Nat.lt_or_ge t m with hlt | hge
    · have c1 := (own_zi hox (by rw [mix_len]; exact HLL.out.1)).at t hlt
      have c2 := (own_zi hoy (by rw [mix_len]; exact HLL.out.2.1)).at t hlt
      rw [mix_at fif L t (by have := HLL.out.1; omega)] at c1
      rw [mix_at fif M t (by have := HLL.out.2.1; omega)] at c2
      have fr1 := own_fr hox t
      have fr2 := own_fr hoy t
      have px := HLL.out.2.2.1.at t
      have py := HLL.out.2.2.2.1.at t
      have e1 := map_at fif L t (by have := HLL.out.1; omega)
      have e1' := map_at fif M t (by have := HLL.out.2.1; omega)
      rw [HP.out.1] at e1
      rw [HQ.out.1] at e1'
      have e2 := af_at 1 a1 P t (by have := HP.out.2.1; omega)
      have e3 := af_at 1 a1 Q t (by have := HQ.out.2.1; omega)
      obtain ⟨x, hx⟩ : ∃ x, L.getD t 0 = x := ⟨_, rfl⟩
      obtain ⟨y, hy⟩ : ∃ x, M.getD t 0 = x := ⟨_, rfl⟩
      rw [hx] at c1 px e1
      rw [hy] at c2 py e1'
      have pp := fif_in px.1 px.2
      have pq := fif_in py.1 py.2
      obtain ⟨p, hp⟩ : ∃ p, fif x = p := ⟨_, rfl⟩
      obtain ⟨q, hq⟩ : ∃ q, fif y = q := ⟨_, rfl⟩
      rw [hp] at pp e1
      rw [hq] at pq e1'
      rw [e1, Int.mul_one] at e2
      rw [e1', Int.mul_one] at e3
      obtain ⟨p0, p1⟩ := pp
      obtain ⟨q0, q1⟩ := pq
      obtain ⟨x0, x1⟩ := px
      obtain ⟨y0, y1⟩ := py
      obtain ⟨z1, hz1⟩ : ∃ z, p + a1 = z := ⟨_, rfl⟩
      obtain ⟨z2, hz2⟩ : ∃ z, q + a1 = z := ⟨_, rfl⟩
      rw [hz1] at e2
      rw [hz2] at e3
      have HX : Hid ((af 1 a1 P).take (t + 1) = (af 1 a1 P).take t ++ [z1] ∧ (af 1 a1 Q).take (t + 1) = (af 1 a1 Q).take t ++ [z2]) := ⟨by rw [take_snoc _ t (by rw [af_len]; have := HP.out.2.1; omega), e2], by rw [take_snoc _ t (by rw [af_len]; have := HQ.out.2.1; omega), e3]⟩
      have HMX : Hid ((mix fif L t).set t p = mix fif L (t + 1) ∧ (mix fif M t).set t q = mix fif M (t + 1)) := ⟨by rw [← hp, ← hx]; exact mix_set fif L t (by have := HLL.out.1; omega), by rw [← hq, ← hy]; exact mix_set fif M t (by have := HLL.out.2.1; omega)⟩
      have d1 : (x * 4).tdiv 5 = p := hp
      have d2 : (y * 4).tdiv 5 = q := hq
      have k1 : IntKind.i64.wrap p = p := IntWalk.i64_in _ (by omega)
      have k2 : IntKind.i64.wrap q = q := IntWalk.i64_in _ (by omega)
      have k3 : IntKind.i64.wrap (x * 4) = x * 4 := IntWalk.i64_in _ (by omega)
      have k4 : IntKind.i64.wrap (y * 4) = y * 4 := IntWalk.i64_in _ (by omega)
      have ti : (t : Int) < (m : Int) := by omega
      have hxy2 : xa ≠ ya := by omega
      have HZ := Lib.hid (And.intro hz1 (And.intro hz2 (And.intro hx hy)))
      clear hb hox hoy hT hx hy hp hq e1 e1' e2 e3 hz1 hz2
      go_wp2
      go_region
      all_goals
        obtain ⟨W2, hW2⟩ : ∃ W2, W2 = ((wr.setCell ⟨xa, t, none⟩ (.int .i64 p)).setCell ⟨ya, t, none⟩ (.int .i64 q)).drew := ⟨_, rfl⟩
        have wb : Bel w W2 := by rw [hW2]; exact ((HB.out.st (by show _ ≤ xa; omega) _).st (by show _ ≤ ya; omega) _).drw
        have nox : W2.ownsRow v1.heap.size 3 1 (.slice (some ⟨xa, 0, none⟩) m xb) m (zs (mix fif L (t + 1))) := by
          rw [hW2, ← HMX.out.1]
          exact own_bel (own_far (own_set HOX.out p) (show xa ≠ ya from hxy2) _) (Bel.rf.drw)
        have noy : W2.ownsRow v1.heap.size 3 1 (.slice (some ⟨ya, 0, none⟩) m yb) m (zs (mix fif M (t + 1))) := by
          rw [hW2, ← HMX.out.2]
          exact own_bel (own_set (own_far HOY.out (show ya ≠ xa from fun e => hxy2 e.symm) _) q) (Bel.rf.drw)
        have hT1 : Tw v2.heap.size W2 W2 u9 t ((af 1 a1 P).take t) u10 t ((af 1 a1 Q).take t) := by
          rw [hW2]
          obtain ⟨q1, q2, q3, q4, q5⟩ := HT0.out
          have r1 := ownsRow_setCell_below (ownsRow_setCell_below q1 (a := ⟨xa, t, none⟩) hxv.2 (.int .i64 p)) (a := ⟨ya, t, none⟩) hyv.2 (.int .i64 q)
          have r2 := ownsRow_setCell_below (ownsRow_setCell_below q2 (a := ⟨xa, t, none⟩) hxv.2 (.int .i64 p)) (a := ⟨ya, t, none⟩) hyv.2 (.int .i64 q)
          exact ⟨own_bel r1 (Bel.rf.drw), own_bel r2 (Bel.rf.drw), q3, Below.refl _ _, by simpa [World.setCell] using q5⟩
        rw [← hW2]
        have HT := Lib.hid hT1
        have HNX := Lib.hid nox
        have HNY := Lib.hid noy
        have HWB := Lib.hid wb
        have c3 : W2.cell? ⟨xa, t, none⟩ = some (.int .i64 p) := by
          have := (own_zi nox (by rw [mix_len]; exact HLL.out.1)).at t hlt
          rw [← HMX.out.1, List.getD_eq_getElem?_getD, List.getElem?_set_self (by rw [mix_len]; have := HLL.out.1; omega)] at this
          exact this
        have c4 : W2.cell? ⟨ya, t, none⟩ = some (.int .i64 q) := by
          have := (own_zi noy (by rw [mix_len]; exact HLL.out.2.1)).at t hlt
          rw [← HMX.out.2, List.getD_eq_getElem?_getD, List.getElem?_set_self (by rw [mix_len]; have := HLL.out.2.1; omega)] at this
          exact this
        have HCX : Hid (∀ W, Below v2.heap.size W2 W → W.cell? ⟨xa, t, none⟩ = some (.int .i64 p)) := fun W hW => (Below.cell (p := ⟨xa, t, none⟩) hW hxv.2).trans c3
        have HCY : Hid (∀ W, Below v2.heap.size W2 W → W.cell? ⟨ya, t, none⟩ = some (.int .i64 q)) := fun W hW => (Below.cell (p := ⟨ya, t, none⟩) hW hyv.2).trans c4
        have cA1 : ∀ o, (W2.alloc o).cell? ⟨xa, t, none⟩ = some (.int .i64 p) := fun o => kp_al c3 o
        have cA3 : ∀ o, (W2.alloc o).drew.cell? ⟨xa, t, none⟩ = some (.int .i64 p) := fun o => kp_al c3 o
        have cB1 : ∀ o, (W2.alloc o).cell? ⟨ya, t, none⟩ = some (.int .i64 q) := fun o => kp_al c4 o
        have cB3 : ∀ o, (W2.alloc o).drew.cell? ⟨ya, t, none⟩ = some (.int .i64 q) := fun o => kp_al c4 o
        have m3 : p + a1 = z1 := HZ.out.1
        have m4 : q + a1 = z2 := HZ.out.2.1
        have m5 : IntKind.i64.wrap z1 = z1 := IntWalk.i64_in _ (by omega)
        have m6 : IntKind.i64.wrap z2 = z2 := IntWalk.i64_in _ (by omega)
        have m7 : IntKind.i64.wrap a1 = a1 := IntWalk.i64_in _ (by omega)
        clear hW2 wb nox noy hT1 c1 c2 fr1 fr2
        go_wp2
        go_region_law (first
          | (refine step_app _ rfl (.tmp 58) (.tmp 66) rfl v2.heap.size u9 t ((af 1 a1 P).take t) rfl (own_bel hTB.o1 (by repeat (first | exact Bel.rf | (with_reducible refine Bel.drwN ?_ _) | (with_reducible refine Bel.drw ?_) | (with_reducible refine Bel.al ?_ _)))) _ 1 1 [z1] rfl (by first | (refine zi_one (Bk.nq _ _ _ ?_); simp; done) | (refine zi_one ((Bk.nq _ _ _ ?_).al _); simp; done) | (refine zi_one (hkB _ ?_ (Bk.nq _ _ _ ?_)) <;> simp; done) | (refine zi_one (hkB _ ?_ ((Bk.nq _ _ _ ?_).al _)) <;> simp; done)) (by omega) (Tw.base (Tw.bel hTB (by repeat (first | exact Bel.rf | (with_reducible refine Bel.drwN ?_ _) | (with_reducible refine Bel.drw ?_) | (with_reducible refine Bel.al ?_ _))))) ?_; intro vp wp hop hgp hatp; have hT2 := Tw.app1 (Tw.bel hTB (by repeat (first | exact Bel.rf | (with_reducible refine Bel.drwN ?_ _) | (with_reducible refine Bel.drw ?_) | (with_reducible refine Bel.al ?_ _)))) hop hgp hatp)
          | (refine step_app _ rfl (.tmp 58) (.tmp 66) rfl v2.heap.size u9 t ((af 1 a1 P).take t) rfl (own_bel HT.out.o1 (by repeat (first | exact Bel.rf | (with_reducible refine Bel.drwN ?_ _) | (with_reducible refine Bel.drw ?_) | (with_reducible refine Bel.al ?_ _)))) _ 1 1 [z1] rfl (by first | (refine zi_one (Bk.nq _ _ _ ?_); simp; done) | (refine zi_one ((Bk.nq _ _ _ ?_).al _); simp; done)) (by omega) (Tw.base (Tw.bel HT.out (by repeat (first | exact Bel.rf | (with_reducible refine Bel.drwN ?_ _) | (with_reducible refine Bel.drw ?_) | (with_reducible refine Bel.al ?_ _))))) ?_; intro vp wp hop hgp hatp; have hTA := Tw.app1 (Tw.bel HT.out (by repeat (first | exact Bel.rf | (with_reducible refine Bel.drwN ?_ _) | (with_reducible refine Bel.drw ?_) | (with_reducible refine Bel.al ?_ _)))) hop hgp hatp; have cqx := HCX.out _ (Tw.low hTA); have cqy := HCY.out _ (Tw.low hTA); have hkA := fun (q : Nat) (hq : W2.heap.size ≤ q) h => bk_grown (g := q) (t := 3) (cs := #[.int .i64 z2]) h hgp (fun b e => (HT.out.o1.lt b e).2) hq)
          | (refine step_app _ rfl (.tmp 68) (.tmp 76) rfl v2.heap.size u10 t ((af 1 a1 Q).take t) rfl (own_bel hTA.o2 (by repeat (first | exact Bel.rf | (with_reducible refine Bel.drwN ?_ _) | (with_reducible refine Bel.drw ?_) | (with_reducible refine Bel.al ?_ _)))) _ 1 1 [z2] rfl (by first | (refine zi_one (Bk.nq _ _ _ ?_); simp; done) | (refine zi_one ((Bk.nq _ _ _ ?_).al _); simp; done) | (refine zi_one (hkA _ ?_ (Bk.nq _ _ _ ?_)) <;> simp; done) | (refine zi_one (hkA _ ?_ ((Bk.nq _ _ _ ?_).al _)) <;> simp; done)) (by omega) (Tw.base (Tw.bel hTA (by repeat (first | exact Bel.rf | (with_reducible refine Bel.drwN ?_ _) | (with_reducible refine Bel.drw ?_) | (with_reducible refine Bel.al ?_ _))))) ?_; intro vq wq hoq hgq hatq; have hT2 := Tw.app2 (Tw.bel hTA (by repeat (first | exact Bel.rf | (with_reducible refine Bel.drwN ?_ _) | (with_reducible refine Bel.drw ?_) | (with_reducible refine Bel.al ?_ _)))) hoq hgq hatq)
          | (refine step_app _ rfl (.tmp 68) (.tmp 76) rfl v2.heap.size u10 t ((af 1 a1 Q).take t) rfl (own_bel HT.out.o2 (by repeat (first | exact Bel.rf | (with_reducible refine Bel.drwN ?_ _) | (with_reducible refine Bel.drw ?_) | (with_reducible refine Bel.al ?_ _)))) _ 1 1 [z2] rfl (by first | (refine zi_one (Bk.nq _ _ _ ?_); simp; done) | (refine zi_one ((Bk.nq _ _ _ ?_).al _); simp; done)) (by omega) (Tw.base (Tw.bel HT.out (by repeat (first | exact Bel.rf | (with_reducible refine Bel.drwN ?_ _) | (with_reducible refine Bel.drw ?_) | (with_reducible refine Bel.al ?_ _))))) ?_; intro vq wq hoq hgq hatq; have hTB := Tw.app2 (Tw.bel HT.out (by repeat (first | exact Bel.rf | (with_reducible refine Bel.drwN ?_ _) | (with_reducible refine Bel.drw ?_) | (with_reducible refine Bel.al ?_ _)))) hoq hgq hatq; have cqx := HCX.out _ (Tw.low hTB); have cqy := HCY.out _ (Tw.low hTB); have hkB := fun (q : Nat) (hq : W2.heap.size ≤ q) h => bk_grown (g := q) (t := 3) (cs := #[.int .i64 z1]) h hgq (fun b e => (HT.out.o2.lt b e).2) hq))
        all_goals
          have HT2 := Lib.hid hT2
          clear hT2
          go_wp2
          go_roundw
          case rel => exact ⟨t + 1, _, _, _, rfl, rfl, rfl, by omega, by go_num, bel_low HWB.out HT2.out.low hB2, own_blw HNX.out HT2.out.low hxv.2, own_blw HNY.out HT2.out.low hyv.2, by rw [HX.out.1, HX.out.2]; exact ⟨HT2.out.1, HT2.out.2.1, HT2.out.2.2.1, Below.refl _ _, HT2.out.2.2.2.2⟩⟩
          case measure => simp [intOf]; omega
    · obtain rfl : t = m := by omega
      rw [List.take_of_length_le (by rw [af_len]; have := HP.out.2.1; omega), List.take_of_length_le (by rw [af_len]; have := HQ.out.2.1; omega)] at hT
      have eX : mix fif L t = P := by have := mix_all fif L; rwa [HLL.out.1, HP.out.1] at this
      have eY : mix fif M t = Q := by have := mix_all fif M; rwa [HLL.out.2.1, HQ.out.1] at this
      rw [eX] at hox
      rw [eY] at hoy
      obtain ⟨za, zb, rfl, hzc, hzq⟩ := row_form hT.o1 (by omega)
      obtain ⟨ta, tb, rfl, htc, htq⟩ := row_form hT.o2 (by omega)
      have lP := HP.out.2.1
      have lQ := HQ.out.2.1
      have lZ : (af 1 a1 P).length = t := by rw [af_len]; exact lP
      have lT : (af 1 a1 Q).length = t := by rw [af_len]; exact lQ
      have zz : Zi wr (some ⟨za, 0, none⟩) t (af 1 a1 P) := own_zi hT.o1 lZ
      have zt : Zi wr (some ⟨ta, 0, none⟩) t (af 1 a1 Q) := own_zi hT.o2 lT
      have zx : Zi wr (some ⟨xa, 0, none⟩) t P := own_zi hox lP
      have zy : Zi wr (some ⟨ya, 0, none⟩) t Q := own_zi hoy lQ
      have sP : Sam P := fun x hx => by have := HP.out.2.2 x hx; omega
      have sQ : Sam Q := fun x hx => by have := HQ.out.2.2 x hx; omega
      have sZ : Sam (af 1 a1 P) := fun y hy => by
        obtain ⟨x, hx, rfl⟩ := List.mem_map.1 hy
        have := HP.out.2.2 x hx
        show _ ∧ _
        omega
      have sT : Sam (af 1 a1 Q) := fun y hy => by
        obtain ⟨x, hx, rfl⟩ := List.mem_map.1 hy
        have := HQ.out.2.2 x hx
        show _ ∧ _
        omega
      have hpq : P.length = Q.length := by omega
      have hzt : (af 1 a1 P).length = (af 1 a1 Q).length := by omega
      have hzq : (af 1 a1 P).length = Q.length := by omega
      have cx := HLL.out.2.2.2.2.1
      have cy := HLL.out.2.2.2.2.2
      have G1 : Hid (∀ W, Bel wr W → _) := fun W hW => Lower_ok xa ya xb yb t n P Q n1 n2 k1 k8 km cx cy sP sQ W (zx.bel hW) (zy.bel hW)
      have G2 : Hid (∀ W, Bel wr W → _) := fun W hW => Lower_ok ya xa yb xb t n Q P n1 n2 k1 k8 km cy cx sQ sP W (zy.bel hW) (zx.bel hW)
      have G3 : Hid (∀ W, Bel wr W → _) := fun W hW => Lower_ok za ta zb tb t n (af 1 a1 P) (af 1 a1 Q) n1 n2 k1 k8 km hzc htc sZ sT W (zz.bel hW) (zt.bel hW)
      have G4 : Hid (∀ W, Bel wr W → _) := fun W hW => Shifted_ok xa ya xb yb t n P Q n1 n2 k1 k8 km cx cy sP sQ W (zx.bel hW) (zy.bel hW)
      have G5 : Hid (∀ W, Bel wr W → _) := fun W hW => Shifted_ok ya xa yb xb t n Q P n1 n2 k1 k8 km cy cx sQ sP W (zy.bel hW) (zx.bel hW)
      have G6 : Hid (∀ W, Bel wr W → _) := fun W hW => Shifted_ok za ya zb yb t n (af 1 a1 P) Q n1 n2 k1 k8 km hzc cy sZ sQ W (zz.bel hW) (zy.bel hW)
      rw [bnd_bq t n P Q hpq] at G1
      rw [bnd_comm t n (pls Q t n), bnd_bq t n P Q hpq] at G2
      rw [bnd_bq t n _ _ hzt, df_both] at G3
      rw [bnd_cen t n P Q hpq] at G4
      rw [bnd_comm t n (pls (cen Q) t n), bnd_cen t n P Q hpq] at G5
      rw [bnd_cen t n _ _ hzq, df_one, cen_one] at G6
      obtain ⟨A, hA⟩ : ∃ A, bq (df P Q) t n = A := ⟨_, rfl⟩
      obtain ⟨B, hB⟩ : ∃ A, bq (cen (df P Q)) t n = A := ⟨_, rfl⟩
      rw [hA] at G1 G2 G3
      rw [hB] at G4 G5 G6
      have c1 := (cq_in t n k1 km n2).1
      have mm := mm_in n1 n2
      have C1 : 1 ≤ 1 * (((t / n : Nat) : Int) * (((t / n : Nat) : Int) + 1)) := by unfold cq at c1; omega
      have C2 : 1 ≤ (t : Int) * (t : Int) * (((t / n : Nat) : Int) * (((t / n : Nat) : Int) + 1)) := by
        have a : 1 * 1 ≤ (t : Int) * (t : Int) * (((t / n : Nat) : Int) * (((t / n : Nat) : Int) + 1)) := Int.mul_le_mul mm c1 (by omega) (by omega)
        omega
      obtain ⟨C, hC⟩ : ∃ C, 1 * (((t / n : Nat) : Int) * (((t / n : Nat) : Int) + 1)) = C := ⟨_, rfl⟩
      obtain ⟨K, hK⟩ : ∃ C, (t : Int) * (t : Int) * (((t / n : Nat) : Int) * (((t / n : Nat) : Int) + 1)) = C := ⟨_, rfl⟩
      rw [hC] at G1 G2 G3 C1
      rw [hK] at G4 G5 G6 C2
      have HCC := Lib.hid (And.intro C1 C2)
      have HFB := Lib.hid hb
      clear hb hox hoy hT HOX HOY HT0 eX eY lP lQ lZ lT zz zt zx zy sP sQ sZ sT hpq hzt hzq hA hB c1 mm C1 C2 hC hK cx cy
      go_wp2_with fail
      go_at_call 30
      refine (G1.out _ Bel.rf).mono ?_
      rintro e q1 ⟨t, u, rfl, hv, hp⟩
      have V1 := Lib.hid hv
      clear hv
      have K1 : Hid (Bel wr q1) := hp
      have D1_1 := Lib.hid (Bk.nw q1 36 #[.int .i64 t, .int .i64 u])
      clear hp
      go_wp2_with fail
      go_at_call 30
      refine (G2.out _ (K1.out.al _)).mono ?_
      rintro e q2 ⟨t', u', rfl, hv, hp⟩
      obtain ⟨rfl, rfl⟩ := vl_eq HCC.out.1 V1.out hv
      clear hv
      have K2 : Hid (Bel wr q2) := Bel.tr (K1.out.al _) hp
      have D1_2 := Lib.hid ((D1_1.out.bel hp).al (.cells #[.int .i64 t, .int .i64 u] 36))
      have D2_2 := Lib.hid (Bk.nw q2 36 #[.int .i64 t, .int .i64 u])
      clear hp D1_1
      go_wp2_with fail
      go_at_call 30
      refine (G3.out _ (K2.out.al _)).mono ?_
      rintro e q3 ⟨t', u', rfl, hv, hp⟩
      obtain ⟨rfl, rfl⟩ := vl_eq HCC.out.1 V1.out hv
      clear hv
      have K3 : Hid (Bel wr q3) := Bel.tr (K2.out.al _) hp
      have D1_3 := Lib.hid ((D1_2.out.bel hp).al (.cells #[.int .i64 t, .int .i64 u] 36))
      have D2_3 := Lib.hid ((D2_2.out.bel hp).al (.cells #[.int .i64 t, .int .i64 u] 36))
      have D3_3 := Lib.hid (Bk.nw q3 36 #[.int .i64 t, .int .i64 u])
      clear hp D1_2 D2_2
      go_wp2_with fail
      go_at_call 31
      refine (G4.out _ (K3.out.al _)).mono ?_
      rintro e q4 ⟨r, s, rfl, hv, hp⟩
      have V4 := Lib.hid hv
      clear hv
      have K4 : Hid (Bel wr q4) := Bel.tr (K3.out.al _) hp
      have D1_4 := Lib.hid ((D1_3.out.bel hp).al (.cells #[.int .i64 r, .int .i64 s] 36))
      have D2_4 := Lib.hid ((D2_3.out.bel hp).al (.cells #[.int .i64 r, .int .i64 s] 36))
      have D3_4 := Lib.hid ((D3_3.out.bel hp).al (.cells #[.int .i64 r, .int .i64 s] 36))
      have D4_4 := Lib.hid (Bk.nw q4 36 #[.int .i64 r, .int .i64 s])
      clear hp D1_3 D2_3 D3_3
      go_wp2_with fail
      go_at_call 31
      refine (G5.out _ (K4.out.al _)).mono ?_
      rintro e q5 ⟨t', u', rfl, hv, hp⟩
      obtain ⟨rfl, rfl⟩ := vl_eq HCC.out.2 V4.out hv
      clear hv
      have K5 : Hid (Bel wr q5) := Bel.tr (K4.out.al _) hp
      have D1_5 := Lib.hid ((D1_4.out.bel hp).al (.cells #[.int .i64 r, .int .i64 s] 36))
      have D2_5 := Lib.hid ((D2_4.out.bel hp).al (.cells #[.int .i64 r, .int .i64 s] 36))
      have D3_5 := Lib.hid ((D3_4.out.bel hp).al (.cells #[.int .i64 r, .int .i64 s] 36))
      have D4_5 := Lib.hid ((D4_4.out.bel hp).al (.cells #[.int .i64 r, .int .i64 s] 36))
      have D5_5 := Lib.hid (Bk.nw q5 36 #[.int .i64 r, .int .i64 s])
      clear hp D1_4 D2_4 D3_4 D4_4
      go_wp2_with fail
      go_at_call 31
      refine (G6.out _ (K5.out.al _)).mono ?_
      rintro e q6 ⟨t', u', rfl, hv, hp⟩
      obtain ⟨rfl, rfl⟩ := vl_eq HCC.out.2 V4.out hv
      clear hv
      have K6 : Hid (Bel wr q6) := Bel.tr (K5.out.al _) hp
      have D1_6 := Lib.hid ((D1_5.out.bel hp).al (.cells #[.int .i64 r, .int .i64 s] 36))
      have D2_6 := Lib.hid ((D2_5.out.bel hp).al (.cells #[.int .i64 r, .int .i64 s] 36))
      have D3_6 := Lib.hid ((D3_5.out.bel hp).al (.cells #[.int .i64 r, .int .i64 s] 36))
      have D4_6 := Lib.hid ((D4_5.out.bel hp).al (.cells #[.int .i64 r, .int .i64 s] 36))
      have D5_6 := Lib.hid ((D5_5.out.bel hp).al (.cells #[.int .i64 r, .int .i64 s] 36))
      have D6_6 := Lib.hid (Bk.nw q6 36 #[.int .i64 r, .int .i64 s])
      clear hp D1_5 D2_5 D3_5 D4_5 D5_5
      have K7 : Hid (Bel wr (q6.alloc (.cells #[.int .i64 r, .int .i64 s] 36))) := K6.out.al _
      have VA1 : Hid (∀ W, _) := fun W => rvalid_ok t u V1.out.1 W
      have VA2 : Hid (∀ W, _) := fun W => rvalid_ok r s V4.out.1 W
      have f1 := D1_6.out.cell 0
      have g1 := D1_6.out.cell 1
      have f2 := D2_6.out.cell 0
      have g2 := D2_6.out.cell 1
      have f3 := D3_6.out.cell 0
      have g3 := D3_6.out.cell 1
      have f4 := D4_6.out.cell 0
      have g4 := D4_6.out.cell 1
      have f5 := D5_6.out.cell 0
      have g5 := D5_6.out.cell 1
      have f6 := D6_6.out.cell 0
      have g6 := D6_6.out.cell 1
      go_wp2_with fail
      go_at_call 20
      refine (VA1.out _).mono ?_
      rintro e q7 ⟨rfl, hp⟩
      have K8 : Hid (Bel wr q7) := K7.out.tr hp
      have b40 := (D4_6.out.bel hp).cell 0
      have b41 := (D4_6.out.bel hp).cell 1
      clear hp f1 g1 f2 g2 f3 g3 f4 g4 f5 g5 f6 g6
      go_wp2_with fail
      go_at_call 20
      refine (VA2.out _).mono ?_
      rintro e q8 ⟨rfl, hp⟩
      have K9 : Hid (Bel wr q8) := K8.out.tr hp
      clear hp b40 b41
      go_wp2_with (go_at_call 28; refine (AW.out _).mono ?_; rintro e w9 ⟨rfl, hb9⟩)
      go_ret
      exact ⟨rfl, ((HFB.out.tr K9.out).tr hb9).bl⟩

set_option maxRecDepth 100000 in
theorem lifted (os : Os) (started : os.Started) (H : Type) (enc : TypeId × Value → H) :
    ReturnsInHanded {} Try.checked os 12 .any (Rows.piecesMovesSpec.pre6 enc Try.prog Try.f12 Rows.piecesMovesRow.domain false) (Rows.piecesMovesSpec.post enc Try.prog Try.f12 false true false false) := by
  refine returnsInHanded_of_change (C := Try.checked) own started (by kernel_rfl) Try.func12
    (ChangeSpec.witness6 (enc := enc) (C := Try.checked) false ⟨#[], #[.slice none 0 0, .int .i8 0], []⟩ 8 (by kernel_rfl) (by kernel_rfl) (by kernel_rfl) (by kernel_rfl)) ?_
  intro W base args ds gs before hval0 hW hcnd _
  have hval : ∀ (j : Nat) t v, Try.f12.params[j]? = some t → args[j]? = some v → Value.okWide Try.prog W .any base t v := hval0
  have hW' := hW
  obtain ⟨p, q, hA0, hV, rfl, hfz, hnd⟩ := hW
  have hA : DataW.TrodAll enc Try.prog W 0 (fun _ => true) true Try.f12.params.toList args.toList ds p := hA0
  rw [Try.params12] at hA hval
  obtain ⟨v0, vs0, d0, ds0, p0, q0, hargs, rfl, rfl, h0, r0⟩ := trodAll_cons hA
  obtain ⟨v1, vs1, d1, ds1, p1, q1, rfl, rfl, rfl, h1, r1⟩ := trodAll_cons r0
  obtain ⟨rfl, rfl, rfl⟩ := trodAll_nil r1
  obtain rfl : args = #[v0, v1] := by cases args; simp_all
  obtain ⟨rfl, rfl⟩ := trodVars_none hV
  obtain ⟨a0, len0, cap0, rfl⟩ := okWide_slice Try.underlying22 (hval 0 22 v0 rfl rfl)
  have k0 := h0
  have lt0 : ∀ x ∈ p0, x.block < W.heap.size := by obtain ⟨m, hm⟩ := k0; exact DataW.trod_lt m _ _ _ hm
  obtain ⟨z0, w0⟩ : ∃ zs, IsRow .i64 W a0 len0 cap0 zs := by
    obtain ⟨fuel, hf⟩ := h0
    rcases open_ints Try.underlying22 Try.underlying3 (by kernel_rfl) hf with ⟨hcs, _⟩ | ⟨x, l, c, zs, hcs, _, hl, hm, hz, _, hcell, hwz⟩
    · simp [Value.cells] at hcs
      obtain ⟨rfl, rfl, rfl⟩ := hcs
      exact ⟨[], .inl ⟨rfl, rfl, rfl, rfl⟩⟩
    · simp [Value.cells] at hcs
      obtain ⟨rfl, rfl, rfl⟩ := hcs
      exact ⟨zs, .inr ⟨_, rfl, hl, hm, by simpa using hz, hcell, hwz⟩⟩
  obtain ⟨a1, rfl, rfl, rfl, w1⟩ := open_int Try.underlying34 (hval 1 34 v1 rfl rfl) h1
  clear hA0 hval0
  refine (walk a0 len0 cap0 z0 a1 W w0 w1).mono fun e W' ⟨he, bel⟩ => ?_
  subst he
  exact ⟨_, rfl, _, _, _, [], _, [], hW', trodAll_mk1 (shut_bool Try.underlying4 _), (trodAll_cons_mk (Below.trod laidOut (by kernel_rfl) (of_decide_eq_true (by kernel_rfl)) k0 bel lt0) (trodAll_cons_mk (shut_int Try.underlying34 w1) trodAll_mk0)), rfl, bel.frame _, fun h => by cases h⟩

theorem over : Rows.piecesMovesRow.holds Try.pinned (OpenSpec.ofChange Rows.piecesMovesSpec) :=
  OpenClaim.holds_of_wide_leaving 12 Try.f12 rfl rfl rfl rfl rfl rfl rfl ⟨rfl, rfl, rfl, rfl, rfl⟩ rfl rfl rfl rfl rfl (by kernel_rfl) Try.func12 (by kernel_rfl)
    (of_decide_eq_true (by kernel_rfl)) (by unfold Func.isWrapper; first | (rw [if_pos (by decide +kernel)]; kernel_rfl) | (rw [if_neg (by decide +kernel)]; exact ⟨rfl, rfl⟩))
    (fun os started H enc _ => Lv.leaving_of_handed (lifted os started H enc))

theorem proved : Rows.PiecesMovesSaid := over
end Go.Proofs.Ytkbpcaggkngpnaa.piecesMoves
