/- That the law NormalCentres returns true for every input that can be read, and leaves its arguments as they were; no further condition. -/
import Derived.Test.YtkbpcaggkngpnaaRows
import Derived.WalkKit
import Derived.ProofKit
import Derived.OpenShut
import Derived.Test.YtkbpcaggkngpnaaWords
import Derived.Test.YtkbpcaggkngpnaaSrcNew0
import Derived.Test.YtkbpcaggkngpnaaNear
import Derived.Test.YtkbpcaggkngpnaaNorAwake
import Derived.ShutString
import Derived.ChangeOld
import Derived.Below
namespace Go.Proofs.Ytkbpcaggkngpnaa.normalCentres
open Go.ChangeShapes Go.WideShapes Go.ChangeAt Go.RowKit Wo
open Go.ChangeMaps (open_string shut_string)
set_option linter.unusedVariables false

theorem own : ownKnob Try.prog.godebug = none := by kernel_rfl
theorem laidOut : laidOutB Try.prog = true := by kernel_rfl

/-- WHAT THE WALK IS TOLD OF A SLICE OF INTEGERS THAT CAME IN: it is nil; or it leads to a row of 'cap' cells, the numbers 'zs' (the first 'len' are its elements, the rest its spare room), each fitting its kind. -/
def IsRow (k : IntKind) (w : World) (a : Option Addr) (len cap : Nat) (zs : List Int) : Prop :=
  (a = none ∧ len = 0 ∧ cap = 0 ∧ zs = []) ∨
  ∃ x, a = some x ∧ len ≤ cap ∧ cap ≤ maxLen ∧ zs.length = cap ∧ (∀ i, i < zs.length → w.cell? (x.add i) = some (.int k (zs.getD i 0))) ∧ ∀ n ∈ zs, (Lit.int k n).wf = true

open Go.Proofs.Ytkbpcaggkngpnaa.Nr Go.Proofs.Ytkbpcaggkngpnaa.Eu Go.Proofs.Ytkbpcaggkngpnaa.Wi Go.Proofs.Ytkbpcaggkngpnaa.Wo Go.Proofs.Ytkbpcaggkngpnaa.Sr Go.Proofs.Ytkbpcaggkngpnaa.Ra in
set_option maxHeartbeats 16000000 in
set_option maxRecDepth 100000 in
theorem walk (a0 : Option Addr) (len0 cap0 : Nat) (z0 : List Int) (w : World) (w0 : IsRow .i64 w a0 len0 cap0 z0) :
    Calls Try.prog 3 #[.slice a0 len0 cap0] w fun e w' => e = .returned (.bool true) ∧ Below w.heap.size w w' := by
  have AW : Hid (∀ W, Calls Try.prog 17 #[] W fun e w' => e = .returned (.bool true) ∧ Bel W w') := awake_any
  go_enter Try.func3, Try.ntmps3
  go_wp2_with fail
  go_at_call 13
  refine (new_any a0 len0 cap0 z0 w w0).mono ?_
  rintro e v1 ⟨g, rfl, hg, ho1, hb1⟩
  have HO1 := Lib.hid ho1
  have HB1 := Lib.hid hb1
  clear ho1 hb1 w0
  go_wp2_with fail
  go_at_call 14
  refine (pair_any g _ HO1.out).mono ?_
  rintro e v2 ⟨xa, xb, ya, yb, n, L, M, rfl, n1, n2, hxy, hox, hoy, lL, lM, sL, sM, ho2, hc2⟩
  have HB2 : Hid (Bel w v2) := Bel.ch HB1.out hc2 hg
  have HOX := Lib.hid hox
  have HOY := Lib.hid hoy
  have zx : Zi v2 (some ⟨xa, 0, none⟩) n L := own_zi hox lL
  have zy : Zi v2 (some ⟨ya, 0, none⟩) n M := own_zi hoy lM
  have hlm : L.length = M.length := by rw [lL, lM]
  have ni1 : 2 ≤ (n : Int) := by omega
  have ni2 : (n : Int) ≤ 32 := by omega
  have HLL := Lib.hid (And.intro lL (And.intro lM (And.intro sL sM)))
  clear ho2 hc2 hox hoy
  have C1 : Hid (∀ W, Bel v2 W → _) := fun W hW => Centred_ok (some ⟨xa, 0, none⟩) xb n L n1 n2 sL W (zx.bel hW)
  have C2 : Hid (∀ W, Bel v2 W → _) := fun W hW => Centred_ok (some ⟨ya, 0, none⟩) yb n M n1 n2 sM W (zy.bel hW)
  have P1 : Hid (∀ W, Bel v2 W → _) := fun W hW => Product_ok (some ⟨xa, 0, none⟩) (some ⟨ya, 0, none⟩) xb yb n L M n1 n2 sL sM W (zx.bel hW) (zy.bel hW)
  have P2 : Hid (∀ W, Bel v2 W → Calls Try.prog 16 #[.slice (some ⟨xa, 0, none⟩) n xb, .slice (some ⟨xa, 0, none⟩) n xb] W fun e w' => e = .returned (.tuple #[.int .i64 (vr L), .int .i64 0]) ∧ Bel W w') := fun W hW => by
    rw [← pr_self]; exact Product_ok (some ⟨xa, 0, none⟩) (some ⟨xa, 0, none⟩) xb xb n L L n1 n2 sL sL W (zx.bel hW) (zx.bel hW)
  have P3 : Hid (∀ W, Bel v2 W → Calls Try.prog 16 #[.slice (some ⟨ya, 0, none⟩) n yb, .slice (some ⟨ya, 0, none⟩) n yb] W fun e w' => e = .returned (.tuple #[.int .i64 (vr M), .int .i64 0]) ∧ Bel W w') := fun W hW => by
    rw [← pr_self]; exact Product_ok (some ⟨ya, 0, none⟩) (some ⟨ya, 0, none⟩) yb yb n M M n1 n2 sM sM W (zy.bel hW) (zy.bel hW)
  have v := vr_le sL (by omega)
  have u := vr_le sM (by omega)
  have p := pr_le sL sM (by omega) hlm
  have cs := pr_cs hlm
  have vw := vw_le v.1 u.1 v.2 u.2
  have cn := sq_nn (pr L M)
  have HCS : Hid (su ix (cen L) = 0 ∧ su ix (pw (cen L) (cen M)) = (n : Int) * pr L M) := ⟨cen_su L, by rw [← dot_pw, cen_dot hlm, lL]⟩
  have HCL : Hid ((cen L).length = n ∧ (cen M).length = n) := ⟨by unfold cen; rw [af_len, lL], by unfold cen; rw [af_len, lM]⟩
  have HCB : Hid (Bd 64000 (cen L) ∧ Bd 64000 (cen M)) := ⟨cen_bd sL (by omega), cen_bd sM (by omega)⟩
  have HPW : Hid (Bd 4096000000 (pw (cen L) (cen M)) ∧ (pw (cen L) (cen M)).length = n) := ⟨pw_bd (A := 64000) (B := 64000) (by decide) (by decide) HCB.out.1 HCB.out.2, by rw [pw_len (by rw [HCL.out.1, HCL.out.2])]; exact HCL.out.1⟩
  obtain ⟨c, hc⟩ : ∃ c, pr L M = c := ⟨_, rfl⟩
  obtain ⟨V, hV⟩ : ∃ c, vr L = c := ⟨_, rfl⟩
  obtain ⟨U, hU⟩ : ∃ c, vr M = c := ⟨_, rfl⟩
  rw [hc] at P1 p cs cn HCS
  rw [hV] at P2 v cs vw
  rw [hU] at P3 u cs vw
  have mc := mul_bd (A := 32) (B := 1024000000) (x := (n : Int)) (y := c) (by decide) (by decide) (by omega) (by omega) (by omega) (by omega)
  have q1 : wrap64 ((n : Int) * c) = (n : Int) * c := IntWalk.wrap64_in _ (by omega)
  have q2 : wrap64 (c * c) = c * c := IntWalk.wrap64_in _ (by omega)
  have q3 : wrap64 (V * U) = V * U := IntWalk.wrap64_in _ (by omega)
  have q4 : decide (c * c ≤ V * U) = true := decide_eq_true cs
  have HALL := Lib.hid (And.intro q1 (And.intro q2 (And.intro q3 (And.intro q4 cs))))
  clear q1 q2 q3 q4 mc v u p cs vw cn hc hV hU zx zy hlm lL lM sL sM
  go_wp2_with fail
  go_at_call 15
  refine (C1.out _ Bel.rf).mono ?_
  rintro e v3 ⟨ga, rfl, hga, hka, hb⟩
  have HD1 : Hid (Bel v2 v3) := hb
  have HKA := Lib.hid hka
  clear hb hka
  go_wp2_with fail
  go_at_call 15
  refine (C2.out _ HD1.out).mono ?_
  rintro e v4 ⟨gb, rfl, hgb, hkb, hb⟩
  have HD2 : Hid (Bel v2 v4) := HD1.out.tr hb
  have HKA2 := Lib.hid (HKA.out.bel hb)
  have HKB := Lib.hid hkb
  clear hb hkb
  go_wp2_with fail
  go_at_call 16
  refine (P1.out _ HD2.out).mono ?_
  rintro e v5 ⟨rfl, hb⟩
  have HD3 : Hid (Bel v2 v5) := HD2.out.tr hb
  have HE3 : Hid (Bel v4 v5) := hb
  clear hb
  go_wp2_with fail
  go_at_call 16
  refine (P2.out _ HD3.out).mono ?_
  rintro e v6 ⟨rfl, hb⟩
  have HD4 : Hid (Bel v2 v6) := HD3.out.tr hb
  have HE4 : Hid (Bel v4 v6) := HE3.out.tr hb
  clear hb
  go_wp2_with fail
  go_at_call 16
  refine (P3.out _ HD4.out).mono ?_
  rintro e v7 ⟨rfl, hb⟩
  have HD5 : Hid (Bel v2 v7) := HD4.out.tr hb
  have HE5 : Hid (Bel v4 v7) := HE4.out.tr hb
  clear hb
  have H47 : Hid (Zi v7 (some ⟨ga, 0, none⟩) n (cen L) ∧ Zi v7 (some ⟨gb, 0, none⟩) n (cen M)) := by
    have e : Bel v4 v7 := HE5.out
    exact ⟨(zi_bk HKA2.out n HCL.out.1).bel e, (zi_bk HKB.out n HCL.out.2).bel e⟩
  go_wp2
  go_loopw [16, 17, 88] (fun s16 s17 s88 wr => ∃ (t : Nat) (W : World) (s d : Int), W = wr ∧ t ≤ n ∧ s88 = .int .i64 (t : Int) ∧ s16 = .int .i64 s ∧ s17 = .int .i64 d ∧ s = su ix ((cen L).take t) ∧ d = su ix ((pw (cen L) (cen M)).take t) ∧ Bel v7 wr) (fun _ _ s88 _ => n - (intOf s88).toNat)
  case atStart => exact ⟨0, _, 0, 0, rfl, by omega, rfl, rfl, rfl, by simp [su], by simp [su], Bel.rf⟩
  case round =>
    obtain ⟨t, wr, s, d, hwr, ht, rfl, rfl, rfl, hs, hd, hb⟩ := hrel
    subst hwr
    have HB := Lib.hid hb
    have b1 := bd_in (k := 32) (HCB.out.1.take t) (by decide) (by have := List.length_take_le t (cen L); have := HCL.out.1; omega)
    have b2 := bd_in (k := 32) (HPW.out.1.take t) (by decide) (by have := List.length_take_le t (pw (cen L) (cen M)); have := HPW.out.2; omega)
    rw [← hs] at b1
    rw [← hd] at b2
    obtain ⟨b10, b11⟩ : -2048000 ≤ s ∧ s ≤ 2048000 := by omega
    obtain ⟨b20, b21⟩ : -131072000000 ≤ d ∧ d ≤ 131072000000 := by omega
    clear b1 b2
    rcases Nat.lt_or_ge t n with hlt | hge
    · have c1 := (H47.out.1.bel hb).at t hlt
      have c2 := (H47.out.2.bel hb).at t hlt
      have hn1 := su_next ix (cen L) t (by have := HCL.out.1; omega)
      have hn2 := su_next ix (pw (cen L) (cen M)) t (by have := HPW.out.2; omega)
      rw [pw_at (by rw [HCL.out.1, HCL.out.2]) t (by have := HCL.out.1; omega)] at hn2
      have px := Bd.at HCB.out.1 t (by decide)
      have py := Bd.at HCB.out.2 t (by decide)
      obtain ⟨x, hx⟩ : ∃ x, (cen L).getD t 0 = x := ⟨_, rfl⟩
      obtain ⟨y, hy⟩ : ∃ x, (cen M).getD t 0 = x := ⟨_, rfl⟩
      rw [hx] at c1 hn1 hn2 px
      rw [hy] at c2 hn2 py
      rw [← hs] at hn1
      rw [← hd] at hn2
      obtain ⟨x0, x1⟩ := px
      obtain ⟨y0, y1⟩ := py
      have mb := mul_bd (A := 64000) (B := 64000) (by decide) (by decide) x0 x1 y0 y1
      obtain ⟨xy, hxy⟩ : ∃ z, x * y = z := ⟨_, rfl⟩
      rw [hxy] at mb
      obtain ⟨mb0, mb1⟩ : -4096000000 ≤ xy ∧ xy ≤ 4096000000 := by omega
      have HN : Hid (s + x = su ix ((cen L).take (t + 1)) ∧ d + xy = su ix ((pw (cen L) (cen M)).take (t + 1))) := ⟨hn1.symm, by rw [← hxy]; exact hn2.symm⟩
      have m1 : IntKind.i64.wrap (x * y) = xy := by rw [hxy]; exact IntWalk.i64_in _ (by omega)
      have m2 : IntKind.i64.wrap (d + xy) = d + xy := IntWalk.i64_in _ (by omega)
      have m3 : IntKind.i64.wrap (s + x) = s + x := IntWalk.i64_in _ (by omega)
      have ti : (t : Int) < (n : Int) := by omega
      clear hb hs hd hn1 hn2 hx hy hxy mb
      go_wp2
      go_quiet (fail)
      go_wp2
      go_roundw
      case rel => exact ⟨t + 1, _, _, _, rfl, by omega, by go_num, rfl, rfl, HN.out.1, HN.out.2, by first | exact HB.out.drwN _ | exact HB.out.drw | exact HB.out⟩
      case measure => simp [intOf]; omega
    · obtain rfl : t = n := by omega
      rw [List.take_of_length_le (by have := HCL.out.1; omega), HCS.out.1] at hs
      rw [List.take_of_length_le (by have := HPW.out.2; omega), HCS.out.2] at hd
      obtain ⟨q1, q2, q3, q4, q5⟩ := HALL.out
      subst hs
      subst hd
      have k1 : ((t : Int) * c == (t : Int) * c) = true := by simp
      clear hb
      go_wp2_with (go_at_call 17; refine (AW.out _).mono ?_; rintro e w9 ⟨rfl, hb9⟩)
      go_ret
      exact ⟨rfl, (((HB2.out.tr HD5.out).tr HB.out).tr hb9).bl⟩

set_option maxRecDepth 100000 in
theorem lifted (os : Os) (started : os.Started) (H : Type) (enc : TypeId × Value → H) :
    ReturnsInHanded {} Try.checked os 3 .any (Rows.normalCentresSpec.pre6 enc Try.prog Try.f3 Rows.normalCentresRow.domain false) (Rows.normalCentresSpec.post enc Try.prog Try.f3 false true false false) := by
  refine returnsInHanded_of_change (C := Try.checked) own started (by kernel_rfl) Try.func3
    (ChangeSpec.witness6 (enc := enc) (C := Try.checked) false ⟨#[], #[.slice none 0 0], []⟩ 8 (by kernel_rfl) (by kernel_rfl) (by kernel_rfl) (by kernel_rfl)) ?_
  intro W base args ds gs before hval0 hW hcnd _
  have hval : ∀ (j : Nat) t v, Try.f3.params[j]? = some t → args[j]? = some v → Value.okWide Try.prog W .any base t v := hval0
  have hW' := hW
  obtain ⟨p, q, hA0, hV, rfl, hfz, hnd⟩ := hW
  have hA : DataW.TrodAll enc Try.prog W 0 (fun _ => true) true Try.f3.params.toList args.toList ds p := hA0
  rw [Try.params3] at hA hval
  obtain ⟨v0, vs0, d0, ds0, p0, q0, hargs, rfl, rfl, h0, r0⟩ := trodAll_cons hA
  obtain ⟨rfl, rfl, rfl⟩ := trodAll_nil r0
  obtain rfl : args = #[v0] := by cases args; simp_all
  obtain ⟨rfl, rfl⟩ := trodVars_none hV
  obtain ⟨a0, len0, cap0, rfl⟩ := okWide_slice Try.underlying22 (hval 0 22 v0 rfl rfl)
  have k0 := h0
  have lt0 : ∀ x ∈ p0, x.block < W.heap.size := by obtain ⟨m, hm⟩ := k0; exact DataW.trod_lt m _ _ _ hm
  obtain ⟨z0, w0⟩ : ∃ zs, IsRow .i64 W a0 len0 cap0 zs := by
    obtain ⟨fuel, hf⟩ := h0
    rcases open_ints Try.underlying22 Try.underlying3 (by kernel_rfl) hf with ⟨hcs, _⟩ | ⟨x, l, c, zs, hcs, _, hl, hm, hz, _, hcell, hwz⟩
    · simp [Value.cells] at hcs
      obtain ⟨rfl, rfl, rfl⟩ := hcs
      exact ⟨[], .inl ⟨rfl, rfl, rfl, rfl⟩⟩
    · simp [Value.cells] at hcs
      obtain ⟨rfl, rfl, rfl⟩ := hcs
      exact ⟨zs, .inr ⟨_, rfl, hl, hm, by simpa using hz, hcell, hwz⟩⟩
  clear hA0 hval0
  refine (walk a0 len0 cap0 z0 W w0).mono fun e W' ⟨he, bel⟩ => ?_
  subst he
  exact ⟨_, rfl, _, _, _, [], _, [], hW', trodAll_mk1 (shut_bool Try.underlying4 _), (trodAll_cons_mk (Below.trod laidOut (by kernel_rfl) (of_decide_eq_true (by kernel_rfl)) k0 bel lt0) trodAll_mk0), rfl, bel.frame _, fun h => by cases h⟩

theorem over : Rows.normalCentresRow.holds Try.pinned (OpenSpec.ofChange Rows.normalCentresSpec) :=
  OpenClaim.holds_of_wide 3 Try.f3 rfl rfl rfl rfl rfl rfl rfl ⟨rfl, rfl, rfl, rfl, rfl⟩ rfl rfl rfl rfl rfl (by kernel_rfl) Try.func3 (by kernel_rfl)
    (of_decide_eq_true (by kernel_rfl)) (by unfold Func.isWrapper; first | (rw [if_pos (by decide +kernel)]; kernel_rfl) | (rw [if_neg (by decide +kernel)]; exact ⟨rfl, rfl⟩))
    (fun os started H enc _ => lifted os started H enc)

theorem proved : Rows.NormalCentresSaid := over
end Go.Proofs.Ytkbpcaggkngpnaa.normalCentres
