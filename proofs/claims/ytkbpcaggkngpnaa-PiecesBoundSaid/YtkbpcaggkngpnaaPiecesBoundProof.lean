/- That the law PiecesBound returns true for every input that can be read, and leaves its arguments as they were; no further condition. -/
import Derived.Test.YtkbpcaggkngpnaaRows
import Derived.WalkKit
import Derived.ProofKit
import Derived.OpenShut
import Derived.Test.YtkbpcaggkngpnaaWords
import Derived.Test.YtkbpcaggkngpnaaPieB
import Derived.Test.YtkbpcaggkngpnaaLeav
import Derived.Test.YtkbpcaggkngpnaaSrcNew0
import Derived.ShutString
import Derived.ChangeOld
import Derived.Below
namespace Go.Proofs.Ytkbpcaggkngpnaa.piecesBound
open Go.ChangeShapes Go.WideShapes Go.ChangeAt Go.RowKit Wo
open Go.ChangeMaps (open_string shut_string)
set_option linter.unusedVariables false

theorem own : ownKnob Try.prog.godebug = none := by kernel_rfl
theorem laidOut : laidOutB Try.prog = true := by kernel_rfl

/-- WHAT THE WALK IS TOLD OF A SLICE OF INTEGERS THAT CAME IN: it is nil; or it leads to a row of 'cap' cells, the numbers 'zs' (the first 'len' are its elements, the rest its spare room), each fitting its kind. -/
def IsRow (k : IntKind) (w : World) (a : Option Addr) (len cap : Nat) (zs : List Int) : Prop :=
  (a = none ∧ len = 0 ∧ cap = 0 ∧ zs = []) ∨
  ∃ x, a = some x ∧ len ≤ cap ∧ cap ≤ maxLen ∧ zs.length = cap ∧ (∀ i, i < zs.length → w.cell? (x.add i) = some (.int k (zs.getD i 0))) ∧ ∀ n ∈ zs, (Lit.int k n).wf = true

open Go.Proofs.Ytkbpcaggkngpnaa.Pc Go.Proofs.Ytkbpcaggkngpnaa.R12 Go.Proofs.Ytkbpcaggkngpnaa.Nr Go.Proofs.Ytkbpcaggkngpnaa.Eu Go.Proofs.Ytkbpcaggkngpnaa.Wi Go.Proofs.Ytkbpcaggkngpnaa.Wo Go.Proofs.Ytkbpcaggkngpnaa.Sr Go.Proofs.Ytkbpcaggkngpnaa.Ra in
set_option maxHeartbeats 4000000 in
set_option maxRecDepth 100000 in
theorem walk (a0 : Option Addr) (len0 cap0 : Nat) (z0 : List Int) (w : World) (w0 : IsRow .i64 w a0 len0 cap0 z0) :
    Calls Try.prog 9 #[.slice a0 len0 cap0] w fun e w' => e = .returned (.bool true) ∧ Below w.heap.size w w' := by
  have AW : Hid (∀ W, Calls Try.prog 28 #[] W fun e w' => e = .returned (.bool true) ∧ Bel W w') := awake_any
  go_enter Try.func9, Try.ntmps9
  go_wp2_with fail
  go_at_call 13
  refine (new_any a0 len0 cap0 z0 w w0).mono ?_
  rintro e v1 ⟨g, rfl, hg, ho1, hb1⟩
  have HO1 := Lib.hid ho1
  have HB1 := Lib.hid hb1
  clear ho1 hb1 w0
  go_wp2_with fail
  go_at_call 14
  refine (pair_any g _ HO1.out).mono ?_
  rintro e v0 ⟨xa, xb, ya, yb, m, L, M, rfl, n1, n2, hxy, hox, hoy, lL, lM, sL, sM, ho2, hc2⟩
  have HO2 := Lib.hid ho2
  have HC2 := Lib.hid hc2
  have HOX := Lib.hid hox
  have HOY := Lib.hid hoy
  have hgv := HO1.out.lt
  have ni1 : 2 ≤ (m : Int) := by omega
  have ni2 : (m : Int) ≤ 32 := by omega
  have cx := row_cap hox
  have cy := row_cap hoy
  have HLL := Lib.hid (And.intro lL (And.intro lM (And.intro sL (And.intro sM (And.intro cx cy)))))
  clear ho2 hc2 hox hoy cx cy lL lM sL sM
  go_wp2_with fail
  go_at_call 29
  refine (count_any g m n1 n2 _ HO2.out).mono ?_
  rintro e v3 ⟨n, rfl, k1, k8, km, ho3, hc3⟩
  have HB3 : Hid (Bel w v3) := Bel.ch (Bel.ch HB1.out HC2.out hg) hc3 hg
  have zx := own_zi (own_ch HOX.out hc3 hgv) HLL.out.1
  have zy := own_zi (own_ch HOY.out hc3 hgv) HLL.out.2.1
  have cx := HLL.out.2.2.2.2.1
  have cy := HLL.out.2.2.2.2.2
  have sX := HLL.out.2.2.1
  have sY := HLL.out.2.2.2.1
  have kk1 : 1 ≤ (n : Int) := by omega
  have kk8 : (n : Int) ≤ 8 := by omega
  clear ho3 hc3 HOX HOY
  have G1 : Hid (∀ W, Bel v3 W → _) := fun W hW => Lower_ok xa ya xb yb m n L M n1 n2 k1 k8 km cx cy sX sY W (zx.bel hW) (zy.bel hW)
  have G2 : Hid (∀ W, Bel v3 W → _) := fun W hW => Shifted_ok xa ya xb yb m n L M n1 n2 k1 k8 km cx cy sX sY W (zx.bel hW) (zy.bel hW)
  have G3 : Hid (∀ W, Bel v3 W → _) := fun W hW => rdistance_ok (some ⟨xa, 0, none⟩) (some ⟨ya, 0, none⟩) xb yb m L M n1 n2 sX sY W (zx.bel hW) (zy.bel hW)
  have G4 : Hid (∀ W, Bel v3 W → _) := fun W hW => rshifted_ok (some ⟨xa, 0, none⟩) (some ⟨ya, 0, none⟩) xb yb m L M n1 n2 sX sY W (zx.bel hW) (zy.bel hW)
  have hlm : L.length = M.length := by rw [HLL.out.1, HLL.out.2.1]
  have hld : (df L M).length = m := by rw [df_len hlm, HLL.out.1]
  have hsq := susq_bd (df_bd (A := 1000) (B := 1000) sX sY)
  rw [hld] at hsq
  rw [bnd_bq m n L M hlm] at G1
  rw [bnd_cen m n L M hlm] at G2
  obtain ⟨S, hS⟩ : ∃ S, su sq (df L M) = S := ⟨_, rfl⟩
  rw [hS] at G3 hsq
  have hS2 : S ≤ 128000000 := by omega
  have HF := Lib.hid (And.intro hld (And.intro hS hS2))
  clear zx zy cx cy sX sY hlm hld hsq hS hS2
  go_wp2_with fail
  go_at_call 30
  refine (G1.out _ Bel.rf).mono ?_
  rintro e q1 ⟨t1, u1, rfl, hv, hp⟩
  have V1 := Lib.hid hv
  clear hv
  have K1 : Hid (Bel v3 q1) := hp
  have D1 := Lib.hid (Bk.nw q1 36 #[.int .i64 t1, .int .i64 u1])
  clear hp
  go_wp2_with fail
  go_at_call 31
  refine (G2.out _ (K1.out.al _)).mono ?_
  rintro e q2 ⟨t2, u2, rfl, hv, hp⟩
  have V2 := Lib.hid hv
  clear hv
  have K2 : Hid (Bel v3 q2) := Bel.tr (K1.out.al _) hp
  have D1 := Lib.hid ((D1.out.bel hp).al (.cells #[.int .i64 t2, .int .i64 u2] 36))
  have D2 := Lib.hid (Bk.nw q2 36 #[.int .i64 t2, .int .i64 u2])
  clear hp
  go_wp2_with fail
  go_at_call 32
  refine (G3.out _ (K2.out.al _)).mono ?_
  rintro e q3 ⟨rfl, hp⟩
  have K3 : Hid (Bel v3 q3) := Bel.tr (K2.out.al _) hp
  have D1 := Lib.hid (D1.out.bel hp)
  have D2 := Lib.hid (D2.out.bel hp)
  clear hp
  go_wp2_with fail
  go_at_call 33
  refine (G4.out _ K3.out).mono ?_
  rintro e q4 ⟨t4, u4, rfl, hv, hp⟩
  have V4 := Lib.hid hv
  clear hv
  have K4 : Hid (Bel v3 q4) := Bel.tr K3.out hp
  have D1 := Lib.hid ((D1.out.bel hp).al (.cells #[.int .i64 t4, .int .i64 u4] 36))
  have D2 := Lib.hid ((D2.out.bel hp).al (.cells #[.int .i64 t4, .int .i64 u4] 36))
  have D4 := Lib.hid (Bk.nw q4 36 #[.int .i64 t4, .int .i64 u4])
  clear hp
  have E1 := D1.out.al (.cells #[.int .i64 S, .int .i64 1] 36)
  have E2 := D2.out.al (.cells #[.int .i64 S, .int .i64 1] 36)
  have E4 := D4.out.al (.cells #[.int .i64 S, .int .i64 1] 36)
  have E5 := Bk.nq (q4.alloc (.cells #[.int .i64 t4, .int .i64 u4] 36)) 36 #[.int .i64 S, .int .i64 1] (show _ = q4.heap.size + 1 by simp)
  have K5 : Hid (Bel v3 ((q4.alloc (.cells #[.int .i64 t4, .int .i64 u4] 36)).alloc (.cells #[.int .i64 S, .int .i64 1] 36))) := (K4.out.al _).al _
  obtain ⟨cm1, cm2, cm3, hall⟩ := bound_cmps HF.out.1 n1 n2 k1 km HF.out.2.1 HF.out.2.2 V1.out V2.out V4.out
  have CM1 := Lib.hid cm1
  have CM2 := Lib.hid cm2
  have CM3 := Lib.hid cm3
  have VA1 : Hid (∀ W, _) := fun W => rvalid_ok t1 u1 V1.out.1 W
  have VA2 : Hid (∀ W, _) := fun W => rvalid_ok t2 u2 V2.out.1 W
  have HALL := Lib.hid hall
  have HE := Lib.hid (And.intro E1 (And.intro E2 (And.intro E4 E5)))
  have f1 := E1.cell 0
  have g1 := E1.cell 1
  have f2 := E2.cell 0
  have g2 := E2.cell 1
  have f4 := E4.cell 0
  have g4 := E4.cell 1
  have f5 := E5.cell 0
  have g5 := E5.cell 1
  clear E1 E2 E4 E5 D1 D2 D4 cm1 cm2 cm3 hall
  go_wp2_with fail
  go_at_call 21
  refine (CM1.out _).mono ?_
  rintro e q6 ⟨c6, rfl, hc6, hp⟩
  have K6 : Hid (Bel v3 q6) := K5.out.tr hp
  clear f1 g1 f2 g2 f4 g4 f5 g5
  have f1 := (HE.out.1.bel hp).cell 0
  have g1 := (HE.out.1.bel hp).cell 1
  have f2 := (HE.out.2.1.bel hp).cell 0
  have g2 := (HE.out.2.1.bel hp).cell 1
  have f4 := (HE.out.2.2.1.bel hp).cell 0
  have g4 := (HE.out.2.2.1.bel hp).cell 1
  have f5 := (HE.out.2.2.2.bel hp).cell 0
  have g5 := (HE.out.2.2.2.bel hp).cell 1
  have HE := Lib.hid (And.intro (HE.out.1.bel hp) (And.intro (HE.out.2.1.bel hp) (And.intro (HE.out.2.2.1.bel hp) (HE.out.2.2.2.bel hp))))
  clear hp
  go_wp2_with fail
  go_at_call 21
  refine (CM2.out _).mono ?_
  rintro e q7 ⟨c7, rfl, hc7, hp⟩
  have K7 : Hid (Bel v3 q7) := K6.out.tr hp
  clear f1 g1 f2 g2 f4 g4 f5 g5
  have f1 := (HE.out.1.bel hp).cell 0
  have g1 := (HE.out.1.bel hp).cell 1
  have f2 := (HE.out.2.1.bel hp).cell 0
  have g2 := (HE.out.2.1.bel hp).cell 1
  have f4 := (HE.out.2.2.1.bel hp).cell 0
  have g4 := (HE.out.2.2.1.bel hp).cell 1
  have f5 := (HE.out.2.2.2.bel hp).cell 0
  have g5 := (HE.out.2.2.2.bel hp).cell 1
  have HE := Lib.hid (And.intro (HE.out.1.bel hp) (And.intro (HE.out.2.1.bel hp) (And.intro (HE.out.2.2.1.bel hp) (HE.out.2.2.2.bel hp))))
  clear hp
  go_wp2_with fail
  go_at_call 21
  refine (CM3.out _).mono ?_
  rintro e q8 ⟨c8, rfl, hc8, hp⟩
  have K8 : Hid (Bel v3 q8) := K7.out.tr hp
  clear f1 g1 f2 g2 f4 g4 f5 g5
  have f1 := (HE.out.1.bel hp).cell 0
  have g1 := (HE.out.1.bel hp).cell 1
  have f2 := (HE.out.2.1.bel hp).cell 0
  have g2 := (HE.out.2.1.bel hp).cell 1
  have f4 := (HE.out.2.2.1.bel hp).cell 0
  have g4 := (HE.out.2.2.1.bel hp).cell 1
  have f5 := (HE.out.2.2.2.bel hp).cell 0
  have g5 := (HE.out.2.2.2.bel hp).cell 1
  have HE := Lib.hid (And.intro (HE.out.1.bel hp) (And.intro (HE.out.2.1.bel hp) (And.intro (HE.out.2.2.1.bel hp) (HE.out.2.2.2.bel hp))))
  clear hp
  go_wp2_with fail
  go_at_call 20
  refine (VA1.out _).mono ?_
  rintro e q9 ⟨rfl, hp⟩
  have K9 : Hid (Bel v3 q9) := K8.out.tr hp
  clear f1 g1 f2 g2 f4 g4 f5 g5
  have f1 := (HE.out.1.bel hp).cell 0
  have g1 := (HE.out.1.bel hp).cell 1
  have f2 := (HE.out.2.1.bel hp).cell 0
  have g2 := (HE.out.2.1.bel hp).cell 1
  have f4 := (HE.out.2.2.1.bel hp).cell 0
  have g4 := (HE.out.2.2.1.bel hp).cell 1
  have f5 := (HE.out.2.2.2.bel hp).cell 0
  have g5 := (HE.out.2.2.2.bel hp).cell 1
  have HE := Lib.hid (And.intro (HE.out.1.bel hp) (And.intro (HE.out.2.1.bel hp) (And.intro (HE.out.2.2.1.bel hp) (HE.out.2.2.2.bel hp))))
  clear hp
  go_wp2_with fail
  go_at_call 20
  refine (VA2.out _).mono ?_
  rintro e q10 ⟨rfl, hp⟩
  have K10 : Hid (Bel v3 q10) := K9.out.tr hp
  clear f1 g1 f2 g2 f4 g4 f5 g5
  have f1 := (HE.out.1.bel hp).cell 0
  have g1 := (HE.out.1.bel hp).cell 1
  have f2 := (HE.out.2.1.bel hp).cell 0
  have g2 := (HE.out.2.1.bel hp).cell 1
  have f4 := (HE.out.2.2.1.bel hp).cell 0
  have g4 := (HE.out.2.2.1.bel hp).cell 1
  have f5 := (HE.out.2.2.2.bel hp).cell 0
  have g5 := (HE.out.2.2.2.bel hp).cell 1
  have HE := Lib.hid (And.intro (HE.out.1.bel hp) (And.intro (HE.out.2.1.bel hp) (And.intro (HE.out.2.2.1.bel hp) (HE.out.2.2.2.bel hp))))
  clear hp
  rcases Classical.em (n = m) with hnm | hnm
  · obtain ⟨rfl, rfl, rfl, rfl⟩ := HALL.out hnm
    subst hnm
    have nn := ne_self (n : Int)
    go_wp2_with (go_at_call 28; refine (AW.out _).mono ?_; rintro e w9 ⟨rfl, hb9⟩)
    go_ret
    exact ⟨rfl, ((HB3.out.tr K10.out).tr hb9).bl⟩
  · have nn : ((n : Int) != (m : Int)) = true := by
      have h : (n : Int) ≠ (m : Int) := fun e => hnm (Int.ofNat.inj e)
      simpa using h
    go_wp2_with (go_at_call 28; refine (AW.out _).mono ?_; rintro e w9 ⟨rfl, hb9⟩)
    go_ret
    exact ⟨rfl, ((HB3.out.tr K10.out).tr hb9).bl⟩

set_option maxRecDepth 100000 in
theorem lifted (os : Os) (started : os.Started) (H : Type) (enc : TypeId × Value → H) :
    ReturnsInHanded {} Try.checked os 9 .any (Rows.piecesBoundSpec.pre6 enc Try.prog Try.f9 Rows.piecesBoundRow.domain false) (Rows.piecesBoundSpec.post enc Try.prog Try.f9 false true false false) := by
  refine returnsInHanded_of_change (C := Try.checked) own started (by kernel_rfl) Try.func9
    (ChangeSpec.witness6 (enc := enc) (C := Try.checked) false ⟨#[], #[.slice none 0 0], []⟩ 8 (by kernel_rfl) (by kernel_rfl) (by kernel_rfl) (by kernel_rfl)) ?_
  intro W base args ds gs before hval0 hW hcnd _
  have hval : ∀ (j : Nat) t v, Try.f9.params[j]? = some t → args[j]? = some v → Value.okWide Try.prog W .any base t v := hval0
  have hW' := hW
  obtain ⟨p, q, hA0, hV, rfl, hfz, hnd⟩ := hW
  have hA : DataW.TrodAll enc Try.prog W 0 (fun _ => true) true Try.f9.params.toList args.toList ds p := hA0
  rw [Try.params9] at hA hval
  obtain ⟨v0, vs0, d0, ds0, p0, q0, hargs, rfl, rfl, h0, r0⟩ := trodAll_cons hA
  obtain ⟨rfl, rfl, rfl⟩ := trodAll_nil r0
  obtain rfl : args = #[v0] := by cases args; simp_all
  obtain ⟨rfl, rfl⟩ := trodVars_none hV
  obtain ⟨a0, len0, cap0, rfl⟩ := okWide_slice Try.underlying22 (hval 0 22 v0 rfl rfl)
  have k0 := h0
  have lt0 : ∀ x ∈ p0, x.block < W.heap.size := by obtain ⟨m, hm⟩ := k0; exact DataW.trod_lt m _ _ _ hm
  obtain ⟨z0, w0⟩ : ∃ zs, IsRow .i64 W a0 len0 cap0 zs := by
    obtain ⟨fuel, hf⟩ := h0
    rcases open_ints Try.underlying22 Try.underlying3 (by kernel_rfl) hf with ⟨hcs, _⟩ | ⟨x, l, c, zs, hcs, _, hl, hm, hz, _, hcell, hwz⟩
    · simp [Value.cells] at hcs
      obtain ⟨rfl, rfl, rfl⟩ := hcs
      exact ⟨[], .inl ⟨rfl, rfl, rfl, rfl⟩⟩
    · simp [Value.cells] at hcs
      obtain ⟨rfl, rfl, rfl⟩ := hcs
      exact ⟨zs, .inr ⟨_, rfl, hl, hm, by simpa using hz, hcell, hwz⟩⟩
  clear hA0 hval0
  refine (walk a0 len0 cap0 z0 W w0).mono fun e W' ⟨he, bel⟩ => ?_
  subst he
  exact ⟨_, rfl, _, _, _, [], _, [], hW', trodAll_mk1 (shut_bool Try.underlying4 _), (trodAll_cons_mk (Below.trod laidOut (by kernel_rfl) (of_decide_eq_true (by kernel_rfl)) k0 bel lt0) trodAll_mk0), rfl, bel.frame _, fun h => by cases h⟩

theorem over : Rows.piecesBoundRow.holds Try.pinned (OpenSpec.ofChange Rows.piecesBoundSpec) :=
  OpenClaim.holds_of_wide_leaving 9 Try.f9 rfl rfl rfl rfl rfl rfl rfl ⟨rfl, rfl, rfl, rfl, rfl⟩ rfl rfl rfl rfl rfl (by kernel_rfl) Try.func9 (by kernel_rfl)
    (of_decide_eq_true (by kernel_rfl)) (by unfold Func.isWrapper; first | (rw [if_pos (by decide +kernel)]; kernel_rfl) | (rw [if_neg (by decide +kernel)]; exact ⟨rfl, rfl⟩))
    (fun os started H enc _ => Lv.leaving_of_handed (lifted os started H enc))

theorem proved : Rows.PiecesBoundSaid := over
end Go.Proofs.Ytkbpcaggkngpnaa.piecesBound
