/- That the law PiecesFiner returns true for every input that can be read, and leaves its arguments as they were; no further condition. -/
import Derived.Test.YtkbpcaggkngpnaaRows
import Derived.WalkKit
import Derived.ProofKit
import Derived.OpenShut
import Derived.Test.YtkbpcaggkngpnaaWords
import Derived.Test.YtkbpcaggkngpnaaPieL
import Derived.Test.YtkbpcaggkngpnaaLeav
import Derived.Test.YtkbpcaggkngpnaaSrcNew0
import Derived.Test.YtkbpcaggkngpnaaNear
import Derived.ShutString
import Derived.ChangeOld
import Derived.Below
namespace Go.Proofs.Ytkbpcaggkngpnaa.piecesFiner
open Go.ChangeShapes Go.WideShapes Go.ChangeAt Go.RowKit Wo
open Go.ChangeMaps (open_string shut_string)
set_option linter.unusedVariables false

theorem own : ownKnob Try.prog.godebug = none := by kernel_rfl
theorem laidOut : laidOutB Try.prog = true := by kernel_rfl

/-- WHAT THE WALK IS TOLD OF A SLICE OF INTEGERS THAT CAME IN: it is nil; or it leads to a row of 'cap' cells, the numbers 'zs' (the first 'len' are its elements, the rest its spare room), each fitting its kind. -/
def IsRow (k : IntKind) (w : World) (a : Option Addr) (len cap : Nat) (zs : List Int) : Prop :=
  (a = none ∧ len = 0 ∧ cap = 0 ∧ zs = []) ∨
  ∃ x, a = some x ∧ len ≤ cap ∧ cap ≤ maxLen ∧ zs.length = cap ∧ (∀ i, i < zs.length → w.cell? (x.add i) = some (.int k (zs.getD i 0))) ∧ ∀ n ∈ zs, (Lit.int k n).wf = true

open Go.Proofs.Ytkbpcaggkngpnaa.Pc Go.Proofs.Ytkbpcaggkngpnaa.Eu Go.Proofs.Ytkbpcaggkngpnaa.Wi Go.Proofs.Ytkbpcaggkngpnaa.Wo Go.Proofs.Ytkbpcaggkngpnaa.Sr Go.Proofs.Ytkbpcaggkngpnaa.Ra in
set_option maxHeartbeats 16000000 in
set_option maxRecDepth 100000 in
theorem walk (a0 : Option Addr) (len0 cap0 : Nat) (z0 : List Int) (w : World) (w0 : IsRow .i64 w a0 len0 cap0 z0) :
    Calls Try.prog 10 #[.slice a0 len0 cap0] w fun e w' => e = .returned (.bool true) ∧ Below w.heap.size w w' := by
  have AW : Hid (∀ W, Calls Try.prog 28 #[] W fun e w' => e = .returned (.bool true) ∧ Bel W w') := awake_any
  go_enter Try.func10, Try.ntmps10
  go_wp2_with fail
  go_at_call 13
  refine (new_any a0 len0 cap0 z0 w w0).mono ?_
  rintro e v1 ⟨g, rfl, hg, ho1, hb1⟩
  have HO1 := Lib.hid ho1
  have HB1 := Lib.hid hb1
  clear ho1 hb1 w0
  go_wp2_with fail
  go_at_call 14
  refine (pair_any g _ HO1.out).mono ?_
  rintro e v2 ⟨xa, xb, ya, yb, m, L, M, rfl, n1, n2, hxy, hox, hoy, lL, lM, sL, sM, ho2, hc2⟩
  have HO2 := Lib.hid ho2
  have HC2 := Lib.hid hc2
  have HOX := Lib.hid hox
  have HOY := Lib.hid hoy
  have hgv := HO1.out.lt
  have hxv := (hox.lt xa rfl).1
  have hyv := (hoy.lt ya rfl)
  have ni1 : 2 ≤ (m : Int) := by omega
  have ni2 : (m : Int) ≤ 32 := by omega
  have cx := row_cap hox; have cy := row_cap hoy
  have HLL := Lib.hid (And.intro lL (And.intro lM (And.intro sL (And.intro sM (And.intro cx cy)))))
  clear ho2 hc2 hox hoy lL lM sL sM
  go_wp2_with fail
  all_goals
    go_at_call 24
    refine (range_any g 1 _ (by omega) (by omega) (by omega) _ HO2.out).mono ?_
    rintro e v3 ⟨x, rfl, hx0, hx1, ho3, hc3⟩
    obtain ⟨n, rfl⟩ := Int.eq_ofNat_of_zero_le (show 0 ≤ x by omega)
    have HB3 : Hid (Bel w v3) := Bel.ch (Bel.ch HB1.out HC2.out hg) hc3 hg
    have zx := own_zi (own_ch HOX.out hc3 hgv) HLL.out.1
    have zy := own_zi (own_ch HOY.out hc3 hgv) HLL.out.2.1
    clear ho3 hc3 HOX HOY
    obtain ⟨N, hN⟩ : ∃ N : Nat, 2 * n = N := ⟨_, rfl⟩
    have hNi : (2 : Int) * (n : Int) = (N : Int) := by omega
    have hNm : N ≤ m := by omega
    have hn1 : 1 ≤ n := by omega
    have hn4 : n ≤ 4 := by omega
    have L1 : Hid (∀ W, Bel v3 W → _) := fun W hW => Lower_ok xa ya xb yb m n L M n1 n2 hn1 (by omega) (by omega) HLL.out.2.2.2.2.1 HLL.out.2.2.2.2.2 HLL.out.2.2.1 HLL.out.2.2.2.1 W (zx.bel hW) (zy.bel hW)
    have L2 : Hid (∀ W, Bel v3 W → _) := fun W hW => Lower_ok xa ya xb yb m N L M n1 n2 (by omega) (by omega) hNm HLL.out.2.2.2.2.1 HLL.out.2.2.2.2.2 HLL.out.2.2.1 HLL.out.2.2.2.1 W (zx.bel hW) (zy.bel hW)
    have S1 : Hid (∀ W, Bel v3 W → _) := fun W hW => Shifted_ok xa ya xb yb m n L M n1 n2 hn1 (by omega) (by omega) HLL.out.2.2.2.2.1 HLL.out.2.2.2.2.2 HLL.out.2.2.1 HLL.out.2.2.2.1 W (zx.bel hW) (zy.bel hW)
    have S2 : Hid (∀ W, Bel v3 W → _) := fun W hW => Shifted_ok xa ya xb yb m N L M n1 n2 (by omega) (by omega) hNm HLL.out.2.2.2.2.1 HLL.out.2.2.2.2.2 HLL.out.2.2.1 HLL.out.2.2.2.1 W (zx.bel hW) (zy.bel hW)
    have hlm : L.length = M.length := by rw [HLL.out.1, HLL.out.2.1]
    have hld : (df L M).length = m := by rw [df_len hlm, HLL.out.1]
    rw [bnd_bq m n L M hlm] at L1
    rw [bnd_bq m N L M hlm] at L2
    rw [bnd_cen m n L M hlm] at S1
    rw [bnd_cen m N L M hlm] at S2
    have F1 := bq_two (df L M) m n hld hn1 (by omega) n2
    have F2 := bq_two (cen (df L M)) m n (by rw [cen_len', hld]) hn1 (by omega) n2
    rw [hN] at F1 F2
    have c1 := (cq_in m n hn1 (by omega) n2).1
    have c2 := (cq_in m N (by omega) hNm n2).1
    have mm := mm_in n1 n2
    have HF := Lib.hid (And.intro F1 (And.intro F2 (And.intro c1 (And.intro c2 mm))))
    have hn4i : (n : Int) ≤ 4 := by omega
    have hN8i : (N : Int) ≤ 8 := by omega
    clear F1 F2 c1 c2 mm zx zy hN hlm hld hn1 hn4 hNm hx0 hx1
    go_wp2_with fail
    go_at_call 30
    refine (L1.out _ Bel.rf).mono ?_
    rintro e p1 ⟨t1, u1, rfl, hv, hp⟩
    have K1 : Hid (Bel v3 p1) := hp
    have V1 := Lib.hid hv
    have A1 := Lib.hid (Bk.nw p1 36 #[.int .i64 t1, .int .i64 u1])
    clear hp hv
    go_wp2_with fail
    go_at_call 30
    refine (L2.out _ (K1.out.al _)).mono ?_
    rintro e p2 ⟨t2, u2, rfl, hv, hp⟩
    have K2 : Hid (Bel v3 p2) := Bel.tr (K1.out.al _) hp
    have V2 := Lib.hid hv
    have A1' := Lib.hid ((A1.out.bel hp).al (.cells #[.int .i64 t2, .int .i64 u2] 36))
    have A2 := Lib.hid (Bk.nw p2 36 #[.int .i64 t2, .int .i64 u2])
    clear hp hv A1
    go_wp2_with fail
    go_at_call 31
    refine (S1.out _ (K2.out.al _)).mono ?_
    rintro e p3 ⟨t3, u3, rfl, hv, hp⟩
    have K3 : Hid (Bel v3 p3) := Bel.tr (K2.out.al _) hp
    have V3 := Lib.hid hv
    have A1 := Lib.hid ((A1'.out.bel hp).al (.cells #[.int .i64 t3, .int .i64 u3] 36))
    have A2' := Lib.hid ((A2.out.bel hp).al (.cells #[.int .i64 t3, .int .i64 u3] 36))
    have A3 := Lib.hid (Bk.nw p3 36 #[.int .i64 t3, .int .i64 u3])
    clear hp hv A1' A2
    go_wp2_with fail
    go_at_call 31
    refine (S2.out _ (K3.out.al _)).mono ?_
    rintro e p4 ⟨t4, u4, rfl, hv, hp⟩
    have K4 : Hid (Bel v3 p4) := Bel.tr (K3.out.al _) hp
    have V4 := Lib.hid hv
    have B1 := (A1.out.bel hp).al (.cells #[.int .i64 t4, .int .i64 u4] 36)
    have B2 := (A2'.out.bel hp).al (.cells #[.int .i64 t4, .int .i64 u4] 36)
    have B3 := (A3.out.bel hp).al (.cells #[.int .i64 t4, .int .i64 u4] 36)
    have B4 := Bk.nw p4 36 #[.int .i64 t4, .int .i64 u4]
    have K5 : Hid (Bel v3 (p4.alloc (.cells #[.int .i64 t4, .int .i64 u4] 36))) := K4.out.al _
    have CM1 : Hid (∀ W, _) := fun W => cmp_two (t := t1) (u := u1) (t' := t2) (u' := u2) (by decide) HF.out.2.2.1 HF.out.2.2.2.1 V1.out V2.out HF.out.1 W
    have CM2 : Hid (∀ W, _) := fun W => cmp_two (t := t3) (u := u3) (t' := t4) (u' := u4) HF.out.2.2.2.2 HF.out.2.2.1 HF.out.2.2.2.1 V3.out V4.out HF.out.2.1 W
    have VA2 : Hid (∀ W, _) := fun W => rvalid_ok t2 u2 V2.out.1 W
    have VA4 : Hid (∀ W, _) := fun W => rvalid_ok t4 u4 V4.out.1 W
    have a10 := B1.cell 0
    have a11 := B1.cell 1
    have a20 := B2.cell 0
    have a21 := B2.cell 1
    have BB := Lib.hid (And.intro B2 (And.intro B3 B4))
    clear hp hv B1 B2 B3 B4 A1 A2' A3
    go_wp2_with fail
    go_at_call 21
    refine (CM1.out _).mono ?_
    rintro e p5 ⟨c5, rfl, hc5, hp⟩
    have K6 : Hid (Bel v3 p5) := K5.out.tr hp
    have a20' := (BB.out.1.bel hp).cell 0
    have a21' := (BB.out.1.bel hp).cell 1
    have a30 := (BB.out.2.1.bel hp).cell 0
    have a31 := (BB.out.2.1.bel hp).cell 1
    have a40 := (BB.out.2.2.bel hp).cell 0
    have a41 := (BB.out.2.2.bel hp).cell 1
    have B5 := Lib.hid (And.intro (BB.out.1.bel hp) (BB.out.2.2.bel hp))
    clear hp a10 a11 a20 a21
    go_wp2_with fail
    go_at_call 21
    refine (CM2.out _).mono ?_
    rintro e p6 ⟨c6, rfl, hc6, hp⟩
    have K7 : Hid (Bel v3 p6) := K6.out.tr hp
    have b20 := (B5.out.1.bel hp).cell 0
    have b21 := (B5.out.1.bel hp).cell 1
    have B6 := Lib.hid (B5.out.2.bel hp)
    clear hp a20' a21' a30 a31 a40 a41
    go_wp2_with fail
    go_at_call 20
    refine (VA2.out _).mono ?_
    rintro e p7 ⟨rfl, hp⟩
    have K8 : Hid (Bel v3 p7) := K7.out.tr hp
    have b40 := (B6.out.bel hp).cell 0
    have b41 := (B6.out.bel hp).cell 1
    clear hp b20 b21
    go_wp2_with fail
    go_at_call 20
    refine (VA4.out _).mono ?_
    rintro e p8 ⟨rfl, hp⟩
    have K9 : Hid (Bel v3 p8) := K8.out.tr hp
    clear hp b40 b41
    go_wp2_with (go_at_call 28; refine (AW.out _).mono ?_; rintro e w9 ⟨rfl, hb9⟩)
    go_ret
    exact ⟨rfl, ((HB3.out.tr K9.out).tr hb9).bl⟩

set_option maxRecDepth 100000 in
theorem lifted (os : Os) (started : os.Started) (H : Type) (enc : TypeId × Value → H) :
    ReturnsInHanded {} Try.checked os 10 .any (Rows.piecesFinerSpec.pre6 enc Try.prog Try.f10 Rows.piecesFinerRow.domain false) (Rows.piecesFinerSpec.post enc Try.prog Try.f10 false true false false) := by
  refine returnsInHanded_of_change (C := Try.checked) own started (by kernel_rfl) Try.func10
    (ChangeSpec.witness6 (enc := enc) (C := Try.checked) false ⟨#[], #[.slice none 0 0], []⟩ 8 (by kernel_rfl) (by kernel_rfl) (by kernel_rfl) (by kernel_rfl)) ?_
  intro W base args ds gs before hval0 hW hcnd _
  have hval : ∀ (j : Nat) t v, Try.f10.params[j]? = some t → args[j]? = some v → Value.okWide Try.prog W .any base t v := hval0
  have hW' := hW
  obtain ⟨p, q, hA0, hV, rfl, hfz, hnd⟩ := hW
  have hA : DataW.TrodAll enc Try.prog W 0 (fun _ => true) true Try.f10.params.toList args.toList ds p := hA0
  rw [Try.params10] at hA hval
  obtain ⟨v0, vs0, d0, ds0, p0, q0, hargs, rfl, rfl, h0, r0⟩ := trodAll_cons hA
  obtain ⟨rfl, rfl, rfl⟩ := trodAll_nil r0
  obtain rfl : args = #[v0] := by cases args; simp_all
  obtain ⟨rfl, rfl⟩ := trodVars_none hV
  obtain ⟨a0, len0, cap0, rfl⟩ := okWide_slice Try.underlying22 (hval 0 22 v0 rfl rfl)
  have k0 := h0
  have lt0 : ∀ x ∈ p0, x.block < W.heap.size := by obtain ⟨m, hm⟩ := k0; exact DataW.trod_lt m _ _ _ hm
  obtain ⟨z0, w0⟩ : ∃ zs, IsRow .i64 W a0 len0 cap0 zs := by
    obtain ⟨fuel, hf⟩ := h0
    rcases open_ints Try.underlying22 Try.underlying3 (by kernel_rfl) hf with ⟨hcs, _⟩ | ⟨x, l, c, zs, hcs, _, hl, hm, hz, _, hcell, hwz⟩
    · simp [Value.cells] at hcs
      obtain ⟨rfl, rfl, rfl⟩ := hcs
      exact ⟨[], .inl ⟨rfl, rfl, rfl, rfl⟩⟩
    · simp [Value.cells] at hcs
      obtain ⟨rfl, rfl, rfl⟩ := hcs
      exact ⟨zs, .inr ⟨_, rfl, hl, hm, by simpa using hz, hcell, hwz⟩⟩
  clear hA0 hval0
  refine (walk a0 len0 cap0 z0 W w0).mono fun e W' ⟨he, bel⟩ => ?_
  subst he
  exact ⟨_, rfl, _, _, _, [], _, [], hW', trodAll_mk1 (shut_bool Try.underlying4 _), (trodAll_cons_mk (Below.trod laidOut (by kernel_rfl) (of_decide_eq_true (by kernel_rfl)) k0 bel lt0) trodAll_mk0), rfl, bel.frame _, fun h => by cases h⟩

theorem over : Rows.piecesFinerRow.holds Try.pinned (OpenSpec.ofChange Rows.piecesFinerSpec) :=
  OpenClaim.holds_of_wide_leaving 10 Try.f10 rfl rfl rfl rfl rfl rfl rfl ⟨rfl, rfl, rfl, rfl, rfl⟩ rfl rfl rfl rfl rfl (by kernel_rfl) Try.func10 (by kernel_rfl)
    (of_decide_eq_true (by kernel_rfl)) (by unfold Func.isWrapper; first | (rw [if_pos (by decide +kernel)]; kernel_rfl) | (rw [if_neg (by decide +kernel)]; exact ⟨rfl, rfl⟩))
    (fun os started H enc _ => Lv.leaving_of_handed (lifted os started H enc))

theorem proved : Rows.PiecesFinerSaid := over
end Go.Proofs.Ytkbpcaggkngpnaa.piecesFiner
