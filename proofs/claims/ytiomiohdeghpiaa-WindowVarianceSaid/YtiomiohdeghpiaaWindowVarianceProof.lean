/- That the law WindowVariance returns true for every input that can be read, and leaves its arguments as they were; no further condition. -/
import Derived.Test.YtiomiohdeghpiaaRows
import Derived.WalkKit
import Derived.ProofKit
import Derived.OpenShut
import Derived.Test.YtiomiohdeghpiaaWords
import Derived.Test.YtiomiohdeghpiaaSrcNew0
import Derived.Test.YtiomiohdeghpiaaSrcLen
import Derived.Test.YtiomiohdeghpiaaWinVar
import Derived.ShutString
import Derived.ChangeOld
import Derived.Below
namespace Go.Proofs.Ytiomiohdeghpiaa.windowVariance
open Go.ChangeShapes Go.WideShapes Go.ChangeAt Go.RowKit Wo
open Go.ChangeMaps (open_string shut_string)
set_option linter.unusedVariables false

theorem own : ownKnob Try.prog.godebug = none := by kernel_rfl
theorem laidOut : laidOutB Try.prog = true := by kernel_rfl

/-- WHAT THE WALK IS TOLD OF A SLICE OF INTEGERS THAT CAME IN: it is nil; or it leads to a row of 'cap' cells, the numbers 'zs' (the first 'len' are its elements, the rest its spare room), each fitting its kind. -/
def IsRow (k : IntKind) (w : World) (a : Option Addr) (len cap : Nat) (zs : List Int) : Prop :=
  (a = none ∧ len = 0 ∧ cap = 0 ∧ zs = []) ∨
  ∃ x, a = some x ∧ len ≤ cap ∧ cap ≤ maxLen ∧ zs.length = cap ∧ (∀ i, i < zs.length → w.cell? (x.add i) = some (.int k (zs.getD i 0))) ∧ ∀ n ∈ zs, (Lit.int k n).wf = true

theorem sq_in2 {x : Int} (h1 : -2000 ≤ x) (h2 : x ≤ 2000) : 0 ≤ x * x ∧ x * x ≤ 4000000 := by
  have a : 0 ≤ (2000 - x) * (2000 + x) := Int.mul_nonneg (by omega) (by omega)
  have e : (2000 - x) * (2000 + x) = 4000000 - x * x := by grind
  have b := Wi.sq_nn x
  omega
open Go.Proofs.Ytiomiohdeghpiaa.Wi Go.Proofs.Ytiomiohdeghpiaa.Wo Go.Proofs.Ytiomiohdeghpiaa.Sr in
set_option maxHeartbeats 16000000 in
set_option maxRecDepth 100000 in
theorem walk (a0 : Option Addr) (len0 cap0 : Nat) (z0 : List Int) (w : World) (w0 : IsRow .i64 w a0 len0 cap0 z0) :
    Calls Try.prog 5 #[.slice a0 len0 cap0] w fun e w' => e = .returned (.bool true) ∧ Below w.heap.size w w' := by
  have AW : Hid (∀ W, Calls Try.prog 9 #[] W fun e w' => e = .returned (.bool true) ∧ Bel W w') := awake_any
  go_enter Try.func5, Try.ntmps5
  go_wp2_with fail
  go_at_call 10
  refine (new_any a0 len0 cap0 z0 w w0).mono ?_
  rintro e v1 ⟨g, rfl, hg, ho1, hb1⟩
  have HO1 := Lib.hid ho1
  have HB1 := Lib.hid hb1
  clear ho1 hb1 w0
  go_wp2_with fail
  go_at_call 27
  refine (length_any g _ HO1.out).mono ?_
  rintro e v2 ⟨n0, rfl, hn0, hn1, ho2, hc2⟩
  obtain ⟨n, rfl⟩ := Int.eq_ofNat_of_zero_le (show 0 ≤ n0 by omega)
  have HO2 := Lib.hid ho2
  have HB2 : Hid (Bel w v2) := Bel.ch HB1.out hc2 hg
  clear ho2 hc2
  go_wp2_with fail
  go_at_call 11
  refine (list_any g n (by omega) _ HO2.out).mono ?_
  rintro e v3 ⟨v, L, rfl, hown, hL, hS, ho3, hc3⟩
  have HB3 : Hid (Bel w v3) := Bel.ch HB2.out hc3 hg
  have HL := Lib.hid hL
  have HS := Lib.hid hS
  obtain ⟨h, c, rfl, hcap, hh⟩ := row_form hown (by omega)
  have HZ := Lib.hid (own_zi hown hL)
  have HOW := Lib.hid hown
  clear hown hL hS ho3 hc3
  have nz : (n : Int) ≤ 60 := by omega
  have hfull : (L.drop 0).take n = L := by rw [List.drop_zero]; exact List.take_of_length_le (by have := HL.out; omega)
  obtain ⟨X, eX⟩ : ∃ y, su ix L = y := ⟨_, rfl⟩
  obtain ⟨Y, eY⟩ : ∃ y, su sq L = y := ⟨_, rfl⟩
  obtain ⟨Z, eZ⟩ : ∃ y, vr L = y := ⟨_, rfl⟩
  have VA : Hid (∀ W, Calls Try.prog 24 #[.agg #[.int .i64 (n : Int), .int .i64 X, .int .i64 Y]] W fun e w' => e = .returned (.int .i64 Z) ∧ Bel W w') := var_of L HS.out n HL.out (by omega) (by omega) X Y Z eX eY eZ
  have HE := Lib.hid (And.intro hfull (And.intro eX (And.intro eY eZ)))
  clear hfull eX eY eZ
  go_wp2_with fail
  go_at_call 14
  refine (of_ok _ _ n L (by omega) HS.out _ HZ.out).mono ?_
  rintro e v4 ⟨g1, c1, g2, c2, rfl, hz1, hz2, hb4⟩
  have HB4 := Lib.hid (HB3.out.tr hb4)
  have HZ1 := Lib.hid hz1
  have HZ2 := Lib.hid hz2
  have HSU : Hid (Bk (v4.alloc (.cells #[.slice (some ⟨g1, 0, none⟩) (n + 1) c1, .slice (some ⟨g2, 0, none⟩) (n + 1) c2] 24)) v4.heap.size 24 #[.slice (some ⟨g1, 0, none⟩) (n + 1) c1, .slice (some ⟨g2, 0, none⟩) (n + 1) c2]) := Bk.nw _ _ _
  have HZ4 := Lib.hid (HZ.out.bel hb4)
  clear hb4 hz1 hz2 HZ HOW
  clear HSU
  go_wp2_with fail
  go_at_call 22
  refine (stats_ok g1 c1 g2 c2 n 0 n L (by omega) HL.out (by omega) (by omega) HS.out _ (HZ1.out.bel (Bel.rf.al _)) (HZ2.out.bel (Bel.rf.al _))).mono ?_
  rintro e v5 ⟨rfl, hb5⟩
  rw [HE.out.1, HE.out.2.1, HE.out.2.2.1]
  have HB5 : Hid (Bel w v5) := (HB4.out.al _).tr hb5
  have HZ5 := Lib.hid (HZ4.out.bel ((Bel.rf.al _).tr hb5))
  clear hb5 HZ1 HZ2 HZ4
  go_wp2
  go_loopw [9, 32] (fun s9 s32 wr => ∃ (t : Nat) (V : World) (s : Int), V = wr ∧ t ≤ n ∧ s32 = .int .i64 (t : Int) ∧ s9 = .int .i64 s ∧ s = vr (L.take t) ∧ Bel (v5.alloc (.cells #[.int .i64 (n : Int), .int .i64 X, .int .i64 Y] 26)) wr) (fun _ s32 _ => n - (intOf s32).toNat)
  case atStart => exact ⟨0, _, 0, rfl, by omega, rfl, rfl, by simp [vr, su], Bel.rf⟩
  case round =>
    obtain ⟨t, wr, s, hwr, ht, rfl, rfl, hs, hb⟩ := hrel
    subst hwr
    have HB := Lib.hid hb
    have HSV := Lib.hid hs
    rcases Nat.lt_or_ge t n with hlt | hge
    · have ti : (t : Int) < (n : Int) := by omega
      clear hb hs
      go_wp2
      go_loopw [9, 11] (fun s9 s11 wq => ∃ (q : Nat) (V : World) (s' : Int), V = wq ∧ q ≤ t ∧ s11 = .int .i64 (q : Int) ∧ s9 = .int .i64 s' ∧ s' = s + difs (L.getD t 0) (L.take q) ∧ Bel (v5.alloc (.cells #[.int .i64 (n : Int), .int .i64 X, .int .i64 Y] 26)) wq) (fun _ s11 _ => t - (intOf s11).toNat)
      case atStart => exact ⟨0, _, s, rfl, by omega, rfl, rfl, by simp [difs], HB.out⟩
      case round =>
        obtain ⟨q, wq, s', hwq, hq, rfl, rfl, hs', hb'⟩ := hrel
        subst hwq
        have HBQ := Lib.hid hb'
        have HSQ := Lib.hid hs'
        rcases Nat.lt_or_ge q t with hqt | hqt
        · have z := HZ5.out.bel ((Bel.rf.al _).tr hb')
          have c1 := z.at t (by omega)
          have c2 := z.at q (by omega)
          have px := HS.out.at t
          have py := HS.out.at q
          have hd := difs_snoc (L.getD t 0) (L.take q) (L.getD q 0)
          rw [← take_snoc L q (by have := HL.out; omega)] at hd
          have bd := difs_in (HS.out.take q) px.1 px.2
          have bv := vr_in (HS.out.take t) (by have := List.length_take_le t L; have := HL.out; omega)
          have lt1 : ((L.take q).length : Int) ≤ 60 := by have := List.length_take_le q L; omega
          rw [← HSV.out] at bv
          obtain ⟨x, hx⟩ : ∃ x, L.getD t 0 = x := ⟨_, rfl⟩
          obtain ⟨y, hy⟩ : ∃ x, L.getD q 0 = x := ⟨_, rfl⟩
          rw [hx] at c1 px hd bd hs'
          rw [hy] at c2 py hd
          obtain ⟨px0, px1⟩ := px
          obtain ⟨py0, py1⟩ := py
          have dd := sq_in2 (x := x - y) (by omega) (by omega)
          have m1 : wrap64 ((x - y) * (x - y)) = (x - y) * (x - y) := IntWalk.wrap64_in _ (by omega)
          have m2 : IntKind.i64.wrap ((x - y) * (x - y)) = (x - y) * (x - y) := IntWalk.i64_in _ (by omega)
          have m3 : IntKind.i64.wrap (s' + (x - y) * (x - y)) = s' + (x - y) * (x - y) := IntWalk.i64_in _ (by omega)
          have m4 : wrap64 (s' + (x - y) * (x - y)) = s' + (x - y) * (x - y) := IntWalk.wrap64_in _ (by omega)
          have HN : Hid (s' + (x - y) * (x - y) = s + difs (L.getD t 0) (L.take (q + 1))) := by
            show _ = _
            rw [hx, hd, hs']; omega
          have HXY := Lib.hid (And.intro hx hy)
          have qi : (q : Int) < (t : Int) := by omega
          have qn : (q : Int) < (n : Int) := by omega
          clear hb' hs' z hd bd bv lt1 dd hx hy
          go_wp2
          go_quiet (fail)
          go_wp2
          go_roundw
          case rel => exact ⟨q + 1, _, _, rfl, by omega, by go_num, rfl, HN.out, by first | exact HBQ.out.drwN _ | exact HBQ.out.drw | exact HBQ.out⟩
          case measure => simp [intOf]; omega
        · obtain rfl : q = t := by omega
          have HN : Hid (s' = vr (L.take (q + 1))) := by
            show _ = _
            rw [take_snoc L q (by have := HL.out; omega), vr_snoc, ← HSV.out]
            exact HSQ.out
          clear hb' hs'
          go_wp2
          go_roundw
          case rel => exact ⟨q + 1, _, _, rfl, by omega, by go_num, rfl, HN.out, HBQ.out⟩
          case measure => simp [intOf]; omega
    · obtain rfl : t = n := by omega
      have hl : L.take t = L := List.take_of_length_le (by have := HL.out; omega)
      rw [hl, HE.out.2.2.2] at hs
      subst hs
      have K : Bk wr v5.heap.size 26 #[.int .i64 (t : Int), .int .i64 X, .int .i64 Y] := (Bk.nw _ _ _).bel hb
      have l0 : wr.cell? ⟨v5.heap.size, 0, none⟩ = some (.int .i64 (t : Int)) := K.cell 0
      have l1 : wr.cell? ⟨v5.heap.size, 1, none⟩ = some (.int .i64 X) := K.cell 1
      have l2 : wr.cell? ⟨v5.heap.size, 2, none⟩ = some (.int .i64 Y) := K.cell 2
      have HF : Hid (Bel w wr) := (HB5.out.al _).tr hb
      clear hb K hl HSV
      go_wp2_with fail
      go_at_call 24
      refine (VA.out _).mono ?_
      rintro e w8 ⟨rfl, hb8⟩
      go_wp2_with (go_at_call 9; refine (AW.out _).mono ?_; rintro e w9 ⟨rfl, hb9⟩)
      go_ret
      exact ⟨rfl, ((HF.out.tr hb8).tr hb9).bl⟩

set_option maxRecDepth 100000 in
theorem lifted (os : Os) (started : os.Started) (H : Type) (enc : TypeId × Value → H) :
    ReturnsInHanded {} Try.checked os 5 .any (Rows.windowVarianceSpec.pre6 enc Try.prog Try.f5 Rows.windowVarianceRow.domain false) (Rows.windowVarianceSpec.post enc Try.prog Try.f5 false true false false) := by
  refine returnsInHanded_of_change (C := Try.checked) own started (by kernel_rfl) Try.func5
    (ChangeSpec.witness6 (enc := enc) (C := Try.checked) false ⟨#[], #[.slice none 0 0], []⟩ 8 (by kernel_rfl) (by kernel_rfl) (by kernel_rfl) (by kernel_rfl)) ?_
  intro W base args ds gs before hval0 hW hcnd _
  have hval : ∀ (j : Nat) t v, Try.f5.params[j]? = some t → args[j]? = some v → Value.okWide Try.prog W .any base t v := hval0
  have hW' := hW
  obtain ⟨p, q, hA0, hV, rfl, hfz, hnd⟩ := hW
  have hA : DataW.TrodAll enc Try.prog W 0 (fun _ => true) true Try.f5.params.toList args.toList ds p := hA0
  rw [Try.params5] at hA hval
  obtain ⟨v0, vs0, d0, ds0, p0, q0, hargs, rfl, rfl, h0, r0⟩ := trodAll_cons hA
  obtain ⟨rfl, rfl, rfl⟩ := trodAll_nil r0
  obtain rfl : args = #[v0] := by cases args; simp_all
  obtain ⟨rfl, rfl⟩ := trodVars_none hV
  obtain ⟨a0, len0, cap0, rfl⟩ := okWide_slice Try.underlying22 (hval 0 22 v0 rfl rfl)
  have k0 := h0
  have lt0 : ∀ x ∈ p0, x.block < W.heap.size := by obtain ⟨m, hm⟩ := k0; exact DataW.trod_lt m _ _ _ hm
  obtain ⟨z0, w0⟩ : ∃ zs, IsRow .i64 W a0 len0 cap0 zs := by
    obtain ⟨fuel, hf⟩ := h0
    rcases open_ints Try.underlying22 Try.underlying3 (by kernel_rfl) hf with ⟨hcs, _⟩ | ⟨x, l, c, zs, hcs, _, hl, hm, hz, _, hcell, hwz⟩
    · simp [Value.cells] at hcs
      obtain ⟨rfl, rfl, rfl⟩ := hcs
      exact ⟨[], .inl ⟨rfl, rfl, rfl, rfl⟩⟩
    · simp [Value.cells] at hcs
      obtain ⟨rfl, rfl, rfl⟩ := hcs
      exact ⟨zs, .inr ⟨_, rfl, hl, hm, by simpa using hz, hcell, hwz⟩⟩
  clear hA0 hval0
  refine (walk a0 len0 cap0 z0 W w0).mono fun e W' ⟨he, bel⟩ => ?_
  subst he
  exact ⟨_, rfl, _, _, _, [], _, [], hW', trodAll_mk1 (shut_bool Try.underlying4 _), (trodAll_cons_mk (Below.trod laidOut (by kernel_rfl) (of_decide_eq_true (by kernel_rfl)) k0 bel lt0) trodAll_mk0), rfl, bel.frame _, fun h => by cases h⟩

theorem over : Rows.windowVarianceRow.holds Try.pinned (OpenSpec.ofChange Rows.windowVarianceSpec) :=
  OpenClaim.holds_of_wide 5 Try.f5 rfl rfl rfl rfl rfl rfl rfl ⟨rfl, rfl, rfl, rfl, rfl⟩ rfl rfl rfl rfl rfl (by kernel_rfl) Try.func5 (by kernel_rfl)
    (of_decide_eq_true (by kernel_rfl)) (by unfold Func.isWrapper; first | (rw [if_pos (by decide +kernel)]; kernel_rfl) | (rw [if_neg (by decide +kernel)]; exact ⟨rfl, rfl⟩))
    (fun os started H enc _ => lifted os started H enc)

theorem proved : Rows.WindowVarianceSaid := over
end Go.Proofs.Ytiomiohdeghpiaa.windowVariance
