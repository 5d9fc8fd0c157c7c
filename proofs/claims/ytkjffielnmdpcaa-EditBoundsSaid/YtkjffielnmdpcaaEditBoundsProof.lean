/- That the law EditBounds returns true for every input that can be read, and leaves its arguments as they were; no further condition. -/
import Derived.Test.YtkjffielnmdpcaaRows
import Derived.WalkKit
import Derived.ProofKit
import Derived.OpenShut
import Derived.Test.YtkjffielnmdpcaaWords
import Derived.Test.YtkjffielnmdpcaaSrcNew0
import Derived.Test.YtkjffielnmdpcaaEditAwake
import Derived.ShutString
import Derived.ChangeOld
import Derived.Below
namespace Go.Proofs.Ytkjffielnmdpcaa.editBounds
open Go.ChangeShapes Go.WideShapes Go.ChangeAt Go.RowKit Wo
open Go.ChangeMaps (open_string shut_string)
set_option linter.unusedVariables false

theorem own : ownKnob Try.prog.godebug = none := by kernel_rfl
theorem laidOut : laidOutB Try.prog = true := by kernel_rfl

/-- WHAT THE WALK IS TOLD OF A SLICE OF INTEGERS THAT CAME IN: it is nil; or it leads to a row of 'cap' cells, the numbers 'zs' (the first 'len' are its elements, the rest its spare room), each fitting its kind. -/
def IsRow (k : IntKind) (w : World) (a : Option Addr) (len cap : Nat) (zs : List Int) : Prop :=
  (a = none ∧ len = 0 ∧ cap = 0 ∧ zs = []) ∨
  ∃ x, a = some x ∧ len ≤ cap ∧ cap ≤ maxLen ∧ zs.length = cap ∧ (∀ i, i < zs.length → w.cell? (x.add i) = some (.int k (zs.getD i 0))) ∧ ∀ n ∈ zs, (Lit.int k n).wf = true

open Go.Proofs.Ytkjffielnmdpcaa.Ed Go.Proofs.Ytkjffielnmdpcaa.Wi Go.Proofs.Ytkjffielnmdpcaa.Wo Go.Proofs.Ytkjffielnmdpcaa.Sr in
set_option maxHeartbeats 16000000 in
set_option maxRecDepth 100000 in
theorem walk (a0 : Option Addr) (len0 cap0 : Nat) (z0 : List Int) (w : World) (w0 : IsRow .i64 w a0 len0 cap0 z0) :
    Calls Try.prog 13 #[.slice a0 len0 cap0] w fun e w' => e = .returned (.bool true) ∧ Below w.heap.size w w' := by
  have AW : Hid (∀ W, Calls Try.prog 30 #[] W fun e w' => e = .returned (.bool true) ∧ Bel W w') := awake_any
  go_enter Try.func13, Try.ntmps13
  go_wp2_with fail
  go_at_call 14
  refine (new_any a0 len0 cap0 z0 w w0).mono ?_
  rintro e v1 ⟨q, rfl, hq, ho1, hb1⟩
  have HO := Lib.hid ho1
  have HBa : Hid (Bel w v1) := hb1
  clear ho1 hb1
  go_wp2_with fail
  go_at_call 25
  refine (some_any q _ HO.out).mono ?_
  rintro e v2 ⟨xa, xb, ya, yb, n, m, L, M, g, rfl, n1, n2, m1, m2, hxy, hcx, hcy, g0, g1, hox, hoy, lL, lM, sL, sM, ho2, hc2⟩
  have HBb : Hid (Bel w v2) := Bel.ch HBa.out hc2 (by have := hq;  omega)
  have zx : Zi v2 (some ⟨xa, 0, none⟩) n L := own_zi hox lL
  have zy : Zi v2 (some ⟨ya, 0, none⟩) m M := own_zi hoy lM
  have hxv := hox.lt xa rfl
  have hyv := hoy.lt ya rfl
  have HOX := Lib.hid hox
  have HOY := Lib.hid hoy
  clear ho2 hc2 hox hoy
  have D1 : Hid (∀ W, Bel v2 W → _) := fun W hW => distance_ok (some ⟨xa, 0, none⟩) (some ⟨ya, 0, none⟩) xb yb n m L M g n1 n2 m1 (by omega) g0 g1 sL sM W (zx.bel hW) (zy.bel hW)
  have HSUM : Hid (ab (ov L g n - ov M g m) ≤ et L M g n m) := et_sum L M g _ n m rfl (by omega) (by omega)
  have HDIA : Hid (n = m → et L M g n m ≤ su ax ((df L M).take n)) := fun e => by subst e; exact et_dia L M g (by omega) n (by omega)
  have HNN : Hid (0 ≤ et L M g n m) := et_nn L M g _ n m rfl
  obtain ⟨a, ha⟩ : ∃ a, et L M g n m = a := ⟨_, rfl⟩
  rw [ha] at D1 HSUM HDIA HNN
  have HX := Lib.hid (And.intro zx (And.intro zy (And.intro lL (And.intro lM (And.intro sL sM)))))
  have i1 : 2 ≤ (n : Int) := by omega
  have i2 : (n : Int) ≤ 32 := by omega
  have i3 : 2 ≤ (m : Int) := by omega
  have i4 : (m : Int) ≤ (n : Int) := by omega
  clear ha zx zy lL lM sL sM w0
  go_wp2_with fail
  go_at_call 26
  refine (D1.out _ Bel.rf).mono ?_
  rintro e p1 ⟨rfl, hb⟩
  have HD_p1 : Hid (Bel v2 p1) := hb
  clear hb
  go_wp2
  go_loopw [8, 10, 29] (fun s8 s10 s29 wr => ∃ (t : Nat) (V : World) (p s : Int), V = wr ∧ t ≤ n ∧ s29 = .int .i64 (t : Int) ∧ s8 = .int .i64 p ∧ s10 = .int .i64 s ∧ p = ov L g t ∧ (-(2000 * (t : Int)) ≤ p ∧ p ≤ 2000 * (t : Int)) ∧ (0 ≤ s ∧ s ≤ 2000 * (t : Int)) ∧ (n = m → s = su ax ((df L M).take t)) ∧ Bel v2 wr) (fun _ _ s29 _ => n - (intOf s29).toNat)
  case atStart => exact ⟨0, _, 0, 0, rfl, by omega, rfl, rfl, rfl, by simp [ov, su], by omega, by omega, fun _ => by simp [su], HD_p1.out⟩
  case round =>
    obtain ⟨t, wr, p, s, hwr, ht, rfl, rfl, rfl, hp, hpb, hsb, hs, hb⟩ := hrel
    subst hwr
    have HB := Lib.hid hb
    have HP := Lib.hid hp
    have HS := Lib.hid hs
    obtain ⟨pb0, pb1⟩ := hpb
    obtain ⟨sb0, sb1⟩ := hsb
    rcases Nat.lt_or_ge t n with hlt | hge
    · have c1 := (HX.out.1.bel hb).at t hlt
      have px := HX.out.2.2.2.2.1.at t
      have on := ov_next L g t (by have := HX.out.2.2.1; omega)
      obtain ⟨x, hx⟩ : ∃ x, L.getD t 0 = x := ⟨_, rfl⟩
      rw [hx] at c1 px on
      rw [← hp] at on
      obtain ⟨x0, x1⟩ := px
      have HN : Hid (p + (x - g) = ov L g (t + 1)) := on.symm
      have ti : (t : Int) < (n : Int) := by omega
      rcases Nat.lt_or_ge t m with hm | hm
      · have c2 := (HX.out.2.1.bel hb).at t hm
        have py := HX.out.2.2.2.2.2.at t
        obtain ⟨y, hy⟩ : ∃ x, M.getD t 0 = x := ⟨_, rfl⟩
        rw [hy] at c2 py
        obtain ⟨y0, y1⟩ := py
        obtain ⟨d, hd⟩ : ∃ d, x - y = d := ⟨_, rfl⟩
        have hr := ab_in (x := d) (B := 2000) (by omega) (by omega)
        have HAB : Hid (∀ W, _) := fun W => rabs_ok d (by omega) (by omega) W
        have HSN : Hid (n = m → s + ab d = su ax ((df L M).take (t + 1))) := fun e => by
          have hl : L.length = M.length := by rw [HX.out.2.2.1, HX.out.2.2.2.1, e]
          rw [su_next ax (df L M) t (by rw [df_len hl, HX.out.2.2.1]; omega), df_at hl t (by rw [HX.out.2.2.1]; omega), hx, hy, hd, ← HS.out e]; rfl
        obtain ⟨r, hrr⟩ : ∃ r, ab d = r := ⟨_, rfl⟩
        rw [hrr] at hr HAB HSN
        obtain ⟨r0, r1⟩ := hr
        have tm : (t : Int) < (m : Int) := by omega
        have k1 : IntKind.i64.wrap (x - y) = d := by rw [hd]; exact IntWalk.i64_in _ (by omega)
        have k2 : IntKind.i64.wrap d = d := IntWalk.i64_in _ (by omega)
        have k3 : IntKind.i64.wrap (s + r) = s + r := IntWalk.i64_in _ (by omega)
        have HLET := Lib.hid (And.intro hx (And.intro hy hrr))
        clear hb hp hs hx hy hrr on
        go_wp2
        go_region_held3 (fun w' => w'.cell? ⟨xa, t, none⟩ = some (.int .i64 x) ∧ w'.cell? ⟨ya, t, none⟩ = some (.int .i64 y))
          ((refine ⟨?_, ?_⟩) <;> (repeat (first | exact c1 | exact c2 | (with_reducible refine kp_drwN ?_ _) | (with_reducible refine kp_drw ?_))))
          (first | (go_at_call 32; refine (HAB.out _).mono ?_; rintro e' w9 ⟨rfl, rfl⟩))
        all_goals
          go_wp2
          go_roundw
          case rel => exact ⟨t + 1, _, _, _, rfl, by omega, by go_num, rfl, rfl, HN.out, by omega, by omega, HSN.out, by first | exact HB.out | exact HB.out.drw | exact HB.out.drwN _⟩
          case measure => simp [intOf]; omega
      · have tm : ¬ (t : Int) < (m : Int) := by omega
        have HLET := Lib.hid hx
        clear hb hp hs hx on
        go_wp2
        go_roundw
        case rel => exact ⟨t + 1, _, _, _, rfl, by omega, by go_num, rfl, rfl, HN.out, by omega, by omega, fun e => by omega, by first | exact HB.out | exact HB.out.drw | exact HB.out.drwN _⟩
        case measure => simp [intOf]; omega
    · obtain rfl : t = n := by omega
      clear hb hp hs
      go_wp2
      go_loopw [9, 59] (fun s9 s59 wr => ∃ (t : Nat) (V : World) (q : Int), V = wr ∧ t ≤ m ∧ s59 = .int .i64 (t : Int) ∧ s9 = .int .i64 q ∧ q = ov M g t ∧ (-(2000 * (t : Int)) ≤ q ∧ q ≤ 2000 * (t : Int)) ∧ Bel v2 wr) (fun _ s59 _ => m - (intOf s59).toNat)
      case atStart => exact ⟨0, _, 0, rfl, by omega, rfl, rfl, by simp [ov, su], by omega, HB.out⟩
      case round =>
        obtain ⟨u, wr2, q, hwr, hu, rfl, rfl, hq, hqb, hb⟩ := hrel
        subst hwr
        have HB2 := Lib.hid hb
        have HQ := Lib.hid hq
        obtain ⟨qb0, qb1⟩ := hqb
        rcases Nat.lt_or_ge u m with hlt | hge
        · have c1 := (HX.out.2.1.bel hb).at u hlt
          have px := HX.out.2.2.2.2.2.at u
          have on := ov_next M g u (by have := HX.out.2.2.2.1; omega)
          obtain ⟨x, hx⟩ : ∃ x, M.getD u 0 = x := ⟨_, rfl⟩
          rw [hx] at c1 px on
          rw [← hq] at on
          obtain ⟨x0, x1⟩ := px
          have HN : Hid (q + (x - g) = ov M g (u + 1)) := on.symm
          have ti : (u : Int) < (m : Int) := by omega
          have HLET := Lib.hid hx
          clear hb hq hx on
          go_wp2
          go_roundw
          case rel => exact ⟨u + 1, _, _, rfl, by omega, by go_num, rfl, HN.out, by omega, by first | exact HB2.out | exact HB2.out.drw | exact HB2.out.drwN _⟩
          case measure => simp [intOf]; omega
        · obtain rfl : u = m := by omega
          have hsu := HSUM.out
          rw [← HP.out, ← hq] at hsu
          have HAB : Hid (∀ W, _) := fun W => rabs_ok (p - q) (by omega) (by omega) W
          obtain ⟨r, hrr⟩ : ∃ r, ab (p - q) = r := ⟨_, rfl⟩
          rw [hrr] at hsu HAB
          have k1 : wrap64 (p - q) = p - q := IntWalk.wrap64_in _ (by omega)
          have k2 : decide (r ≤ a) = true := decide_eq_true hsu
          clear hb hq hrr
          rcases Classical.em (t = u) with he | he
          · have h5 := HDIA.out he
            rw [← HS.out he] at h5
            have k3 : decide (a ≤ s) = true := decide_eq_true h5
            subst he
            go_wp2_with fail
            go_at_call 32
            refine (HAB.out _).mono ?_
            rintro e' w9 ⟨rfl, rfl⟩
            go_wp2_with (go_at_call 30; refine (AW.out _).mono ?_; rintro e w9 ⟨rfl, hb9⟩)
            go_ret
            exact ⟨rfl, ((HBb.out.tr HB2.out).tr hb9).bl⟩
          · have h5 : ¬ ((t : Int) = (u : Int)) := by omega
            have k3 : ((t : Int) == (u : Int)) = false := by simp; omega
            have k4 : ((t : Int) != (u : Int)) = true := by simp; omega
            go_wp2_with fail
            go_at_call 32
            refine (HAB.out _).mono ?_
            rintro e' w9 ⟨rfl, rfl⟩
            go_wp2_with (go_at_call 30; refine (AW.out _).mono ?_; rintro e w9 ⟨rfl, hb9⟩)
            go_ret
            exact ⟨rfl, ((HBb.out.tr HB2.out).tr hb9).bl⟩

set_option maxRecDepth 100000 in
theorem lifted (os : Os) (started : os.Started) (H : Type) (enc : TypeId × Value → H) :
    ReturnsInHanded {} Try.checked os 13 .any (Rows.editBoundsSpec.pre6 enc Try.prog Try.f13 Rows.editBoundsRow.domain false) (Rows.editBoundsSpec.post enc Try.prog Try.f13 false true false false) := by
  refine returnsInHanded_of_change (C := Try.checked) own started (by kernel_rfl) Try.func13
    (ChangeSpec.witness6 (enc := enc) (C := Try.checked) false ⟨#[], #[.slice none 0 0], []⟩ 8 (by kernel_rfl) (by kernel_rfl) (by kernel_rfl) (by kernel_rfl)) ?_
  intro W base args ds gs before hval0 hW hcnd _
  have hval : ∀ (j : Nat) t v, Try.f13.params[j]? = some t → args[j]? = some v → Value.okWide Try.prog W .any base t v := hval0
  have hW' := hW
  obtain ⟨p, q, hA0, hV, rfl, hfz, hnd⟩ := hW
  have hA : DataW.TrodAll enc Try.prog W 0 (fun _ => true) true Try.f13.params.toList args.toList ds p := hA0
  rw [Try.params13] at hA hval
  obtain ⟨v0, vs0, d0, ds0, p0, q0, hargs, rfl, rfl, h0, r0⟩ := trodAll_cons hA
  obtain ⟨rfl, rfl, rfl⟩ := trodAll_nil r0
  obtain rfl : args = #[v0] := by cases args; simp_all
  obtain ⟨rfl, rfl⟩ := trodVars_none hV
  obtain ⟨a0, len0, cap0, rfl⟩ := okWide_slice Try.underlying22 (hval 0 22 v0 rfl rfl)
  have k0 := h0
  have lt0 : ∀ x ∈ p0, x.block < W.heap.size := by obtain ⟨m, hm⟩ := k0; exact DataW.trod_lt m _ _ _ hm
  obtain ⟨z0, w0⟩ : ∃ zs, IsRow .i64 W a0 len0 cap0 zs := by
    obtain ⟨fuel, hf⟩ := h0
    rcases open_ints Try.underlying22 Try.underlying3 (by kernel_rfl) hf with ⟨hcs, _⟩ | ⟨x, l, c, zs, hcs, _, hl, hm, hz, _, hcell, hwz⟩
    · simp [Value.cells] at hcs
      obtain ⟨rfl, rfl, rfl⟩ := hcs
      exact ⟨[], .inl ⟨rfl, rfl, rfl, rfl⟩⟩
    · simp [Value.cells] at hcs
      obtain ⟨rfl, rfl, rfl⟩ := hcs
      exact ⟨zs, .inr ⟨_, rfl, hl, hm, by simpa using hz, hcell, hwz⟩⟩
  clear hA0 hval0
  refine (walk a0 len0 cap0 z0 W w0).mono fun e W' ⟨he, bel⟩ => ?_
  subst he
  exact ⟨_, rfl, _, _, _, [], _, [], hW', trodAll_mk1 (shut_bool Try.underlying4 _), (trodAll_cons_mk (Below.trod laidOut (by kernel_rfl) (of_decide_eq_true (by kernel_rfl)) k0 bel lt0) trodAll_mk0), rfl, bel.frame _, fun h => by cases h⟩

theorem over : Rows.editBoundsRow.holds Try.pinned (OpenSpec.ofChange Rows.editBoundsSpec) :=
  OpenClaim.holds_of_wide 13 Try.f13 rfl rfl rfl rfl rfl rfl rfl ⟨rfl, rfl, rfl, rfl, rfl⟩ rfl rfl rfl rfl rfl (by kernel_rfl) Try.func13 (by kernel_rfl)
    (of_decide_eq_true (by kernel_rfl)) (by unfold Func.isWrapper; first | (rw [if_pos (by decide +kernel)]; kernel_rfl) | (rw [if_neg (by decide +kernel)]; exact ⟨rfl, rfl⟩))
    (fun os started H enc _ => lifted os started H enc)

theorem proved : Rows.EditBoundsSaid := over
end Go.Proofs.Ytkjffielnmdpcaa.editBounds
