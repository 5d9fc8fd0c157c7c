/- That the law CodecPacks returns true for every input that can be read, and leaves its arguments as they were; no further condition. -/
import Derived.Test.YtoacbboidigphaaRows
import Derived.WalkKit
import Derived.ProofKit
import Derived.OpenShut
import Derived.Test.YtoacbboidigphaaWords
import Derived.Test.YtoacbboidigphaaPackRow
import Derived.Test.YtoacbboidigphaaCodecAwake
import Derived.ShutString
import Derived.ChangeOld
import Derived.Below
namespace Go.Proofs.Ytoacbboidigphaa.codecPacks
open Go.ChangeShapes Go.WideShapes Go.ChangeAt Go.RowKit Wo
open Go.ChangeMaps (open_string shut_string)
set_option linter.unusedVariables false

theorem own : ownKnob Try.prog.godebug = none := by kernel_rfl
theorem laidOut : laidOutB Try.prog = true := by kernel_rfl

/-- WHAT THE WALK IS TOLD OF A SLICE OF INTEGERS THAT CAME IN: it is nil; or it leads to a row of 'cap' cells, the numbers 'zs' (the first 'len' are its elements, the rest its spare room), each fitting its kind. -/
def IsRow (k : IntKind) (w : World) (a : Option Addr) (len cap : Nat) (zs : List Int) : Prop :=
  (a = none ∧ len = 0 ∧ cap = 0 ∧ zs = []) ∨
  ∃ x, a = some x ∧ len ≤ cap ∧ cap ≤ maxLen ∧ zs.length = cap ∧ (∀ i, i < zs.length → w.cell? (x.add i) = some (.int k (zs.getD i 0))) ∧ ∀ n ∈ zs, (Lit.int k n).wf = true

open Go.Proofs.Ytoacbboidigphaa.Pk Go.Proofs.Ytoacbboidigphaa.Cd Go.Proofs.Ytoacbboidigphaa.Wo Go.Proofs.Ytoacbboidigphaa.By Go.Proofs.Ytoacbboidigphaa.Sr Go.Proofs.Ytoacbboidigphaa.Bm in
set_option maxHeartbeats 16000000 in
set_option maxRecDepth 100000 in
theorem walk (a0 : Option Addr) (len0 cap0 : Nat) (z0 : List Int) (w : World) (w0 : IsRow .i64 w a0 len0 cap0 z0) :
    Calls Try.prog 4 #[.slice a0 len0 cap0] w fun e w' => e = .returned (.bool true) ∧ Below w.heap.size w w' := by
  obtain ⟨i0, hi0, hz0, hz1, hz2⟩ := info_parts info_int
  have HI := Lib.hid (And.intro hi0 (And.intro hz0 (And.intro hz1 hz2)))
  clear hi0 hz0 hz1 hz2
  have AW : Hid (∀ W, Calls Try.prog 8 #[] W fun e w' => e = .returned (.bool true) ∧ Bel W w') := awake_any
  go_enter Try.func4, Try.ntmps4
  go_wp2_with fail
  go_at_call 11
  refine (new_any a0 len0 cap0 z0 w w0).mono ?_
  rintro e w1 ⟨g, rfl, hg, ho1, hb1⟩
  have HO1 := Lib.hid ho1
  have HB1 := Lib.hid hb1
  clear ho1 hb1 w0
  go_wp2_with fail
  go_at_call 12
  refine (n_any g 60 (by decide) (by decide) _ HO1.out).mono ?_
  rintro e w2 ⟨n0, rfl, hn0, hn1, ho2, hc2⟩
  have HR0 : Hid (RowI n0 524288 g w2.heap.size w (.slice none 0 0) (.int .i64 n0) w2) :=
    ⟨0, [], _, _, rfl, rfl, by omega, by congr 1; omega, World.ownsRow_nil _ _ _ _, rfl, by simp, ho2, Bel.ch HB1.out hc2 hg, Nat.le_refl _⟩
  have hgb : g < w2.heap.size := ho2.lt
  clear ho2 hc2 HO1 HB1
  go_wp2
  go_loopw [4, 5] (fun s4 s5 wr => RowI n0 524288 g w2.heap.size w s4 s5 wr) (fun _ s5 _ => (intOf s5).toNat)
  case atStart => exact HR0.out
  case round =>
    clear HR0
    obtain ⟨k, L, wr, u4, hwr, hu4, hk, rfl, hown, hL, hv, hog, hb, hbase⟩ := hrel
    subst hwr hu4
    have HO := Lib.hid hown
    have HL := Lib.hid hL
    have HV := Lib.hid hv
    have HG := Lib.hid hog
    have HB := Lib.hid hb
    clear hown hL hv hog hb
    rcases Int.lt_or_le 0 (n0 - k) with hpos | hneg
    · have bn : decide (0 < n0 - (k : Int)) = true := decide_eq_true (by omega)
      go_wp2_with fail
      go_at_call 12
      refine (n_any g 20 (by decide) (by decide) _ HG.out).mono ?_
      rintro e w3 ⟨x0, rfl, hx0, hx1, ho3, hc3⟩
      obtain ⟨x, rfl⟩ := Int.eq_ofNat_of_zero_le hx0
      obtain ⟨sh1, sh2, sh3⟩ := shl_one (show x < 20 by omega)
      obtain ⟨p, hp⟩ : ∃ p, 2 ^ x = p := ⟨_, rfl⟩
      rw [hp] at sh1 sh2 sh3
      have HP := Lib.hid hp
      have HO3 := Lib.hid ho3
      have HC3 := Lib.hid hc3
      clear ho3 hc3 hp
      go_wp2_with fail
      go_at_call 12
      refine (n_any g _ (by omega) (by omega) _ HO3.out).mono ?_
      rintro e w4 ⟨y0, rfl, hy0, hy1, ho4, hc4⟩
      obtain ⟨y, rfl⟩ := Int.eq_ofNat_of_zero_le hy0
      have HO4 := Lib.hid ho4
      have HC4 := Lib.hid (HC3.out.tr hc4)
      have hown1 := HO.out.kept HC4.out (by
        rcases hob : u4.ownBlock with _ | q
        · exact .inl rfl
        · exact .inr (fun e => by injection e with e; have := (HO.out.lt q hob).1; omega))
      have hsz := HC4.out.sz
      have HOW := Lib.hid hown1
      clear ho4 hc4 hown1
      go_wp2_with (at_builtin; refine wpList_append_lies _ (by rfl) _ _ 29 (by rfl) w2.heap.size 3 i0 _ 1 8 Try.underlying29 HI.out.1 HI.out.2.1 HI.out.2.2.1 HI.out.2.2.2 (by rfl) (by omega) u4 k (nums L) (by rfl) (HOW.out.alloc _) ⟨w4.heap.size, 0, none⟩ 1 1 [.int .i64 (y : Int)] (by rfl) (by rfl) (World.news_of_block (cs := #[.int .i64 (y : Int)]) (t := 3) (fr := (0, 0)) (heap_alloc_new w4 _)) (by simp [Value.oneCell']) (by omega) (by unfold maxLen; omega) (by omega) (by simp; omega) (w4.heap.size + 1) (by simp) ?_; intro h cap w5 hown4 hgrow hat hlt4)
      have hstep := rowi_step (n0 := n0) (m := 524288) (n := y) hgb hg (by omega) HL.out HV.out (by omega) HO.out HO4.out HC4.out HB.out hbase hown4 hgrow
      have HST := Lib.hid hstep
      clear hstep hown4 hgrow hat
      go_wp2
      go_roundw
      case rel => exact HST.out
      case measure => simp [intOf]; omega
    · obtain rfl : n0 = (k : Int) := by omega
      obtain ⟨A, c, rfl, hri, -⟩ := row_ri HO.out HL.out
      obtain rfl : L.length = k := HL.out
      have h2 : L.length ≤ 2000 := by omega
      have h59 : (L.length : Int) ≤ 60 := by omega
      have h19 := wd_19 HV.out
      have WD : Hid (∀ W, Bel wr W → Calls Try.prog 13 #[.slice A L.length c] W fun e w' => e = .returned (.int .i64 (wd L : Int)) ∧ W = w') := fun W hW => width_any A c L (by omega) (fun n hn => by have := HV.out n hn; omega) W (Ri.bel hri hW)
      have P0 : Hid _ := pack_short (c := c) h2 HV.out hri
      obtain ⟨N, hN⟩ : ∃ N, (L.length * wd L + 7) / 8 = N := ⟨_, rfl⟩
      obtain ⟨r, hr⟩ : ∃ r, wd L + 1 = r := ⟨_, rfl⟩
      obtain ⟨M, hM⟩ : ∃ N, (L.length * r + 7) / 8 = N := ⟨_, rfl⟩
      have P1 : Hid _ := pack_ok (c := c) hN h2 (by omega) HV.out (Nat.le_refl _) hri
      have P2 : Hid _ := pack_ok (c := c) hM h2 (by omega) HV.out (by omega) hri
      have U1 : Hid (∀ A' c' W, Rd W A' N (packed L (wd L)) → _) := fun A' c' W hW => unpack_ok (A := A') (c := c') hN h2 (by omega) HV.out (Nat.le_refl _) W hW
      have U2 : Hid (∀ A' c' W, Rd W A' M (packed L r) → _) := fun A' c' W hW => unpack_ok (A := A') (c := c') hM h2 (by omega) HV.out (by omega) W hW
      have IS : Hid (∀ A' c' W, Bel wr W → Ri W A' L.length L → _) := fun A' c' W hW hX => ints_same A A' c c' L.length L (by omega) W (Ri.bel hri hW) hX
      generalize hq : wd L = q at *
      have qN : ((L.length * q : Nat) : Int) ≤ 1140 := by
        have : L.length * q ≤ 60 * 19 := Nat.mul_le_mul (by omega) h19
        omega
      have HN := Lib.hid hN
      have HQ := Lib.hid (And.intro hq hM)
      have ri : (r : Int) = (q : Int) + 1 := by omega
      have mi : min (32 : Int) ((q : Int) + 1) = (r : Int) := by omega
      have HRI := Lib.hid hri
      clear HO HL HV hri hN hM hq HI
      have qi : (q : Int) ≤ 19 := by omega
      have q0 : (0 : Int) ≤ (q : Int) := by omega
      go_wp2_with fail
      go_at_call 13
      refine (WD.out _ Bel.rf).mono ?_
      rintro e w' ⟨rfl, rfl⟩
      go_wp2_with fail
      go_at_call 14
      refine (P1.out _ Bel.rf).mono ?_
      rintro e v1 ⟨h1, rfl, hr1, -, hb1⟩
      have HR1 := Lib.hid hr1
      have HX1 := Lib.hid hb1
      clear hr1 hb1
      go_wp2_with fail
      go_at_call 15
      refine (U1.out _ _ _ HR1.out).mono ?_
      rintro e v2 ⟨g2, rfl, hr2, hb2⟩
      have HR2 := Lib.hid hr2
      have HX2 := Lib.hid (HX1.out.tr hb2)
      clear hr2 hb2
      go_wp2_with fail
      go_at_call 14
      refine (P0.out _ HX2.out).mono ?_
      rintro e v3 ⟨rfl, hb3⟩
      have HX3 := Lib.hid (HX2.out.tr hb3)
      have HB3 := Lib.hid hb3
      clear hb3
      clear ri hr
      go_wp2_with fail
      go_at_call 14
      refine (P2.out _ HX3.out).mono ?_
      rintro e v4 ⟨h4, rfl, hr4, -, hb4⟩
      have HR4 := Lib.hid hr4
      have HX4 := Lib.hid (HX3.out.tr hb4)
      have HB4 := Lib.hid (HB3.out.tr hb4)
      clear hr4 hb4
      go_wp2_with fail
      go_at_call 15
      refine (U2.out _ _ _ HR4.out).mono ?_
      rintro e v5 ⟨g5, rfl, hr5, hb5⟩
      have HR5 := Lib.hid hr5
      have HX5 := Lib.hid (HX4.out.tr hb5)
      have HR2b := Lib.hid (Ri.bel HR2.out (HB4.out.tr hb5))
      clear hr5 hb5
      go_wp2_with fail
      go_at_call 16
      refine (IS.out _ _ _ HX5.out HR2b.out).mono ?_
      rintro e v6 ⟨rfl, hb6⟩
      have HX6 := Lib.hid (HX5.out.tr hb6)
      have HR5b := Lib.hid (Ri.bel HR5.out hb6)
      clear hb6
      have nq : ((N : Int) == ((L.length : Int) * (q : Int) + 7) / 8) = true := by
        have h := HN.out
        rw [beq_iff_eq, ← h]
        simp
      go_wp2_with fail
      go_at_call 16
      refine (IS.out _ _ _ HX6.out HR5b.out).mono ?_
      rintro e v7 ⟨rfl, hb7⟩
      have HX7 := Lib.hid (HX6.out.tr hb7)
      clear hb7
      go_wp2_with (go_at_call 8; refine (AW.out _).mono ?_; rintro e w9 ⟨rfl, hb9⟩)
      go_ret
      exact ⟨rfl, ((HB.out.tr HX7.out).tr hb9).bl⟩

set_option maxRecDepth 100000 in
theorem lifted (os : Os) (started : os.Started) (H : Type) (enc : TypeId × Value → H) :
    ReturnsInHanded {} Try.checked os 4 .any (Rows.codecPacksSpec.pre6 enc Try.prog Try.f4 Rows.codecPacksRow.domain false) (Rows.codecPacksSpec.post enc Try.prog Try.f4 false true false false) := by
  refine returnsInHanded_of_change (C := Try.checked) own started (by kernel_rfl) Try.func4
    (ChangeSpec.witness6 (enc := enc) (C := Try.checked) false ⟨#[], #[.slice none 0 0], []⟩ 8 (by kernel_rfl) (by kernel_rfl) (by kernel_rfl) (by kernel_rfl)) ?_
  intro W base args ds gs before hval0 hW hcnd _
  have hval : ∀ (j : Nat) t v, Try.f4.params[j]? = some t → args[j]? = some v → Value.okWide Try.prog W .any base t v := hval0
  have hW' := hW
  obtain ⟨p, q, hA0, hV, rfl, hfz, hnd⟩ := hW
  have hA : DataW.TrodAll enc Try.prog W 0 (fun _ => true) true Try.f4.params.toList args.toList ds p := hA0
  rw [Try.params4] at hA hval
  obtain ⟨v0, vs0, d0, ds0, p0, q0, hargs, rfl, rfl, h0, r0⟩ := trodAll_cons hA
  obtain ⟨rfl, rfl, rfl⟩ := trodAll_nil r0
  obtain rfl : args = #[v0] := by cases args; simp_all
  obtain ⟨rfl, rfl⟩ := trodVars_none hV
  obtain ⟨a0, len0, cap0, rfl⟩ := okWide_slice Try.underlying29 (hval 0 29 v0 rfl rfl)
  have k0 := h0
  have lt0 : ∀ x ∈ p0, x.block < W.heap.size := by obtain ⟨m, hm⟩ := k0; exact DataW.trod_lt m _ _ _ hm
  obtain ⟨z0, w0⟩ : ∃ zs, IsRow .i64 W a0 len0 cap0 zs := by
    obtain ⟨fuel, hf⟩ := h0
    rcases open_ints Try.underlying29 Try.underlying3 (by kernel_rfl) hf with ⟨hcs, _⟩ | ⟨x, l, c, zs, hcs, _, hl, hm, hz, _, hcell, hwz⟩
    · simp [Value.cells] at hcs
      obtain ⟨rfl, rfl, rfl⟩ := hcs
      exact ⟨[], .inl ⟨rfl, rfl, rfl, rfl⟩⟩
    · simp [Value.cells] at hcs
      obtain ⟨rfl, rfl, rfl⟩ := hcs
      exact ⟨zs, .inr ⟨_, rfl, hl, hm, by simpa using hz, hcell, hwz⟩⟩
  clear hA0 hval0
  refine (walk a0 len0 cap0 z0 W w0).mono fun e W' ⟨he, bel⟩ => ?_
  subst he
  exact ⟨_, rfl, _, _, _, [], _, [], hW', trodAll_mk1 (shut_bool Try.underlying4 _), (trodAll_cons_mk (Below.trod laidOut (by kernel_rfl) (of_decide_eq_true (by kernel_rfl)) k0 bel lt0) trodAll_mk0), rfl, bel.frame _, fun h => by cases h⟩

theorem over : Rows.codecPacksRow.holds Try.pinned (OpenSpec.ofChange Rows.codecPacksSpec) :=
  OpenClaim.holds_of_wide 4 Try.f4 rfl rfl rfl rfl rfl rfl rfl ⟨rfl, rfl, rfl, rfl, rfl⟩ rfl rfl rfl rfl rfl (by kernel_rfl) Try.func4 (by kernel_rfl)
    (of_decide_eq_true (by kernel_rfl)) (by unfold Func.isWrapper; first | (rw [if_pos (by decide +kernel)]; kernel_rfl) | (rw [if_neg (by decide +kernel)]; exact ⟨rfl, rfl⟩))
    (fun os started H enc _ => lifted os started H enc)

theorem proved : Rows.CodecPacksSaid := over
end Go.Proofs.Ytoacbboidigphaa.codecPacks
