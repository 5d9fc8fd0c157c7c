/- That the law EnvelopeBands returns true for every input that can be read, and leaves its arguments as they were; no further condition. -/
import Derived.Test.YtiinoiookdhibaaRows
import Derived.WalkKit
import Derived.ProofKit
import Derived.OpenShut
import Derived.Test.YtiinoiookdhibaaWords
import Derived.Test.YtiinoiookdhibaaSrcNew0
import Derived.Test.YtiinoiookdhibaaEnv4
import Derived.Test.YtiinoiookdhibaaR18b
import Derived.ShutString
import Derived.ChangeOld
import Derived.Below
namespace Go.Proofs.Ytiinoiookdhibaa.envelopeBands
open Go.ChangeShapes Go.WideShapes Go.ChangeAt Go.RowKit Wo
open Go.ChangeMaps (open_string shut_string)
set_option linter.unusedVariables false

theorem own : ownKnob Try.prog.godebug = none := by kernel_rfl
theorem laidOut : laidOutB Try.prog = true := by kernel_rfl

/-- WHAT THE WALK IS TOLD OF A SLICE OF INTEGERS THAT CAME IN: it is nil; or it leads to a row of 'cap' cells, the numbers 'zs' (the first 'len' are its elements, the rest its spare room), each fitting its kind. -/
def IsRow (k : IntKind) (w : World) (a : Option Addr) (len cap : Nat) (zs : List Int) : Prop :=
  (a = none ∧ len = 0 ∧ cap = 0 ∧ zs = []) ∨
  ∃ x, a = some x ∧ len ≤ cap ∧ cap ≤ maxLen ∧ zs.length = cap ∧ (∀ i, i < zs.length → w.cell? (x.add i) = some (.int k (zs.getD i 0))) ∧ ∀ n ∈ zs, (Lit.int k n).wf = true

section
open Go.Proofs.Ytiinoiookdhibaa.Wi
theorem pp_zero (X Y : List Int) (m n : Nat) : tq (fun k => (pp Y X X m n).getD k 0 * (pp Y X X m n).getD k 0 * wq (m / n) (st m n (k + 1) - st m n k)) n = tq (fun k => (df (pls X m n) (pls Y m n)).getD k 0 * (df (pls X m n) (pls Y m n)).getD k 0 * wq (m / n) (st m n (k + 1) - st m n k)) n := by
  refine tq_cong (n := n) (fun k hk => ?_) n (Nat.le_refl n)
  show (pp Y X X m n).getD k 0 * (pp Y X X m n).getD k 0 * _ = (df (pls X m n) (pls Y m n)).getD k 0 * (df (pls X m n) (pls Y m n)).getD k 0 * _
  congr 1
  rw [pp_at _ _ _ _ _ _ hk, df_at (by rw [pls_len, pls_len]) k (by rw [pls_len]; exact hk)]
  obtain ⟨a, ha⟩ : ∃ a, (pls X m n).getD k 0 = a := ⟨_, rfl⟩
  obtain ⟨b, hb⟩ : ∃ a, (pls Y m n).getD k 0 = a := ⟨_, rfl⟩
  rw [ha, hb]
  unfold ps
  rcases Int.le_total a b with h | h
  · have e : max (max 0 (b - a)) (a - b) = b - a := by omega
    rw [e]; grind
  · have e : max (max 0 (b - a)) (a - b) = a - b := by omega
    rw [e]
end
open Go.Proofs.Ytiinoiookdhibaa.R18 Go.Proofs.Ytiinoiookdhibaa.R12 in
open Go.Proofs.Ytiinoiookdhibaa.Ev Go.Proofs.Ytiinoiookdhibaa.Pc Go.Proofs.Ytiinoiookdhibaa.Eu Go.Proofs.Ytiinoiookdhibaa.Wi Go.Proofs.Ytiinoiookdhibaa.Wo Go.Proofs.Ytiinoiookdhibaa.Sr Go.Proofs.Ytiinoiookdhibaa.Ra in
set_option maxHeartbeats 4000000 in
set_option maxRecDepth 100000 in
theorem walk (a0 : Option Addr) (len0 cap0 : Nat) (z0 : List Int) (a1 : Int) (w : World) (w0 : IsRow .i64 w a0 len0 cap0 z0) (w1 : (Lit.int .u8 a1).wf = true) :
    Calls Try.prog 12 #[.slice a0 len0 cap0, .int .u8 a1] w fun e w' => e = .returned (.bool true) ∧ Below w.heap.size w w' := by
  obtain ⟨i1, i2⟩ := bounds_u8 w1
  have HW1 := Lib.hid w1
  clear w1
  obtain ⟨pl, rfl⟩ := Int.eq_ofNat_of_zero_le i1
  have AW : Hid (∀ W, Calls Try.prog 29 #[] W fun e w' => e = .returned (.bool true) ∧ Bel W w') := Go.Proofs.Ytiinoiookdhibaa.Ev.awake_any
  go_enter Try.func12, Try.ntmps12
  go_wp2_with fail
  go_at_call 14
  refine (new_any a0 len0 cap0 z0 w w0).mono ?_
  rintro e v1 ⟨g, rfl, hg, ho1, hb1⟩
  have HO1 := Lib.hid ho1
  have HB1 := Lib.hid hb1
  clear ho1 hb1 w0
  go_wp2_with fail
  go_at_call 27
  refine (uneven_any g _ HO1.out).mono ?_
  rintro e v2 ⟨xa, xb, ya, yb, n, m, L, M, k, rfl, n1, n2, m1, m2, hne, hcx, hcy, k0, k32, kb1, kb2, hox, hoy, lL, lM, sL, sM, ho2, hc2⟩
  have HB2 : Hid (Bel w v2) := Bel.ch HB1.out hc2 hg
  have hgv := HO1.out.lt
  have HO2 := Lib.hid ho2
  have HLL := Lib.hid (And.intro lL (And.intro lM (And.intro sL sM)))
  have ni1 : 2 ≤ (n : Int) := by omega
  have ni2 : (n : Int) ≤ 32 := by omega
  have mi1 : 2 ≤ (m : Int) := by omega
  have mi2 : (m : Int) ≤ 32 := by omega
  have HZX := Lib.hid (own_zi hox lL)
  have HZY := Lib.hid (own_zi hoy lM)
  have hgx : xa ≠ g := by have := (hox.lt xa rfl).1; omega
  have hgy : ya ≠ g := by have := (hoy.lt ya rfl).1; omega
  clear ho2 hc2 hox hoy lL lM sL sM
  obtain ⟨z, hz⟩ : ∃ z, k + (pl : Int) = z := ⟨_, rfl⟩
  have z0 : k ≤ z := by omega
  have z1 : z ≤ 300 := by omega
  obtain ⟨K2, hK2⟩ : ∃ K2, (if z < 32 then z else 32) = K2 := ⟨_, rfl⟩
  have k20 : k ≤ K2 ∧ K2 ≤ 32 := by rw [← hK2]; split <;> omega
  have hQ3 : min 32 z = K2 := by rw [← hK2]; split <;> omega
  have wz : IntKind.i64.wrap z = z := IntWalk.i64_in _ (by omega)
  have wz2 : wrap64 z = z := IntWalk.wrap64_in _ (by omega)
  have HK2 := Lib.hid k20
  clear k20
  go_wp2_with fail
  go_at_call 31
  refine (keogh_ok xa ya xb yb n m L M k n1 n2 m1 m2 k0 k32 kb1 kb2 HLL.out.2.2.1 HLL.out.2.2.2 _ HZX.out HZY.out).mono ?_
  rintro e v3 ⟨U, Lo, rfl, he, hb⟩
  have HE := Lib.hid he
  have HB3 := Lib.hid (HB2.out.tr hb)
  have HO3 := Lib.hid (HO2.out.bel hb)
  have HX3 := Lib.hid (HZX.out.bel hb)
  have HY3 := Lib.hid (HZY.out.bel hb)
  obtain ⟨s1, hs1⟩ : ∃ z, kv M U Lo = z := ⟨_, rfl⟩
  rw [hs1]
  have HS1 := Lib.hid hs1
  clear he hb hs1 HZX HZY
  go_wp2_with fail
  go_at_call 31
  refine (keogh_ok xa ya xb yb n m L M K2 n1 n2 m1 m2 (by have := HK2.out; omega) (by have := HK2.out; omega) (by have := HK2.out; omega) (by have := HK2.out; omega) HLL.out.2.2.1 HLL.out.2.2.2 _ HX3.out HY3.out).mono ?_
  rintro e v4 ⟨U2, Lo2, rfl, he, hb⟩
  have hle : kv M U2 Lo2 ≤ s1 := by
    rw [← HS1.out]
    exact kv_mono (fun j hj => HE.out.wide he (by have := HK2.out; omega) j (by rw [← HLL.out.2.1]; exact hj))
  have HB4 := Lib.hid (HB3.out.tr hb)
  have HO4 := Lib.hid (HO3.out.bel hb)
  have HX4 := Lib.hid (HX3.out.bel hb)
  have HY4 := Lib.hid (HY3.out.bel hb)
  obtain ⟨s2, hs2⟩ : ∃ z, kv M U2 Lo2 = z := ⟨_, rfl⟩
  rw [hs2] at hle
  rw [hs2]
  have dl : ¬ s1 < s2 := by omega
  have dl2 : decide (s1 < s2) = false := by simpa using hle
  clear he hb hs2 HX3 HY3 hle hz hK2 hQ3 wz wz2
  rcases Classical.em (n = m) with hnm | hnm
  · subst hnm
    have nn := ne_self (n : Int)
    obtain ⟨Z, hZ⟩ : ∃ Z : Nat, min 8 n = Z := ⟨_, rfl⟩
    have hQ1 : (if (n : Int) < 8 then (n : Int) else 8) = (Z : Int) := by split <;> omega
    have hQ4 : min (8 : Int) (n : Int) = (Z : Int) := by omega
    have HOK := Lib.hid (show Ok v4 g from HO4.out)
    go_wp2_with fail
    go_at_call 30
    refine (range_any g 1 (Z : Int) (by omega) (by omega) (by omega) _ HOK.out).mono ?_
    rintro e v5 ⟨x, rfl, hx0, hx1, ho3, hc3⟩
    obtain ⟨r, rfl⟩ := Int.eq_ofNat_of_zero_le (show 0 ≤ x by omega)
    have HB5 : Hid (Bel w v5) := Bel.ch HB4.out hc3 hg
    have r1 : 1 ≤ r := by omega
    have r8 : r ≤ 8 := by omega
    have rm : r ≤ n := by omega
    have ri1 : 1 ≤ (r : Int) := by omega
    have ri8 : (r : Int) ≤ 8 := by omega
    have zx := HX4.out.ch hc3 (fun ad e => by cases e; exact hgx)
    have zy := HY4.out.ch hc3 (fun ad e => by cases e; exact hgy)
    have G1 : Hid (∀ W, Bel v5 W → _) := fun W hW => keogh_ok xa ya xb yb n n L M 0 n1 n2 n1 n2 (by decide) (by decide) (by omega) (by omega) HLL.out.2.2.1 HLL.out.2.2.2 W (zx.bel hW) (zy.bel hW)
    have G2 : Hid (∀ W, Bel v5 W → _) := fun W hW => pieces_ok xa ya xb yb n n r L M 0 n1 n2 n1 n2 (by decide) (by decide) (by omega) (by omega) r1 r8 rm hcy HLL.out.2.2.1 HLL.out.2.2.2 W (zx.bel hW) (zy.bel hW)
    have G3 : Hid (∀ W, Bel v5 W → _) := fun W hW => R12.rdistance_ok (some ⟨xa, 0, none⟩) (some ⟨ya, 0, none⟩) xb yb n L M n1 n2 HLL.out.2.2.1 HLL.out.2.2.2 W (zx.bel hW) (zy.bel hW)
    have G4 : Hid (∀ W, Bel v5 W → _) := fun W hW => R18.lower_ok xa ya xb yb n r L M n1 n2 r1 r8 rm HLL.out.2.2.1 HLL.out.2.2.2 W (zx.bel hW) (zy.bel hW)
    have hlm : L.length = M.length := by rw [HLL.out.1, HLL.out.2.1]
    rw [← kv_zero L M hlm] at G3
    rw [← pp_zero L M n r] at G4
    have HEZ : Hid (∀ U Lo, Env L 0 n U Lo → U = L ∧ Lo = L) := fun U Lo h => env_zero (by rw [HLL.out.1]; exact h)
    clear hx0 hx1 ho3 hc3 hZ hQ1 hQ4 zx zy hlm HX4 HY4 nn dl dl2
    go_wp2_with fail
    go_at_call 31
    refine (G1.out _ Bel.rf).mono ?_
    rintro e q1 ⟨U0, L0, rfl, he, hb⟩
    obtain ⟨rfl, rfl⟩ := HEZ.out _ _ he
    have K1 : Hid (Bel v5 q1) := hb
    obtain ⟨s3, hs3⟩ : ∃ z, kv M L0 L0 = z := ⟨_, rfl⟩
    rw [hs3] at G3 ⊢
    clear he hb
    go_wp2_with fail
    go_at_call 33
    refine (G2.out _ K1.out).mono ?_
    rintro e q2 ⟨U3, L3, t, u, rfl, he, hv, hb⟩
    obtain ⟨rfl, rfl⟩ := HEZ.out _ _ he
    have K2' : Hid (Bel v5 q2) := K1.out.tr hb
    have V2 := Lib.hid hv
    have D2 := Lib.hid (Bk.nw q2 36 #[.int .i64 t, .int .i64 u])
    clear he hb hv
    go_wp2_with fail
    go_at_call 35
    refine (G3.out _ (K2'.out.al _)).mono ?_
    rintro e q3 ⟨rfl, hb⟩
    have K3 : Hid (Bel v5 q3) := Bel.tr (K2'.out.al _) hb
    have D3 := Lib.hid (D2.out.bel hb)
    clear hb
    go_wp2_with fail
    go_at_call 36
    refine (G4.out _ K3.out).mono ?_
    rintro e q4 ⟨t', u', rfl, hv, hb⟩
    obtain ⟨rfl, rfl⟩ := vl_eq (cq_in n r r1 rm n2).1 V2.out hv
    have K4 : Hid (Bel v5 q4) := K3.out.tr hb
    have D4 := (D3.out.bel hb).al (.cells #[.int .i64 t, .int .i64 u] 36)
    have D5 := Bk.nw q4 36 #[.int .i64 t, .int .i64 u]
    have f1 := D4.cell 0
    have f2 := D4.cell 1
    have f3 := D5.cell 0
    have f4 := D5.cell 1
    have K5 : Hid (Bel v5 (q4.alloc (.cells #[.int .i64 t, .int .i64 u] 36))) := K4.out.al _
    clear hb hv D4 D5
    go_wp2_with (go_at_call 29; refine (AW.out _).mono ?_; rintro e w9 ⟨rfl, hb9⟩)
    go_ret
    exact ⟨rfl, ((HB5.out.tr K5.out).tr hb9).bl⟩
  · have nn : ((n : Int) != (m : Int)) = true := by
      have h : (n : Int) ≠ (m : Int) := fun e => hnm (Int.ofNat.inj e)
      simpa using h
    go_wp2_with (go_at_call 29; refine (AW.out _).mono ?_; rintro e w9 ⟨rfl, hb9⟩)
    go_ret
    exact ⟨rfl, (HB4.out.tr hb9).bl⟩

set_option maxRecDepth 100000 in
theorem lifted (os : Os) (started : os.Started) (H : Type) (enc : TypeId × Value → H) :
    ReturnsInHanded {} Try.checked os 12 .any (Rows.envelopeBandsSpec.pre6 enc Try.prog Try.f12 Rows.envelopeBandsRow.domain false) (Rows.envelopeBandsSpec.post enc Try.prog Try.f12 false true false false) := by
  refine returnsInHanded_of_change (C := Try.checked) own started (by kernel_rfl) Try.func12
    (ChangeSpec.witness6 (enc := enc) (C := Try.checked) false ⟨#[], #[.slice none 0 0, .int .u8 0], []⟩ 8 (by kernel_rfl) (by kernel_rfl) (by kernel_rfl) (by kernel_rfl)) ?_
  intro W base args ds gs before hval0 hW hcnd _
  have hval : ∀ (j : Nat) t v, Try.f12.params[j]? = some t → args[j]? = some v → Value.okWide Try.prog W .any base t v := hval0
  have hW' := hW
  obtain ⟨p, q, hA0, hV, rfl, hfz, hnd⟩ := hW
  have hA : DataW.TrodAll enc Try.prog W 0 (fun _ => true) true Try.f12.params.toList args.toList ds p := hA0
  rw [Try.params12] at hA hval
  obtain ⟨v0, vs0, d0, ds0, p0, q0, hargs, rfl, rfl, h0, r0⟩ := trodAll_cons hA
  obtain ⟨v1, vs1, d1, ds1, p1, q1, rfl, rfl, rfl, h1, r1⟩ := trodAll_cons r0
  obtain ⟨rfl, rfl, rfl⟩ := trodAll_nil r1
  obtain rfl : args = #[v0, v1] := by cases args; simp_all
  obtain ⟨rfl, rfl⟩ := trodVars_none hV
  obtain ⟨a0, len0, cap0, rfl⟩ := okWide_slice Try.underlying22 (hval 0 22 v0 rfl rfl)
  have k0 := h0
  have lt0 : ∀ x ∈ p0, x.block < W.heap.size := by obtain ⟨m, hm⟩ := k0; exact DataW.trod_lt m _ _ _ hm
  obtain ⟨z0, w0⟩ : ∃ zs, IsRow .i64 W a0 len0 cap0 zs := by
    obtain ⟨fuel, hf⟩ := h0
    rcases open_ints Try.underlying22 Try.underlying3 (by kernel_rfl) hf with ⟨hcs, _⟩ | ⟨x, l, c, zs, hcs, _, hl, hm, hz, _, hcell, hwz⟩
    · simp [Value.cells] at hcs
      obtain ⟨rfl, rfl, rfl⟩ := hcs
      exact ⟨[], .inl ⟨rfl, rfl, rfl, rfl⟩⟩
    · simp [Value.cells] at hcs
      obtain ⟨rfl, rfl, rfl⟩ := hcs
      exact ⟨zs, .inr ⟨_, rfl, hl, hm, by simpa using hz, hcell, hwz⟩⟩
  obtain ⟨a1, rfl, rfl, rfl, w1⟩ := open_int Try.underlying5 (hval 1 5 v1 rfl rfl) h1
  clear hA0 hval0
  refine (walk a0 len0 cap0 z0 a1 W w0 w1).mono fun e W' ⟨he, bel⟩ => ?_
  subst he
  exact ⟨_, rfl, _, _, _, [], _, [], hW', trodAll_mk1 (shut_bool Try.underlying4 _), (trodAll_cons_mk (Below.trod laidOut (by kernel_rfl) (of_decide_eq_true (by kernel_rfl)) k0 bel lt0) (trodAll_cons_mk (shut_int Try.underlying5 w1) trodAll_mk0)), rfl, bel.frame _, fun h => by cases h⟩

theorem over : Rows.envelopeBandsRow.holds Try.pinned (OpenSpec.ofChange Rows.envelopeBandsSpec) :=
  OpenClaim.holds_of_wide 12 Try.f12 rfl rfl rfl rfl rfl rfl rfl ⟨rfl, rfl, rfl, rfl, rfl⟩ rfl rfl rfl rfl rfl (by kernel_rfl) Try.func12 (by kernel_rfl)
    (of_decide_eq_true (by kernel_rfl)) (by unfold Func.isWrapper; first | (rw [if_pos (by decide +kernel)]; kernel_rfl) | (rw [if_neg (by decide +kernel)]; exact ⟨rfl, rfl⟩))
    (fun os started H enc _ => lifted os started H enc)

theorem proved : Rows.EnvelopeBandsSaid := over
end Go.Proofs.Ytiinoiookdhibaa.envelopeBands
