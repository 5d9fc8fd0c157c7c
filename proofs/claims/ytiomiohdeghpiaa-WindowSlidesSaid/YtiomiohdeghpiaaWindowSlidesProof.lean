/- That the law WindowSlides returns true for every input that can be read, and leaves its arguments as they were; no further condition. -/
import Derived.Test.YtiomiohdeghpiaaRows
import Derived.WalkKit
import Derived.ProofKit
import Derived.OpenShut
import Derived.Test.YtiomiohdeghpiaaWords
import Derived.Test.YtiomiohdeghpiaaSrcNew0
import Derived.Test.YtiomiohdeghpiaaWinSlide
import Derived.ShutString
import Derived.ChangeOld
import Derived.Below
namespace Go.Proofs.Ytiomiohdeghpiaa.windowSlides
open Go.ChangeShapes Go.WideShapes Go.ChangeAt Go.RowKit Wo
open Go.ChangeMaps (open_string shut_string)
set_option linter.unusedVariables false

theorem own : ownKnob Try.prog.godebug = none := by kernel_rfl
theorem laidOut : laidOutB Try.prog = true := by kernel_rfl

/-- WHAT THE WALK IS TOLD OF A SLICE OF INTEGERS THAT CAME IN: it is nil; or it leads to a row of 'cap' cells, the numbers 'zs' (the first 'len' are its elements, the rest its spare room), each fitting its kind. -/
def IsRow (k : IntKind) (w : World) (a : Option Addr) (len cap : Nat) (zs : List Int) : Prop :=
  (a = none ∧ len = 0 ∧ cap = 0 ∧ zs = []) ∨
  ∃ x, a = some x ∧ len ≤ cap ∧ cap ≤ maxLen ∧ zs.length = cap ∧ (∀ i, i < zs.length → w.cell? (x.add i) = some (.int k (zs.getD i 0))) ∧ ∀ n ∈ zs, (Lit.int k n).wf = true

theorem slide_step (f : Int → Int) (L : List Int) (q K : Nat) (h : q + K < L.length) : Wi.su f ((L.drop (q + 1)).take K) = Wi.su f ((L.drop q).take K) - f (L.getD q 0) + f (L.getD (q + K) 0) := by
  have a := Wi.su_part f L (q + 1) K
  have b := Wi.su_part f L q K
  have c := Wi.su_next f L q (by omega)
  have d := Wi.su_next f L (q + K) h
  rw [show q + 1 + K = q + K + 1 by omega] at a
  omega
theorem own_any {w : World} {base k size : Nat} {e : TypeId} {v : Value} {xs : List Value} (h : w.ownsRow base e size v k xs) : ∃ A c, v = .slice A k c ∧ (0 < k → ∃ g, A = some ⟨g, 0, none⟩) := by
  rcases h.2 with ⟨rfl, rfl⟩ | ⟨g, cap, cur, rfl, _⟩
  · exact ⟨none, 0, rfl, fun h => by omega⟩
  · exact ⟨some ⟨g, 0, none⟩, cap, rfl, fun _ => ⟨g, rfl⟩⟩
open Go.Proofs.Ytiomiohdeghpiaa.Wi Go.Proofs.Ytiomiohdeghpiaa.Wo Go.Proofs.Ytiomiohdeghpiaa.Sr in
set_option maxHeartbeats 16000000 in
set_option maxRecDepth 100000 in
theorem walk (a0 : Option Addr) (len0 cap0 : Nat) (z0 : List Int) (a1 : Int) (w : World) (w0 : IsRow .i64 w a0 len0 cap0 z0) (w1 : (Lit.int .u8 a1).wf = true) :
    Calls Try.prog 7 #[.slice a0 len0 cap0, .int .u8 a1] w fun e w' => e = .returned (.bool true) ∧ Below w.heap.size w w' := by
  have b1 := bounds_u8 w1
  obtain ⟨i1, i2⟩ := b1
  have HW := Lib.hid w1
  clear w1
  have r0 := Int.emod_nonneg a1 (b := 11) (by omega)
  have r1 := Int.emod_lt_of_pos a1 (b := 11) (by omega)
  have hr : a1.tmod 11 = a1 % 11 := Int.tmod_eq_emod_of_nonneg i1
  obtain ⟨r, hr2⟩ := Int.eq_ofNat_of_zero_le r0
  rw [hr2] at hr r1
  obtain ⟨K, hK⟩ : ∃ k, 2 + r = k := ⟨_, rfl⟩
  have hKi : 2 + (r : Int) = (K : Int) := by omega
  have k0 : 2 ≤ (K : Int) := by omega
  have k1 : (K : Int) ≤ 12 := by omega
  clear r0 hr2 hK
  have AW : Hid (∀ W, Calls Try.prog 9 #[] W fun e w' => e = .returned (.bool true) ∧ Bel W w') := awake_any
  go_enter Try.func7, Try.ntmps7
  go_wp2_with fail
  go_at_call 10
  refine (new_any a0 len0 cap0 z0 w w0).mono ?_
  rintro e v1 ⟨g, rfl, hg, ho1, hb1⟩
  have HO1 := Lib.hid ho1
  have HB1 := Lib.hid hb1
  clear ho1 hb1 w0
  go_wp2_with fail
  go_at_call 12
  refine (n_any g 60 (by decide) (by decide) _ HO1.out).mono ?_
  rintro e v2 ⟨n0, rfl, hn0, hn1, ho2, hc2⟩
  obtain ⟨n, rfl⟩ := Int.eq_ofNat_of_zero_le hn0
  have HO2 := Lib.hid ho2
  have HB2 : Hid (Bel w v2) := Bel.ch HB1.out hc2 hg
  clear ho2 hc2
  go_wp2_with fail
  go_at_call 11
  refine (list_any g n (by omega) _ HO2.out).mono ?_
  rintro e v3 ⟨v, L, rfl, hown, hL, hS, ho3, hc3⟩
  have HB3 : Hid (Bel w v3) := Bel.ch HB2.out hc3 hg
  have HL := Lib.hid hL
  have HS := Lib.hid hS
  obtain ⟨A, c, rfl, hz, -⟩ := row_zi hown hL
  have HZ := Lib.hid hz
  clear hown hL hS ho3 hc3 hz
  obtain ⟨N, hN⟩ : ∃ N, n + 1 - K = N := ⟨_, rfl⟩
  have hmx : max (0 : Int) ((n : Int) - (K : Int) + 1) = (N : Int) := by omega
  have HN := Lib.hid hN
  have nz : (n : Int) ≤ 60 := by omega
  have Nz : (N : Int) ≤ 61 := by omega
  clear hN
  go_wp2_with fail
  go_at_call 18
  refine (slide_ok A c n K N L HN.out (by omega) (by omega) (by omega) HS.out _ HZ.out).mono ?_
  rintro e v4 ⟨v, rfl, hown, hb4⟩
  have HO := Lib.hid hown
  have HB4 := Lib.hid (HB3.out.tr hb4)
  have HZ4 := Lib.hid (HZ.out.bel hb4)
  obtain ⟨A', c', rfl, hform⟩ := own_any hown
  have HFO := Lib.hid hform
  clear hown hb4 hform HZ
  go_wp2
  go_loopw [10] (fun s10 wr => ∃ (q : Nat) (V : World), V = wr ∧ (q = 0 ∨ q + 1 ≤ N) ∧ s10 = .int .i64 ((q : Int) + 1) ∧ Bel v4 wr) (fun s10 _ => N - (intOf s10).toNat)
  case atStart => exact ⟨0, _, rfl, .inl rfl, rfl, Bel.rf⟩
  case round =>
    obtain ⟨q, wr, hwr, hq, rfl, hb⟩ := hrel
    subst hwr
    have HB := Lib.hid hb
    rcases Nat.lt_or_ge (q + 1) N with hlt | hge
    · obtain ⟨p, hp⟩ : ∃ p, q + K = p := ⟨_, rfl⟩
      have pn : p < n := by have := HN.out; omega
      obtain ⟨ad, rfl, hab, hac⟩ := (HZ4.out.bel hb).2 (by omega)
      obtain ⟨ga, rfl⟩ := HFO.out (by omega)
      have hown := own_bel HO.out hb
      have ce : ∀ i j v, i < N → j < 3 → (stc K L i)[j]? = some v → wr.cell? ⟨ga, i * 3 + j, none⟩ = some v := fun i j v hi hj hv => by
        have h1 := hown.cells (g := ga) rfl (i * 3 + j) v (by rw [sts_at K L N i j hi hj]; exact hv)
        first | simpa [add_row] using h1 | rwa [add_row] at h1
      have f1 := slide_step ix L q K (by have := HL.out; omega)
      have f2 := slide_step sq L q K (by have := HL.out; omega)
      have g1 := hac q (by omega)
      have g2 := hac p pn
      have u1 := HS.out.at q
      have u2 := HS.out.at p
      have s1 := su_in ((HS.out.drop q).take K)
      have s2 := sq_su_in ((HS.out.drop q).take K)
      have sl : (((L.drop q).take K).length : Int) ≤ 12 := by have := List.length_take_le K (L.drop q); omega
      have d0 : wr.cell? ⟨ga, q * 3, none⟩ = some (.int .i64 (K : Int)) := ce q 0 _ (by omega) (by omega) rfl
      have d1 := ce q 1 _ (by omega) (by omega) rfl
      have d2 := ce q 2 _ (by omega) (by omega) rfl
      have e0 : wr.cell? ⟨ga, (q + 1) * 3, none⟩ = some (.int .i64 (K : Int)) := ce (q + 1) 0 _ hlt (by omega) rfl
      have e1 := ce (q + 1) 1 _ hlt (by omega) rfl
      have e2 := ce (q + 1) 2 _ hlt (by omega) rfl
      rw [f1] at e1
      rw [f2] at e2
      rw [hp] at e1 e2
      unfold ix at e1
      unfold sq at e2
      obtain ⟨x, hx⟩ : ∃ x, L.getD q 0 = x := ⟨_, rfl⟩
      obtain ⟨y, hy⟩ : ∃ y, L.getD p 0 = y := ⟨_, rfl⟩
      obtain ⟨S, hS⟩ : ∃ y, su (fun x => x) ((L.drop q).take K) = y := ⟨_, rfl⟩
      obtain ⟨Q, hQ⟩ : ∃ y, su (fun x => x * x) ((L.drop q).take K) = y := ⟨_, rfl⟩
      have hS' : su ix ((L.drop q).take K) = S := hS
      have hQ' : su sq ((L.drop q).take K) = Q := hQ
      rw [hx] at g1 u1 e1 e2
      rw [hy] at g2 u2 e1 e2
      rw [hS'] at s1 d1
      rw [hQ'] at s2 d2
      first | rw [hS] at e1 | rw [hS'] at e1
      first | rw [hQ] at e2 | rw [hQ'] at e2
      obtain ⟨x0, x1⟩ := u1
      obtain ⟨y0, y1⟩ := u2
      have xx := sq_in x0 x1
      have yy := sq_in y0 y1
      obtain ⟨xx0, xx1⟩ := xx
      obtain ⟨yy0, yy1⟩ := yy
      have sb : -12000 ≤ S ∧ S ≤ 12000 ∧ 0 ≤ Q ∧ Q ≤ 12000000 := by omega
      obtain ⟨S0, S1, Q0, Q1⟩ := sb
      have w1 : IntKind.i64.wrap (x * x) = x * x := IntWalk.i64_in _ (by omega)
      have w2 : IntKind.i64.wrap (y * y) = y * y := IntWalk.i64_in _ (by omega)
      have w3 : IntKind.i64.wrap (S - x) = S - x := IntWalk.i64_in _ (by omega)
      have w4 : IntKind.i64.wrap (S - x + y) = S - x + y := IntWalk.i64_in _ (by omega)
      have w5 : IntKind.i64.wrap (Q - x * x) = Q - x * x := IntWalk.i64_in _ (by omega)
      have w6 : IntKind.i64.wrap (Q - x * x + y * y) = Q - x * x + y * y := IntWalk.i64_in _ (by omega)
      have kn1 := ne_self (K : Int)
      have kn2 := ne_self (S - x + y)
      have kn3 := ne_self (Q - x * x + y * y)
      have pe : (q : Int) + 1 + (K : Int) - 1 = (p : Int) := by omega
      have pe2 : IntKind.i64.wrap ((q : Int) + 1 + (K : Int) - 1) = (p : Int) := by rw [pe]; exact IntWalk.i64_in _ (by omega)
      have pi : (p : Int) < (n : Int) := by omega
      have qi : (q : Int) < (n : Int) := by omega
      have qi2 : (q : Int) + 1 < (N : Int) := by omega
      have qi3 : (q : Int) < (N : Int) := by omega
      have HXY := Lib.hid (And.intro hx (And.intro hy (And.intro hS (And.intro hQ hp))))
      clear hb hown ce f1 f2 s1 s2 sl hx hy hS hQ hS' hQ' hp hab hac xx0 xx1 yy0 yy1 S0 S1 Q0 Q1
      go_wp2
      go_quiet (fail)
      go_wp2
      go_quiet (fail)
      go_wp2
      go_roundw
      case rel => exact ⟨q + 1, _, rfl, .inr (by omega), by go_num, by first | exact (HB.out.drwN _) | exact HB.out | exact HB.out.drw⟩
      case measure => simp [intOf]; omega
    · have qi : (N : Int) ≤ (q : Int) + 1 := by omega
      clear hb
      go_wp2_with (go_at_call 9; refine (AW.out _).mono ?_; rintro e w9 ⟨rfl, hb9⟩)
      go_ret
      exact ⟨rfl, ((HB4.out.tr HB.out).tr hb9).bl⟩

set_option maxRecDepth 100000 in
theorem lifted (os : Os) (started : os.Started) (H : Type) (enc : TypeId × Value → H) :
    ReturnsInHanded {} Try.checked os 7 .any (Rows.windowSlidesSpec.pre6 enc Try.prog Try.f7 Rows.windowSlidesRow.domain false) (Rows.windowSlidesSpec.post enc Try.prog Try.f7 false true false false) := by
  refine returnsInHanded_of_change (C := Try.checked) own started (by kernel_rfl) Try.func7
    (ChangeSpec.witness6 (enc := enc) (C := Try.checked) false ⟨#[], #[.slice none 0 0, .int .u8 0], []⟩ 8 (by kernel_rfl) (by kernel_rfl) (by kernel_rfl) (by kernel_rfl)) ?_
  intro W base args ds gs before hval0 hW hcnd _
  have hval : ∀ (j : Nat) t v, Try.f7.params[j]? = some t → args[j]? = some v → Value.okWide Try.prog W .any base t v := hval0
  have hW' := hW
  obtain ⟨p, q, hA0, hV, rfl, hfz, hnd⟩ := hW
  have hA : DataW.TrodAll enc Try.prog W 0 (fun _ => true) true Try.f7.params.toList args.toList ds p := hA0
  rw [Try.params7] at hA hval
  obtain ⟨v0, vs0, d0, ds0, p0, q0, hargs, rfl, rfl, h0, r0⟩ := trodAll_cons hA
  obtain ⟨v1, vs1, d1, ds1, p1, q1, rfl, rfl, rfl, h1, r1⟩ := trodAll_cons r0
  obtain ⟨rfl, rfl, rfl⟩ := trodAll_nil r1
  obtain rfl : args = #[v0, v1] := by cases args; simp_all
  obtain ⟨rfl, rfl⟩ := trodVars_none hV
  obtain ⟨a0, len0, cap0, rfl⟩ := okWide_slice Try.underlying22 (hval 0 22 v0 rfl rfl)
  have k0 := h0
  have lt0 : ∀ x ∈ p0, x.block < W.heap.size := by obtain ⟨m, hm⟩ := k0; exact DataW.trod_lt m _ _ _ hm
  obtain ⟨z0, w0⟩ : ∃ zs, IsRow .i64 W a0 len0 cap0 zs := by
    obtain ⟨fuel, hf⟩ := h0
    rcases open_ints Try.underlying22 Try.underlying3 (by kernel_rfl) hf with ⟨hcs, _⟩ | ⟨x, l, c, zs, hcs, _, hl, hm, hz, _, hcell, hwz⟩
    · simp [Value.cells] at hcs
      obtain ⟨rfl, rfl, rfl⟩ := hcs
      exact ⟨[], .inl ⟨rfl, rfl, rfl, rfl⟩⟩
    · simp [Value.cells] at hcs
      obtain ⟨rfl, rfl, rfl⟩ := hcs
      exact ⟨zs, .inr ⟨_, rfl, hl, hm, by simpa using hz, hcell, hwz⟩⟩
  obtain ⟨a1, rfl, rfl, rfl, w1⟩ := open_int Try.underlying5 (hval 1 5 v1 rfl rfl) h1
  clear hA0 hval0
  refine (walk a0 len0 cap0 z0 a1 W w0 w1).mono fun e W' ⟨he, bel⟩ => ?_
  subst he
  exact ⟨_, rfl, _, _, _, [], _, [], hW', trodAll_mk1 (shut_bool Try.underlying4 _), (trodAll_cons_mk (Below.trod laidOut (by kernel_rfl) (of_decide_eq_true (by kernel_rfl)) k0 bel lt0) (trodAll_cons_mk (shut_int Try.underlying5 w1) trodAll_mk0)), rfl, bel.frame _, fun h => by cases h⟩

theorem over : Rows.windowSlidesRow.holds Try.pinned (OpenSpec.ofChange Rows.windowSlidesSpec) :=
  OpenClaim.holds_of_wide 7 Try.f7 rfl rfl rfl rfl rfl rfl rfl ⟨rfl, rfl, rfl, rfl, rfl⟩ rfl rfl rfl rfl rfl (by kernel_rfl) Try.func7 (by kernel_rfl)
    (of_decide_eq_true (by kernel_rfl)) (by unfold Func.isWrapper; first | (rw [if_pos (by decide +kernel)]; kernel_rfl) | (rw [if_neg (by decide +kernel)]; exact ⟨rfl, rfl⟩))
    (fun os started H enc _ => lifted os started H enc)

theorem proved : Rows.WindowSlidesSaid := over
end Go.Proofs.Ytiomiohdeghpiaa.windowSlides
