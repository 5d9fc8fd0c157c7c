/- That the law WindowShifts returns true for every input that can be read, and leaves its arguments as they were; no further condition. -/
import Derived.Test.YtiomiohdeghpiaaRows
import Derived.WalkKit
import Derived.ProofKit
import Derived.OpenShut
import Derived.Test.YtiomiohdeghpiaaWords
import Derived.Test.YtiomiohdeghpiaaSrcNew0
import Derived.Test.YtiomiohdeghpiaaSrcLen
import Derived.Test.YtiomiohdeghpiaaWinSlide
import Derived.ShutString
import Derived.ChangeOld
import Derived.Below
namespace Go.Proofs.Ytiomiohdeghpiaa.windowShifts
open Go.ChangeShapes Go.WideShapes Go.ChangeAt Go.RowKit Wo
open Go.ChangeMaps (open_string shut_string)
set_option linter.unusedVariables false

theorem own : ownKnob Try.prog.godebug = none := by kernel_rfl
theorem laidOut : laidOutB Try.prog = true := by kernel_rfl

/-- WHAT THE WALK IS TOLD OF A SLICE OF INTEGERS THAT CAME IN: it is nil; or it leads to a row of 'cap' cells, the numbers 'zs' (the first 'len' are its elements, the rest its spare room), each fitting its kind. -/
def IsRow (k : IntKind) (w : World) (a : Option Addr) (len cap : Nat) (zs : List Int) : Prop :=
  (a = none ∧ len = 0 ∧ cap = 0 ∧ zs = []) ∨
  ∃ x, a = some x ∧ len ≤ cap ∧ cap ≤ maxLen ∧ zs.length = cap ∧ (∀ i, i < zs.length → w.cell? (x.add i) = some (.int k (zs.getD i 0))) ∧ ∀ n ∈ zs, (Lit.int k n).wf = true

section
open Go.Proofs.Ytiomiohdeghpiaa.Wi Go.Proofs.Ytiomiohdeghpiaa.Wo Go.Proofs.Ytiomiohdeghpiaa.Sr
def fif (a : Int) : Int := (a * 4).tdiv 5
theorem fif_in {a : Int} (h0 : -1000 ≤ a) (h1 : a ≤ 1000) : -800 ≤ fif a ∧ fif a ≤ 800 := by
  unfold fif
  rcases Int.lt_or_le a 0 with h | h
  · have e : (a * 4).tdiv 5 = -((-(a * 4)).tdiv 5) := by rw [Int.neg_tdiv, Int.neg_neg]
    rw [e, Int.tdiv_eq_ediv_of_nonneg (by omega)]
    omega
  · rw [Int.tdiv_eq_ediv_of_nonneg (by omega)]
    omega
def mix (L : List Int) (t : Nat) : List Int := (L.map fif).take t ++ L.drop t
theorem mix_len (L : List Int) (t : Nat) : (mix L t).length = L.length := by simp [mix]; omega
theorem mix_at (L : List Int) (t : Nat) (h : t < L.length) : (mix L t).getD t 0 = L.getD t 0 := by
  simp only [mix, List.getD_eq_getElem?_getD]
  rw [List.getElem?_append_right (by simp; omega)]
  simp [List.length_take, Nat.min_eq_left (Nat.le_of_lt h)]
theorem mix_set (L : List Int) (t : Nat) (h : t < L.length) : (mix L t).set t (fif (L.getD t 0)) = mix L (t + 1) := by
  unfold mix
  have e : L.drop t = L.getD t 0 :: L.drop (t + 1) := by
    rw [List.drop_eq_getElem_cons h, List.getD_eq_getElem?_getD, List.getElem?_eq_getElem h]; rfl
  rw [e, List.set_append_right _ _ (by simp; omega)]
  have e2 : t - ((L.map fif).take t).length = 0 := by simp; omega
  rw [e2, List.set_cons_zero, take_snoc (L.map fif) t (by simpa using h), List.append_assoc]
  congr 2
  simp [List.getD_eq_getElem?_getD, h]
theorem own_set {w : World} {base h n c t : Nat} {L : List Int} {e : TypeId} (hown : w.ownsRow base e 1 (.slice (some ⟨h, 0, none⟩) n c) n (zs L)) (y : Int) : (w.setCell ⟨h, t, none⟩ (.int .i64 y)).ownsRow base e 1 (.slice (some ⟨h, 0, none⟩) n c) n (zs (L.set t y)) := by
  refine ⟨by have := hown.1; simp only [zs_len, List.length_set] at *; exact this, ?_⟩
  rcases hown.2 with ⟨h0, _⟩ | ⟨g, cap, cur, e1, hb, hg, h1, h2, h3, h4⟩
  · cases h0
  · injection e1 with e1 e2 e3
    injection e1 with e1
    cases e1
    subst e3
    refine .inr ⟨h, c, cur.setIfInBounds t (.int .i64 y), rfl, hb, Bk.st (t := e) hg t _, h1, h2, by simpa using h3, ?_⟩
    rw [Array.toList_setIfInBounds, List.take_set, h4]
    simp [zs, List.map_set]
theorem own_fr {w : World} {base h n c : Nat} {xs : List Value} {e : TypeId} (hown : w.ownsRow base e 1 (.slice (some ⟨h, 0, none⟩) n c) n xs) (t : Nat) : w.frozen? ⟨h, t, none⟩ = false := by
  rcases hown.2 with ⟨h0, _⟩ | ⟨g, cap, cur, e1, hb, hg, _⟩
  · cases h0
  · injection e1 with e1 e2 e3
    injection e1 with e1
    cases e1
    exact Bk.fr (t := e) hg t
theorem own_any {w : World} {base k size : Nat} {e : TypeId} {v : Value} {xs : List Value} (h : w.ownsRow base e size v k xs) : ∃ A c, v = .slice A k c ∧ (0 < k → ∃ g, A = some ⟨g, 0, none⟩) := by
  rcases h.2 with ⟨rfl, rfl⟩ | ⟨g, cap, cur, rfl, _⟩
  · exact ⟨none, 0, rfl, fun h => by omega⟩
  · exact ⟨some ⟨g, 0, none⟩, cap, rfl, fun _ => ⟨g, rfl⟩⟩
theorem one_cells {w : World} {base g c n : Nat} {L : List Int} (h : w.ownsRow base 26 3 (.slice (some ⟨g, 0, none⟩) 1 c) 1 (sts n L 1)) (hl : L.length = n) :
    w.cell? ⟨g, 0, none⟩ = some (.int .i64 (n : Int)) ∧ w.cell? ⟨g, 1, none⟩ = some (.int .i64 (su ix L)) ∧ w.cell? ⟨g, 2, none⟩ = some (.int .i64 (su sq L)) := by
  have e : (L.drop 0).take n = L := by rw [List.drop_zero]; exact List.take_of_length_le (by omega)
  have f : ∀ j v, (stc n L 0)[j]? = some v → j < 3 → w.cell? ⟨g, j, none⟩ = some v := fun j v hv hj => by
    have h1 := h.cells (g := g) rfl (0 * 3 + j) v (by rw [sts_at n L 1 0 j (by omega) hj]; exact hv)
    rw [Nat.zero_mul, Nat.zero_add] at h1
    first | simpa [add_row] using h1 | rwa [add_row] at h1
  refine ⟨f 0 _ rfl (by omega), ?_, ?_⟩
  · have := f 1 _ rfl (by omega); rwa [e] at this
  · have := f 2 _ rfl (by omega); rwa [e] at this
/-- t samples have been scaled, and appended shifted -/
def SI (L : List Int) (b : Int) (n h c B0 B : Nat) (w : World) (s7 s21 : Value) (wr : World) : Prop := ∃ (t : Nat) (V : World) (u : Value), V = wr ∧ u = s7 ∧ t ≤ n ∧ s21 = .int .i64 (t : Int) ∧
  wr.ownsRow B0 3 1 (.slice (some ⟨h, 0, none⟩) n c) n (zs (mix L t)) ∧ wr.ownsRow B 3 1 s7 t (zs (((L.map fif).take t).map (· + b))) ∧ Bel w wr ∧ B ≤ wr.heap.size
theorem si_step {L : List Int} {b y : Int} {n h c B0 B t g cap : Nat} {w wr w2 : World} {s7 : Value} (ht : t < n) (hL : L.length = n) (hhB : h < B) (hB0 : w.heap.size ≤ B0) (hh : B0 ≤ h) (hy : fif (L.getD t 0) = y)
    (h1 : wr.ownsRow B0 3 1 (.slice (some ⟨h, 0, none⟩) n c) n (zs (mix L t))) (h2 : wr.ownsRow B 3 1 s7 t (zs (((L.map fif).take t).map (· + b)))) (hb : Bel w wr) (hB : B ≤ wr.heap.size)
    (h3 : w2.ownsRow B 3 1 (.slice (some ⟨g, 0, none⟩) (t + 1) cap) (t + 1) (zs (((L.map fif).take t).map (· + b)) ++ [.int .i64 (y + b)]))
    (hgr : ((wr.setCell ⟨h, t, none⟩ (.int .i64 y)).alloc (.cells #[.int .i64 (y + b)] 3)).grownBy w2 s7.ownBlock) :
    SI L b n h c B0 B w (.slice (some ⟨g, 0, none⟩) (t + 1) cap) (.int .i64 ((t : Int) + 1)) w2 := by
  have hrow : ∀ q, s7.ownBlock = some q → B ≤ q := fun q e => (h2.lt q e).1
  have k1 : ((wr.setCell ⟨h, t, none⟩ (.int .i64 y)).alloc (.cells #[.int .i64 (y + b)] 3)).ownsRow B0 3 1 (.slice (some ⟨h, 0, none⟩) n c) n (zs (mix L (t + 1))) := by
    rw [← mix_set L t (by omega), hy]
    exact (own_set h1 y).alloc _
  have k2 : Bel w ((wr.setCell ⟨h, t, none⟩ (.int .i64 y)).alloc (.cells #[.int .i64 (y + b)] 3)) := (hb.st (by show _ ≤ _; simp only []; omega) _).al _
  refine ⟨t + 1, _, _, rfl, rfl, by omega, by congr 1, ?_, ?_, ?_, ?_⟩
  · exact k1.kept hgr (.inr (fun e => by have := hrow h e.symm; omega))
  · have e : ((L.map fif).take (t + 1)).map (· + b) = ((L.map fif).take t).map (· + b) ++ [y + b] := by
      rw [take_snoc (L.map fif) t (by simp; omega), List.map_append]
      have : (L.map fif).getD t 0 = y := by rw [← hy]; simp [List.getD_eq_getElem?_getD, show t < L.length by omega]
      rw [this]; rfl
    rw [e, zs_app]
    exact h3
  · exact Below.grown k2 hgr k2.size (fun q e => by have := hrow q e; have := hb.size; omega)
  · have := hgr.size
    simp [World.setCell] at this
    omega
end
open Go.Proofs.Ytiomiohdeghpiaa.Wi Go.Proofs.Ytiomiohdeghpiaa.Wo Go.Proofs.Ytiomiohdeghpiaa.Sr in
set_option maxHeartbeats 16000000 in
set_option maxRecDepth 100000 in
theorem walk (a0 : Option Addr) (len0 cap0 : Nat) (z0 : List Int) (a1 : Int) (w : World) (w0 : IsRow .i64 w a0 len0 cap0 z0) (w1 : (Lit.int .i8 a1).wf = true) :
    Calls Try.prog 6 #[.slice a0 len0 cap0, .int .i8 a1] w fun e w' => e = .returned (.bool true) ∧ Below w.heap.size w w' := by
  have b1 := bounds_i8 w1
  obtain ⟨i1, i2⟩ := b1
  have HW := Lib.hid w1
  clear w1
  obtain ⟨i0, hi0, hz0, hz1, hz2⟩ := info_parts info_int
  have HI := Lib.hid (And.intro hi0 (And.intro hz0 (And.intro hz1 hz2)))
  clear hi0 hz0 hz1 hz2
  have AW : Hid (∀ W, Calls Try.prog 9 #[] W fun e w' => e = .returned (.bool true) ∧ Bel W w') := awake_any
  go_enter Try.func6, Try.ntmps6
  go_wp2_with fail
  go_at_call 10
  refine (new_any a0 len0 cap0 z0 w w0).mono ?_
  rintro e v1 ⟨g, rfl, hg, ho1, hb1⟩
  have HO1 := Lib.hid ho1
  have HB1 := Lib.hid hb1
  clear ho1 hb1 w0
  go_wp2_with fail
  go_at_call 27
  refine (length_any g _ HO1.out).mono ?_
  rintro e v2 ⟨n0, rfl, hn0, hn1, ho2, hc2⟩
  obtain ⟨n, rfl⟩ := Int.eq_ofNat_of_zero_le (show 0 ≤ n0 by omega)
  have HO2 := Lib.hid ho2
  have HB2 : Hid (Bel w v2) := Bel.ch HB1.out hc2 hg
  clear ho2 hc2
  go_wp2_with fail
  go_at_call 11
  refine (list_any g n (by omega) _ HO2.out).mono ?_
  rintro e v3 ⟨v, L, rfl, hown, hL, hS, ho3, hc3⟩
  have HB3 : Hid (Bel w v3) := Bel.ch HB2.out hc3 hg
  have HL := Lib.hid hL
  have HS := Lib.hid hS
  obtain ⟨h, c, rfl, hcap, hh⟩ := row_form hown (by omega)
  have hhl := (hown.lt h rfl).2
  have HOW := Lib.hid hown
  clear hown hL hS ho3 hc3
  have nz : (n : Int) ≤ 60 := by omega
  have HR0 : Hid (SI L a1 n h c v2.heap.size v3.heap.size w (.slice none 0 0) (.int .i64 0) v3) := ⟨0, _, _, rfl, rfl, by omega, rfl, by have := HOW.out; simpa [mix] using this, World.ownsRow_nil _ _ _ _, HB3.out, Nat.le_refl _⟩
  have hB0 := HB2.out.size
  clear HOW
  go_wp2
  go_loopw [7, 21] (fun s7 s21 wr => SI L a1 n h c v2.heap.size v3.heap.size w s7 s21 wr) (fun _ s21 _ => n - (intOf s21).toNat)
  case atStart => exact HR0.out
  case round =>
    clear HR0
    obtain ⟨t, wr, u7, hwr, hu7, ht, rfl, hx, hz, hb, hB⟩ := hrel
    subst hwr hu7
    have HX := Lib.hid hx
    have HZ := Lib.hid hz
    have HB := Lib.hid hb
    rcases Nat.lt_or_ge t n with hlt | hge
    · have c1 := (own_zi hx (by rw [mix_len]; exact HL.out)).at t hlt
      rw [mix_at L t (by have := HL.out; omega)] at c1
      have f1 := own_fr hx t
      have px := HS.out.at t
      obtain ⟨x, hxx⟩ : ∃ x, L.getD t 0 = x := ⟨_, rfl⟩
      rw [hxx] at c1 px
      obtain ⟨x0, x1⟩ := px
      have py := fif_in x0 x1
      obtain ⟨y, hy⟩ : ∃ y, fif x = y := ⟨_, rfl⟩
      rw [hy] at py
      obtain ⟨y0, y1⟩ := py
      have hq : (x * 4).tdiv 5 = y := hy
      have HY : Hid (fif (L.getD t 0) = y) := by show _ = _; rw [hxx, hy]
      have ti : (t : Int) < (n : Int) := by omega
      have hown1 := ownsRow_setCell_below hz (a := ⟨h, t, none⟩) hhl (.int .i64 y)
      have HOW := Lib.hid hown1
      have wsz : (wr.setCell ⟨h, t, none⟩ (.int .i64 y)).heap.size = wr.heap.size := by simp [World.setCell]
      have WSZ := Lib.hid wsz
      have HNB : Hid (((wr.setCell ⟨h, t, none⟩ (.int .i64 y)).alloc (.cells #[.int .i64 (y + a1)] 3)).heap[wr.heap.size]? = some (.cells #[.int .i64 (y + a1)] 3 (0, 0))) := by
        have := heap_alloc_new (wr.setCell ⟨h, t, none⟩ (.int .i64 y)) (.cells #[.int .i64 (y + a1)] 3)
        rw [wsz] at this
        exact this
      have wq : IntKind.i64.wrap y = y := IntWalk.i64_in _ (by omega)
      have wq2 : wrap64 y = y := IntWalk.wrap64_in _ (by omega)
      clear hx hz hb hown1 hxx hy wsz
      go_wp2_with (at_builtin; refine wpList_append_lies _ (by rfl) _ _ 22 (by rfl) v3.heap.size 3 i0 _ 1 8 Try.underlying22 HI.out.1 HI.out.2.1 HI.out.2.2.1 HI.out.2.2.2 (by rfl) (by omega) u7 t (zs (((L.map fif).take t).map (· + a1))) (by rfl) (HOW.out.alloc _) ⟨wr.heap.size, 0, none⟩ 1 1 [.int .i64 (y + a1)] (by rfl) (by rfl) (World.news_of_block (cs := #[.int .i64 (y + a1)]) (t := 3) (fr := (0, 0)) HNB.out) (by simp [Value.oneCell']) (by omega) (by unfold maxLen; omega) (by omega) (by have := WSZ.out; simp; omega) (wr.heap.size + 1) (by simp) ?_; intro g' cap' w5 hown4 hgrow hat hlt4)
      have hstep := si_step hlt HL.out hhl hB0 hh HY.out HX.out HZ.out HB.out hB hown4 hgrow
      have HST := Lib.hid hstep
      clear hstep hown4 hgrow hat
      go_wp2
      go_roundw
      case rel => exact HST.out
      case measure => simp [intOf]; omega
    · obtain rfl : t = n := by omega
      have eM : mix L t = L.map fif := by
        unfold mix
        rw [List.drop_of_length_le (by have := HL.out; omega), List.append_nil]
        exact List.take_of_length_le (by simp; have := HL.out; omega)
      have eT : (L.map fif).take t = L.map fif := List.take_of_length_le (by simp; have := HL.out; omega)
      rw [eM] at hx
      rw [eT] at hz
      obtain ⟨M, hM⟩ : ∃ M, L.map fif = M := ⟨_, rfl⟩
      rw [hM] at hx hz
      have lM : M.length = t := by rw [← hM]; simpa using HL.out
      have sM : ∀ a ∈ M, -800 ≤ a ∧ a ≤ 800 := by
        intro a ha
        rw [← hM] at ha
        obtain ⟨z, hz1, rfl⟩ := List.mem_map.1 ha
        have := HS.out z hz1
        exact fif_in this.1 this.2
      have SM : Sam M := fun a ha => by have := sM a ha; omega
      have SM2 : Sam (M.map (· + a1)) := fun a ha => by
        obtain ⟨z, hz1, rfl⟩ := List.mem_map.1 ha
        have := sM z hz1
        show _ ∧ _
        omega
      have lM2 : (M.map (· + a1)).length = t := by simpa using lM
      have zx := own_zi hx lM
      obtain ⟨Az, cz, rfl, zz, -⟩ := row_zi hz lM2
      have e1 := su_shift M a1
      have e2 := vr_shift M a1
      obtain ⟨X, eX⟩ : ∃ y, su ix M = y := ⟨_, rfl⟩
      obtain ⟨Y, eY⟩ : ∃ y, su sq M = y := ⟨_, rfl⟩
      obtain ⟨Z, eZ⟩ : ∃ y, vr M = y := ⟨_, rfl⟩
      obtain ⟨X2, eX2⟩ : ∃ y, su ix (M.map (· + a1)) = y := ⟨_, rfl⟩
      obtain ⟨Y2, eY2⟩ : ∃ y, su sq (M.map (· + a1)) = y := ⟨_, rfl⟩
      have VA : Hid (∀ W, Calls Try.prog 24 #[.agg #[.int .i64 (t : Int), .int .i64 X, .int .i64 Y]] W fun e w' => e = .returned (.int .i64 Z) ∧ Bel W w') := var_of M SM t lM (by omega) (by omega) X Y Z eX eY eZ
      have VB : Hid (∀ W, Calls Try.prog 24 #[.agg #[.int .i64 (t : Int), .int .i64 X2, .int .i64 Y2]] W fun e w' => e = .returned (.int .i64 Z) ∧ Bel W w') := var_of _ SM2 t lM2 (by omega) (by omega) X2 Y2 Z eX2 eY2 (by rw [e2]; exact eZ)
      have SL1 : Hid (∀ W, Bel wr W → _) := fun W hW => slide_ok (some ⟨h, 0, none⟩) c t t 1 M (by omega) (by omega) (by omega) (by omega) SM W (zx.bel hW)
      have SL2 : Hid (∀ W, Bel wr W → _) := fun W hW => slide_ok Az cz t t 1 (M.map (· + a1)) (by omega) (by omega) (by omega) (by omega) SM2 W (zz.bel hW)
      have sb := su_in SM
      rw [eX, lM] at sb
      rw [eX2, eX, lM] at e1
      obtain ⟨K, hK⟩ : ∃ K, (t : Int) * a1 = K := ⟨_, rfl⟩
      rw [hK] at e1
      have kb : -60 * 128 ≤ K ∧ K ≤ 60 * 128 := by
        rw [← hK]
        have q1 : 0 ≤ (t : Int) * (a1 + 128) := Int.mul_nonneg (by omega) (by omega)
        have q2 : 0 ≤ (t : Int) * (128 - a1) := Int.mul_nonneg (by omega) (by omega)
        have q3 : (t : Int) * (a1 + 128) = (t : Int) * a1 + (t : Int) * 128 := by grind
        have q4 : (t : Int) * (128 - a1) = (t : Int) * 128 - (t : Int) * a1 := by grind
        omega
      have wK : IntKind.i64.wrap K = K := IntWalk.i64_in _ (by omega)
      have wK2 : IntKind.i64.wrap ((t : Int) * a1) = K := by rw [hK]; exact wK
      have wX : IntKind.i64.wrap X2 = X2 := IntWalk.i64_in _ (by omega)
      have eXK : X + K = X2 := by omega
      have wX2 : IntKind.i64.wrap (X + K) = X2 := by rw [eXK]; exact wX
      have wA : IntKind.i64.wrap a1 = a1 := IntWalk.i64_in _ (by omega)
      have bq : (X2 == X2) = true := by simp
      have bz : (Z == Z) = true := by simp
      have HE := Lib.hid (And.intro eX (And.intro eY (And.intro eX2 (And.intro eY2 (And.intro lM lM2)))))
      have HF := Lib.hid (And.intro hK (And.intro e1 eXK))
      clear hx hz hb eM eT hM sM SM SM2 zx zz e1 e2 eX eY eZ eX2 eY2 sb kb hK lM lM2 eXK wK wX
      go_wp2_with fail
      go_at_call 18
      refine (SL1.out _ Bel.rf).mono ?_
      rintro e p1 ⟨va, rfl, hoa, hb1⟩
      obtain ⟨Aa, ca, rfl, hfa⟩ := own_any hoa
      obtain ⟨ga, rfl⟩ := hfa (by omega)
      have HOA := Lib.hid hoa
      have HP1 := Lib.hid hb1
      clear hoa hfa hb1
      go_wp2_with fail
      go_at_call 18
      refine (SL2.out _ HP1.out).mono ?_
      rintro e p2 ⟨vb, rfl, hob, hb2⟩
      obtain ⟨Ab, cb, rfl, hfb⟩ := own_any hob
      obtain ⟨gb, rfl⟩ := hfb (by omega)
      have HP2 : Hid (Bel w p2) := (HB.out.tr HP1.out).tr hb2
      obtain ⟨ca0, ca1, ca2⟩ := one_cells (own_bel HOA.out hb2) HE.out.2.2.2.2.1
      obtain ⟨cb0, cb1, cb2⟩ := one_cells hob HE.out.2.2.2.2.2
      rw [HE.out.1] at ca1
      rw [HE.out.2.1] at ca2
      rw [HE.out.2.2.1] at cb1
      rw [HE.out.2.2.2.1] at cb2
      clear hob hfb hb2
      go_wp2_with fail
      go_region_held3 (fun w' => w'.cell? ⟨ga, 0, none⟩ = some (.int .i64 (t : Int)) ∧ w'.cell? ⟨ga, 1, none⟩ = some (.int .i64 X) ∧ w'.cell? ⟨ga, 2, none⟩ = some (.int .i64 Y) ∧ w'.cell? ⟨gb, 0, none⟩ = some (.int .i64 (t : Int)) ∧ w'.cell? ⟨gb, 1, none⟩ = some (.int .i64 X2) ∧ w'.cell? ⟨gb, 2, none⟩ = some (.int .i64 Y2))
        ((refine ⟨?_, ?_, ?_, ?_, ?_, ?_⟩) <;> (repeat (first | exact ca0 | exact ca1 | exact ca2 | exact cb0 | exact cb1 | exact cb2 | (with_reducible refine kp_al ?_ _) | (with_reducible refine kp_drwN ?_ _) | (with_reducible refine kp_drw ?_) | (refine Bel.kp (by assumption) ?_))))
        (first
          | (go_at_call 24; first
              | ((with_reducible refine (VA.out _).mono ?_); rintro r p3 ⟨rfl, h3⟩)
              | ((with_reducible refine (VB.out _).mono ?_); rintro r p4 ⟨rfl, h4⟩))
          | (go_at_call 9; (with_reducible refine (AW.out _).mono ?_); rintro r p5 ⟨rfl, h5⟩))
      all_goals
        go_wp2
        go_ret
        have HX : Bel w p5 := (by repeat (first | exact HP2.out | (with_reducible refine Bel.drwN ?_ _) | (with_reducible refine Bel.drw ?_) | (with_reducible refine Bel.al ?_ _) | refine Bel.tr ?_ (by assumption)))
        exact ⟨rfl, by first | exact HX.bl | exact (HX.drwN _).bl | exact HX.drw.bl⟩

set_option maxRecDepth 100000 in
theorem lifted (os : Os) (started : os.Started) (H : Type) (enc : TypeId × Value → H) :
    ReturnsInHanded {} Try.checked os 6 .any (Rows.windowShiftsSpec.pre6 enc Try.prog Try.f6 Rows.windowShiftsRow.domain false) (Rows.windowShiftsSpec.post enc Try.prog Try.f6 false true false false) := by
  refine returnsInHanded_of_change (C := Try.checked) own started (by kernel_rfl) Try.func6
    (ChangeSpec.witness6 (enc := enc) (C := Try.checked) false ⟨#[], #[.slice none 0 0, .int .i8 0], []⟩ 8 (by kernel_rfl) (by kernel_rfl) (by kernel_rfl) (by kernel_rfl)) ?_
  intro W base args ds gs before hval0 hW hcnd _
  have hval : ∀ (j : Nat) t v, Try.f6.params[j]? = some t → args[j]? = some v → Value.okWide Try.prog W .any base t v := hval0
  have hW' := hW
  obtain ⟨p, q, hA0, hV, rfl, hfz, hnd⟩ := hW
  have hA : DataW.TrodAll enc Try.prog W 0 (fun _ => true) true Try.f6.params.toList args.toList ds p := hA0
  rw [Try.params6] at hA hval
  obtain ⟨v0, vs0, d0, ds0, p0, q0, hargs, rfl, rfl, h0, r0⟩ := trodAll_cons hA
  obtain ⟨v1, vs1, d1, ds1, p1, q1, rfl, rfl, rfl, h1, r1⟩ := trodAll_cons r0
  obtain ⟨rfl, rfl, rfl⟩ := trodAll_nil r1
  obtain rfl : args = #[v0, v1] := by cases args; simp_all
  obtain ⟨rfl, rfl⟩ := trodVars_none hV
  obtain ⟨a0, len0, cap0, rfl⟩ := okWide_slice Try.underlying22 (hval 0 22 v0 rfl rfl)
  have k0 := h0
  have lt0 : ∀ x ∈ p0, x.block < W.heap.size := by obtain ⟨m, hm⟩ := k0; exact DataW.trod_lt m _ _ _ hm
  obtain ⟨z0, w0⟩ : ∃ zs, IsRow .i64 W a0 len0 cap0 zs := by
    obtain ⟨fuel, hf⟩ := h0
    rcases open_ints Try.underlying22 Try.underlying3 (by kernel_rfl) hf with ⟨hcs, _⟩ | ⟨x, l, c, zs, hcs, _, hl, hm, hz, _, hcell, hwz⟩
    · simp [Value.cells] at hcs
      obtain ⟨rfl, rfl, rfl⟩ := hcs
      exact ⟨[], .inl ⟨rfl, rfl, rfl, rfl⟩⟩
    · simp [Value.cells] at hcs
      obtain ⟨rfl, rfl, rfl⟩ := hcs
      exact ⟨zs, .inr ⟨_, rfl, hl, hm, by simpa using hz, hcell, hwz⟩⟩
  obtain ⟨a1, rfl, rfl, rfl, w1⟩ := open_int Try.underlying54 (hval 1 54 v1 rfl rfl) h1
  clear hA0 hval0
  refine (walk a0 len0 cap0 z0 a1 W w0 w1).mono fun e W' ⟨he, bel⟩ => ?_
  subst he
  exact ⟨_, rfl, _, _, _, [], _, [], hW', trodAll_mk1 (shut_bool Try.underlying4 _), (trodAll_cons_mk (Below.trod laidOut (by kernel_rfl) (of_decide_eq_true (by kernel_rfl)) k0 bel lt0) (trodAll_cons_mk (shut_int Try.underlying54 w1) trodAll_mk0)), rfl, bel.frame _, fun h => by cases h⟩

theorem over : Rows.windowShiftsRow.holds Try.pinned (OpenSpec.ofChange Rows.windowShiftsSpec) :=
  OpenClaim.holds_of_wide 6 Try.f6 rfl rfl rfl rfl rfl rfl rfl ⟨rfl, rfl, rfl, rfl, rfl⟩ rfl rfl rfl rfl rfl (by kernel_rfl) Try.func6 (by kernel_rfl)
    (of_decide_eq_true (by kernel_rfl)) (by unfold Func.isWrapper; first | (rw [if_pos (by decide +kernel)]; kernel_rfl) | (rw [if_neg (by decide +kernel)]; exact ⟨rfl, rfl⟩))
    (fun os started H enc _ => lifted os started H enc)

theorem proved : Rows.WindowShiftsSaid := over
end Go.Proofs.Ytiomiohdeghpiaa.windowShifts
