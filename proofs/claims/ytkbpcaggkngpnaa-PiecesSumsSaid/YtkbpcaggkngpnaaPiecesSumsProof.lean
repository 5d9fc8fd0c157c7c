/- That the law PiecesSums returns true for every input that can be read, and leaves its arguments as they were; no further condition. -/
import Derived.Test.YtkbpcaggkngpnaaRows
import Derived.WalkKit
import Derived.ProofKit
import Derived.OpenShut
import Derived.Test.YtkbpcaggkngpnaaWords
import Derived.Test.YtkbpcaggkngpnaaPieL
import Derived.Test.YtkbpcaggkngpnaaLeav
import Derived.Test.YtkbpcaggkngpnaaSrcNew0
import Derived.Test.YtkbpcaggkngpnaaSrcLen
import Derived.ShutString
import Derived.ChangeOld
import Derived.Below
namespace Go.Proofs.Ytkbpcaggkngpnaa.piecesSums
open Go.ChangeShapes Go.WideShapes Go.ChangeAt Go.RowKit Wo
open Go.ChangeMaps (open_string shut_string)
set_option linter.unusedVariables false

theorem own : ownKnob Try.prog.godebug = none := by kernel_rfl
theorem laidOut : laidOutB Try.prog = true := by kernel_rfl

/-- WHAT THE WALK IS TOLD OF A SLICE OF INTEGERS THAT CAME IN: it is nil; or it leads to a row of 'cap' cells, the numbers 'zs' (the first 'len' are its elements, the rest its spare room), each fitting its kind. -/
def IsRow (k : IntKind) (w : World) (a : Option Addr) (len cap : Nat) (zs : List Int) : Prop :=
  (a = none ∧ len = 0 ∧ cap = 0 ∧ zs = []) ∨
  ∃ x, a = some x ∧ len ≤ cap ∧ cap ≤ maxLen ∧ zs.length = cap ∧ (∀ i, i < zs.length → w.cell? (x.add i) = some (.int k (zs.getD i 0))) ∧ ∀ n ∈ zs, (Lit.int k n).wf = true

section
open Go.Proofs.Ytkbpcaggkngpnaa.Pc Go.Proofs.Ytkbpcaggkngpnaa.Nr Go.Proofs.Ytkbpcaggkngpnaa.Wi Go.Proofs.Ytkbpcaggkngpnaa.Wo Go.Proofs.Ytkbpcaggkngpnaa.Sr
/-- t samples have been scaled, added up, and appended shifted -/
def SI (L P : List Int) (b : Int) (n h c B0 B : Nat) (w : World) (s8 s9 s37 : Value) (wr : World) : Prop := ∃ (t : Nat) (V : World) (u : Value), V = wr ∧ u = s9 ∧ t ≤ n ∧ s37 = .int .i64 (t : Int) ∧ s8 = .int .i64 (pre P t) ∧
  wr.ownsRow B0 3 1 (.slice (some ⟨h, 0, none⟩) n c) n (zs (mix fif L t)) ∧ wr.ownsRow B 3 1 s9 t (zs ((af 1 b P).take t)) ∧ Bel w wr ∧ B ≤ wr.heap.size
theorem si_step {L P : List Int} {b y : Int} {n h c B0 B t g cap : Nat} {w wr w2 : World} {s9 : Value} (ht : t < n) (hP : L.map fif = P) (hL : L.length = n) (hhB : h < B) (hB0 : w.heap.size ≤ B0) (hh : B0 ≤ h) (hy : fif (L.getD t 0) = y)
    (h1 : wr.ownsRow B0 3 1 (.slice (some ⟨h, 0, none⟩) n c) n (zs (mix fif L t))) (h2 : wr.ownsRow B 3 1 s9 t (zs ((af 1 b P).take t))) (hb : Bel w wr) (hB : B ≤ wr.heap.size)
    (h3 : w2.ownsRow B 3 1 (.slice (some ⟨g, 0, none⟩) (t + 1) cap) (t + 1) (zs ((af 1 b P).take t) ++ [.int .i64 (y + b)]))
    (hgr : ((wr.setCell ⟨h, t, none⟩ (.int .i64 y)).alloc (.cells #[.int .i64 (y + b)] 3)).grownBy w2 s9.ownBlock) :
    SI L P b n h c B0 B w (.int .i64 (pre P t + y)) (.slice (some ⟨g, 0, none⟩) (t + 1) cap) (.int .i64 ((t : Int) + 1)) w2 := by
  have hrow : ∀ q, s9.ownBlock = some q → B ≤ q := fun q e => (h2.lt q e).1
  have k1 : ((wr.setCell ⟨h, t, none⟩ (.int .i64 y)).alloc (.cells #[.int .i64 (y + b)] 3)).ownsRow B0 3 1 (.slice (some ⟨h, 0, none⟩) n c) n (zs (mix fif L (t + 1))) := by
    rw [← mix_set fif L t (by omega), hy]
    exact (own_set h1 y).alloc _
  have k2 : Bel w ((wr.setCell ⟨h, t, none⟩ (.int .i64 y)).alloc (.cells #[.int .i64 (y + b)] 3)) := (hb.st (by show _ ≤ _; simp only []; omega) _).al _
  have lP : P.length = n := by rw [← hP]; simpa using hL
  have hg : P.getD t 0 = y := by rw [← hP, map_at fif L t (by omega), hy]
  refine ⟨t + 1, _, _, rfl, rfl, by omega, by congr 1, ?_, ?_, ?_, ?_, ?_⟩
  · unfold pre
    rw [su_next id P t (by omega), hg]; rfl
  · exact k1.kept hgr (.inr (fun e => by have := hrow h e.symm; omega))
  · have e : (af 1 b P).take (t + 1) = (af 1 b P).take t ++ [y + b] := by
      rw [take_snoc _ t (by rw [af_len]; omega), af_at 1 b P t (by omega), hg, Int.mul_one]
    rw [e, zs_app]
    exact h3
  · exact Below.grown k2 hgr k2.size (fun q e => by have := hrow q e; have := hb.size; omega)
  · have := hgr.size
    simp [World.setCell] at this
    omega
theorem si_cell {L P : List Int} {b y : Int} {n h c B0 B t : Nat} {w w2 : World} {s8 s9 : Value} (ht : t < n) (hL : L.length = n) (hy : fif (L.getD t 0) = y) (hs : SI L P b n h c B0 B w s8 s9 (.int .i64 ((t : Int) + 1)) w2) : w2.cell? ⟨h, t, none⟩ = some (.int .i64 y) := by
  obtain ⟨t', _, _, _, _, ht', hti, _, hxn, _⟩ := hs
  injection hti with _ hti
  obtain rfl : t' = t + 1 := by omega
  have := (own_zi hxn (by rw [mix_len]; exact hL)).at t ht
  rw [← mix_set fif L t (by omega), List.getD_eq_getElem?_getD, List.getElem?_set_self (by rw [mix_len]; omega), Option.getD_some, hy] at this
  exact this
end
open Go.Proofs.Ytkbpcaggkngpnaa.Pc Go.Proofs.Ytkbpcaggkngpnaa.Nr Go.Proofs.Ytkbpcaggkngpnaa.Eu Go.Proofs.Ytkbpcaggkngpnaa.Wi Go.Proofs.Ytkbpcaggkngpnaa.Wo Go.Proofs.Ytkbpcaggkngpnaa.Sr Go.Proofs.Ytkbpcaggkngpnaa.Ra in
set_option maxHeartbeats 4000000 in
set_option maxRecDepth 100000 in
theorem walk (a0 : Option Addr) (len0 cap0 : Nat) (z0 : List Int) (a1 : Int) (w : World) (w0 : IsRow .i64 w a0 len0 cap0 z0) (w1 : (Lit.int .i8 a1).wf = true) :
    Calls Try.prog 11 #[.slice a0 len0 cap0, .int .i8 a1] w fun e w' => e = .returned (.bool true) ∧ Below w.heap.size w w' := by
  have b1 := bounds_i8 w1
  obtain ⟨i1, i2⟩ := b1
  have HW := Lib.hid w1
  clear w1
  obtain ⟨i0, hi0, hz0, hz1, hz2⟩ := info_parts info_int
  have HI := Lib.hid (And.intro hi0 (And.intro hz0 (And.intro hz1 hz2)))
  clear hi0 hz0 hz1 hz2
  have AW : Hid (∀ W, Calls Try.prog 28 #[] W fun e w' => e = .returned (.bool true) ∧ Bel W w') := awake_any
  go_enter Try.func11, Try.ntmps11
  go_wp2_with fail
  go_at_call 13
  refine (new_any a0 len0 cap0 z0 w w0).mono ?_
  rintro e v1 ⟨g, rfl, hg, ho1, hb1⟩
  have HO1 := Lib.hid ho1
  have HB1 := Lib.hid hb1
  clear ho1 hb1 w0
  go_wp2_with fail
  go_at_call 34
  refine (length_any g _ HO1.out).mono ?_
  rintro e v2 ⟨n0, rfl, hn0, hn1, ho2, hc2⟩
  obtain ⟨m, rfl⟩ := Int.eq_ofNat_of_zero_le (show 0 ≤ n0 by omega)
  have HO2 := Lib.hid ho2
  have HB2 : Hid (Bel w v2) := Bel.ch HB1.out hc2 hg
  have hgv : g < v2.heap.size := HO2.out.lt
  clear ho2 hc2
  go_wp2_with fail
  go_at_call 23
  refine (list_any g m (by omega) _ HO2.out).mono ?_
  rintro e v4 ⟨v, L, rfl, hown, hL, hS, ho3, hc3⟩
  have HB4 : Hid (Bel w v4) := Bel.ch HB2.out hc3 hg
  have HO4 := Lib.hid ho3
  have HL := Lib.hid hL
  have HS := Lib.hid hS
  obtain ⟨h, c, rfl, hcap, hh⟩ := row_form hown (by omega)
  have HOW4 := Lib.hid hown
  clear hown ho3 hc3
  have m2 : 2 ≤ m := by omega
  have m32 : m ≤ 32 := by omega
  go_wp2_with fail
  go_at_call 29
  refine (count_any g m m2 m32 _ HO4.out).mono ?_
  rintro e v3 ⟨n, rfl, k1, k8, km, ho3, hc3⟩
  have HB3 : Hid (Bel w v3) := Bel.ch HB4.out hc3 hg
  have HOW := Lib.hid (own_ch HOW4.out hc3 hgv)
  have hhl := (HOW.out.lt h rfl).2
  have kk1 : 1 ≤ (n : Int) := by omega
  have kk8 : (n : Int) ≤ 8 := by omega
  clear ho3 hc3 HOW4
  obtain ⟨P, hP⟩ : ∃ P, L.map fif = P := ⟨_, rfl⟩
  have lP : P.length = m := by rw [← hP]; simpa using hL
  have bP : Bd 800 P := fun x hx => by
    rw [← hP] at hx
    obtain ⟨z, hz1, rfl⟩ := List.mem_map.1 hx
    have := hS z hz1
    exact fif_in this.1 this.2
  have HP := Lib.hid (And.intro hP (And.intro lP bP))
  have HR0 : Hid (SI L P a1 m h c v2.heap.size v3.heap.size w (.int .i64 0) (.slice none 0 0) (.int .i64 0) v3) := ⟨0, _, _, rfl, rfl, by omega, rfl, rfl, by have := HOW.out; simpa [mix] using this, World.ownsRow_nil _ _ _ _, HB3.out, Nat.le_refl _⟩
  have hB0 := HB2.out.size
  clear HOW hP lP bP hL hS
  go_wp2
  go_loopw [8, 9, 37] (fun s8 s9 s37 wr => SI L P a1 m h c v2.heap.size v3.heap.size w s8 s9 s37 wr) (fun _ _ s37 _ => m - (intOf s37).toNat)
  case atStart => exact HR0.out
  case round =>
    clear HR0
    obtain ⟨t, wr, u9, hwr, hu9, ht, rfl, rfl, hx, hz, hb, hB⟩ := hrel
    subst hwr hu9
    have HX := Lib.hid hx
    have HZ := Lib.hid hz
    have HB := Lib.hid hb
    rcases Nat.lt_or_ge t m with hlt | hge
    · have c1 := (own_zi hx (by rw [mix_len]; exact HL.out)).at t hlt
      rw [mix_at fif L t (by have := HL.out; omega)] at c1
      have f1 := own_fr hx t
      have px := HS.out.at t
      have sb := su_bd (HP.out.2.2.take t)
      have tl := List.length_take_le t P
      have lPm := HP.out.2.1
      rw [← su_ix] at sb
      obtain ⟨s, hs⟩ : ∃ s, pre P t = s := ⟨_, rfl⟩
      rw [show su id (P.take t) = s from hs] at sb
      obtain ⟨s0, s1⟩ : -25600 ≤ s ∧ s ≤ 25600 := by omega
      obtain ⟨x, hxx⟩ : ∃ x, L.getD t 0 = x := ⟨_, rfl⟩
      rw [hxx] at c1 px
      obtain ⟨x0, x1⟩ := px
      have py := fif_in x0 x1
      obtain ⟨y, hy⟩ : ∃ y, fif x = y := ⟨_, rfl⟩
      rw [hy] at py
      obtain ⟨y0, y1⟩ := py
      have hq : (x * 4).tdiv 5 = y := hy
      have HY : Hid (fif (L.getD t 0) = y) := by show _ = _; rw [hxx, hy]
      have ti : (t : Int) < (m : Int) := by omega
      have hown1 := ownsRow_setCell_below hz (a := ⟨h, t, none⟩) hhl (.int .i64 y)
      have HOW := Lib.hid hown1
      have wsz : (wr.setCell ⟨h, t, none⟩ (.int .i64 y)).heap.size = wr.heap.size := by simp [World.setCell]
      have WSZ := Lib.hid wsz
      have HNB : Hid (((wr.setCell ⟨h, t, none⟩ (.int .i64 y)).alloc (.cells #[.int .i64 (y + a1)] 3)).heap[wr.heap.size]? = some (.cells #[.int .i64 (y + a1)] 3 (0, 0))) := by
        have := heap_alloc_new (wr.setCell ⟨h, t, none⟩ (.int .i64 y)) (.cells #[.int .i64 (y + a1)] 3)
        rw [wsz] at this
        exact this
      have wq : IntKind.i64.wrap y = y := IntWalk.i64_in _ (by omega)
      have wq2 : wrap64 y = y := IntWalk.wrap64_in _ (by omega)
      have HSS := Lib.hid hs
      rw [hs]
      clear hx hz hb hown1 hxx hy wsz sb tl lPm hs
      go_wp2_with (at_builtin; refine wpList_append_lies _ (by rfl) _ _ 22 (by rfl) v3.heap.size 3 i0 _ 1 8 Try.underlying22 HI.out.1 HI.out.2.1 HI.out.2.2.1 HI.out.2.2.2 (by rfl) (by omega) u9 t (zs ((af 1 a1 P).take t)) (by rfl) (HOW.out.alloc _) ⟨wr.heap.size, 0, none⟩ 1 1 [.int .i64 (y + a1)] (by rfl) (by rfl) (World.news_of_block (cs := #[.int .i64 (y + a1)]) (t := 3) (fr := (0, 0)) HNB.out) (by simp [Value.oneCell']) (by omega) (by unfold maxLen; omega) (by omega) (by have := WSZ.out; simp; omega) (wr.heap.size + 1) (by simp) ?_; intro g' cap' w5 hown4 hgrow hat hlt4; have hstep := si_step hlt HP.out.1 HL.out hhl hB0 hh HY.out HX.out HZ.out HB.out hB hown4 hgrow; have c5 := si_cell hlt HL.out HY.out hstep)
      rw [HSS.out] at hstep
      have HST := Lib.hid hstep
      clear hstep hown4 hgrow hat c1 f1
      go_wp2
      go_roundw
      case rel => exact HST.out
      case measure => simp [intOf]; omega
    · obtain rfl : t = m := by omega
      have eX : mix fif L t = P := by have := mix_all fif L; rwa [HL.out, HP.out.1] at this
      rw [eX] at hx
      rw [List.take_of_length_le (by rw [af_len]; have := HP.out.2.1; omega)] at hz
      have lP := HP.out.2.1
      have bP := HP.out.2.2
      have lZ : (af 1 a1 P).length = t := by rw [af_len]; exact lP
      obtain ⟨za, zc, rfl, hzc, hzq⟩ := row_form hz (by omega)
      have zx : Zi wr (some ⟨h, 0, none⟩) t P := own_zi hx lP
      have zz : Zi wr (some ⟨za, 0, none⟩) t (af 1 a1 P) := own_zi hz lZ
      have sP : Sam P := fun x hx => by have := bP x hx; omega
      have sZ : Sam (af 1 a1 P) := fun y hy => by
        obtain ⟨x, hx, rfl⟩ := List.mem_map.1 hy
        have := bP x hx
        show _ ∧ _
        omega
      have G1 : Hid (∀ W, Bel wr W → _) := fun W hW => Sums_ok h c t n P m2 m32 k1 k8 km hcap sP W (zx.bel hW)
      have G2 : Hid (∀ W, Bel wr W → _) := fun W hW => Cen_ok h c t n P m2 m32 k1 k8 km hcap sP W (zx.bel hW)
      have G3 : Hid (∀ W, Bel wr W → _) := fun W hW => Sums_ok za zc t n (af 1 a1 P) m2 m32 k1 k8 km hzc sZ W (zz.bel hW)
      have G4 : Hid (∀ W, Bel wr W → _) := fun W hW => Cen_ok za zc t n (af 1 a1 P) m2 m32 k1 k8 km hzc sZ W (zz.bel hW)
      have G5 : Hid (∀ W, _) := fun W => Starts_ok t n m2 m32 k1 k8 km W
      rw [cen_one] at G4
      have tot : pre P t = su id P := by unfold pre; rw [List.take_of_length_le (by omega)]
      have bt := su_bd bP
      rw [← su_ix, lP] at bt
      rw [tot]
      obtain ⟨T, hT⟩ : ∃ T, su id P = T := ⟨_, rfl⟩
      rw [hT] at bt ⊢
      obtain ⟨T0, T1⟩ : -25600 ≤ T ∧ T ≤ 25600 := by omega
      have HT : Hid (su ix P = T) := by show _ = _; rw [← su_ix, hT]
      have HFB := Lib.hid hb
      have mi1 : 2 ≤ (t : Int) := by omega
      have mi2 : (t : Int) ≤ 32 := by omega
      clear hx hz hb HX HZ eX lP bP lZ zx zz sP sZ tot bt hT
      go_wp2_with fail
      go_at_call 35
      refine (G1.out _ Bel.rf).mono ?_
      rintro e q1 ⟨hs, cs, rfl, _, _, z, hp⟩
      have K1 : Hid (Bel wr q1) := hp
      have Z1 := Lib.hid (own_zi z (pls_len _ _ _))
      clear hp z
      go_wp2_with fail
      go_at_call 36
      refine (G2.out _ K1.out).mono ?_
      rintro e q2 ⟨ht, ct, rfl, _, _, z, hp⟩
      have K2 : Hid (Bel wr q2) := K1.out.tr hp
      have Z1 := Lib.hid (Z1.out.bel hp)
      have Z2 := Lib.hid (own_zi z (pls_len _ _ _))
      clear hp z
      go_wp2_with fail
      go_at_call 35
      refine (G3.out _ K2.out).mono ?_
      rintro e q3 ⟨hu, cu, rfl, _, _, z, hp⟩
      have K3 : Hid (Bel wr q3) := K2.out.tr hp
      have Z1 := Lib.hid (Z1.out.bel hp)
      have Z2 := Lib.hid (Z2.out.bel hp)
      have Z3 := Lib.hid (own_zi z (pls_len _ _ _))
      clear hp z
      go_wp2_with fail
      go_at_call 36
      refine (G4.out _ K3.out).mono ?_
      rintro e q4 ⟨hv, cv, rfl, _, _, z, hp⟩
      have K4 : Hid (Bel wr q4) := K3.out.tr hp
      have Z1 := Lib.hid (Z1.out.bel hp)
      have Z2 := Lib.hid (Z2.out.bel hp)
      have Z3 := Lib.hid (Z3.out.bel hp)
      have Z4 := Lib.hid (own_zi z (pls_len _ _ _))
      clear hp z
      go_wp2_with fail
      go_at_call 27
      refine (G5.out _).mono ?_
      rintro e q5 ⟨ha, ca, rfl, _, _, z, hp⟩
      have K5 : Hid (Bel wr q5) := K4.out.tr hp
      have Z1 := Lib.hid (Z1.out.bel hp)
      have Z2 := Lib.hid (Z2.out.bel hp)
      have Z3 := Lib.hid (Z3.out.bel hp)
      have Z4 := Lib.hid (Z4.out.bel hp)
      have Z5 := Lib.hid (own_zi z (sts_len t n))
      clear hp z
      have nn := ne_self (n : Int)
      have nn1 := ne_self ((n : Int) + 1)
      have nn2 := ne_self (((n + 1 : Nat)) : Int)
      go_wp2_with fail
      go_at_call 37
      refine (ints_same (some ⟨ht, 0, none⟩) (some ⟨hv, 0, none⟩) ct cv n (pls (cen P) t n) (by omega) _ Z2.out Z4.out).mono ?_
      rintro e q6 ⟨rfl, hp⟩
      have K6 : Hid (Bel wr q6) := K5.out.tr hp
      have Z1 := Lib.hid (Z1.out.bel hp)
      have Z2 := Lib.hid (Z2.out.bel hp)
      have Z3 := Lib.hid (Z3.out.bel hp)
      have Z5 := Lib.hid (Z5.out.bel hp)
      clear hp Z4 nn nn1 nn2
      go_wp2
      go_loopw [21, 22, 148] (fun s21 s22 s148 wq => ∃ (p : Nat) (V : World), V = wq ∧ p ≤ n ∧ s148 = .int .i64 (p : Int) ∧ s21 = .int .i64 (pre P (st t n p)) ∧ s22 = .int .i64 (pre (cen P) (st t n p)) ∧ Bel q6 wq) (fun _ _ s148 _ => n - (intOf s148).toNat)
      case atStart => exact ⟨0, _, rfl, by omega, rfl, by rw [st_zero]; rfl, by rw [st_zero]; rfl, Bel.rf⟩
      case round =>
        obtain ⟨p, wq, hwq, hp, rfl, rfl, rfl, hb'⟩ := hrel
        subst hwq
        have HBQ := Lib.hid hb'
        rcases Nat.lt_or_ge p n with hpn | hpn
        · have a1' := (Z5.out.bel hb').at p (by omega)
          have a2' := (Z5.out.bel hb').at (p + 1) (by omega)
          have d1 := (Z1.out.bel hb').at p hpn
          have d2 := (Z2.out.bel hb').at p hpn
          have d3 := (Z3.out.bel hb').at p hpn
          rw [sts_at t n _ (by omega) (by omega)] at a1' a2'
          rw [pls_at _ _ _ _ hpn] at d1 d2 d3
          have hab := st_mono t n p (p + 1) (by omega)
          have hbt := st_le t n (p + 1) (by omega) (by omega)
          have lP := HP.out.2.1
          have bP := HP.out.2.2
          have e3 := pg_af 1 a1 P _ _ hab (by rw [lP]; exact hbt)
          have e2 : pg (cen P) (st t n p) (st t n (p + 1)) = (t : Int) * pg P (st t n p) (st t n (p + 1)) + ((st t n (p + 1) - st t n p : Nat) : Int) * (-T) := by
            unfold cen
            rw [pg_af _ _ _ _ _ hab (by rw [lP]; exact hbt), lP, HT.out]
          have g1 := pg_pre P _ _ hab
          have g2 := pg_pre (cen P) _ _ hab
          have bd1 := pg_bd bP (by decide) (st t n p) (st t n (p + 1))
          have bc : Bd 64000 (cen P) := fun x hx => Go.Proofs.Ytkbpcaggkngpnaa.Pc.cen_bd (fun x hx => by have := bP x hx; omega) (by omega) x hx
          have bd2 := su_bd (bP.take (st t n p))
          have bd3 := su_bd (bc.take (st t n p))
          rw [← su_ix] at bd2 bd3
          have hlen2 : ((cen P).take (st t n p)).length ≤ 32 := by have := List.length_take_le (st t n p) (cen P); omega
          have hlen1 : (P.take (st t n p)).length ≤ 32 := by have := List.length_take_le (st t n p) P; omega
          have HN : Hid (pre P (st t n (p + 1)) = pre P (st t n p) + pg P (st t n p) (st t n (p + 1)) ∧ pre (cen P) (st t n (p + 1)) = pre (cen P) (st t n p) + pg (cen P) (st t n p) (st t n (p + 1))) := ⟨by omega, by omega⟩
          obtain ⟨b0, eb0⟩ : ∃ b, st t n p = b := ⟨_, rfl⟩
          obtain ⟨b1, eb1⟩ : ∃ b, st t n (p + 1) = b := ⟨_, rfl⟩
          rw [eb0] at a1' hab g1 g2 bd2 bd3 hlen1 hlen2
          rw [eb1] at a2' hab g1 g2 hbt
          rw [eb0, eb1] at d1 d2 d3 e2 e3 bd1 HN
          rw [eb0]
          obtain ⟨A, hA⟩ : ∃ A, pg P b0 b1 = A := ⟨_, rfl⟩
          obtain ⟨U, hU⟩ : ∃ A, pg (af 1 a1 P) b0 b1 = A := ⟨_, rfl⟩
          obtain ⟨Q, hQ⟩ : ∃ A, pg (cen P) b0 b1 = A := ⟨_, rfl⟩
          obtain ⟨s, hs'⟩ : ∃ A, pre P b0 = A := ⟨_, rfl⟩
          obtain ⟨z, hz'⟩ : ∃ A, pre (cen P) b0 = A := ⟨_, rfl⟩
          obtain ⟨l, hl⟩ : ∃ l, b1 - b0 = l := ⟨_, rfl⟩
          rw [show su id (P.take b0) = s from hs'] at bd2
          rw [show su id ((cen P).take b0) = z from hz'] at bd3
          rw [hA] at d1 e2 e3 bd1 HN
          rw [hU] at d3 e3
          rw [hQ] at d2 e2 HN
          rw [hl] at e2 e3 bd1
          rw [hs', hz']
          rw [hs', hz'] at HN
          have hli : (b1 : Int) - (b0 : Int) = (l : Int) := by omega
          have lb : (l : Int) ≤ 32 := by omega
          have lb0 : 0 ≤ (l : Int) := by omega
          obtain ⟨A0, A1⟩ : -25600 ≤ A ∧ A ≤ 25600 := by omega
          have kb := mul_bd (A := 32) (B := 128) (x := (l : Int)) (y := a1) (by decide) (by decide) (by omega) lb (by omega) (by omega)
          have xb := mul_bd (A := 32) (B := 25600) (x := (t : Int)) (y := A) (by decide) (by decide) (by omega) mi2 (by omega) (by omega)
          have yb := mul_bd (A := 32) (B := 25600) (x := (l : Int)) (y := T) (by decide) (by decide) (by omega) lb (by omega) (by omega)
          rw [Int.mul_neg] at e2
          rw [Int.one_mul] at e3
          obtain ⟨K, hK⟩ : ∃ K, (l : Int) * a1 = K := ⟨_, rfl⟩
          obtain ⟨X, hX⟩ : ∃ K, (t : Int) * A = K := ⟨_, rfl⟩
          obtain ⟨Y, hY⟩ : ∃ K, (l : Int) * T = K := ⟨_, rfl⟩
          rw [hK] at e3 kb
          rw [hX] at e2 xb
          rw [hY] at e2 yb
          have wK : IntKind.i64.wrap K = K := IntWalk.i64_in _ (by omega)
          have wU : IntKind.i64.wrap U = U := IntWalk.i64_in _ (by omega)
          have wX : IntKind.i64.wrap X = X := IntWalk.i64_in _ (by omega)
          have wY : IntKind.i64.wrap Y = Y := IntWalk.i64_in _ (by omega)
          have wQ : IntKind.i64.wrap Q = Q := IntWalk.i64_in _ (by omega)
          have wl : IntKind.i64.wrap (l : Int) = (l : Int) := IntWalk.i64_in _ (by omega)
          have wb : IntKind.i64.wrap a1 = a1 := IntWalk.i64_in _ (by omega)
          have sU : A + K = U := by omega
          have sQ : X - Y = Q := by omega
          have s01 : IntKind.i64.wrap (s + A) = s + A := IntWalk.i64_in _ (by omega)
          have z01 : IntKind.i64.wrap (z + Q) = z + Q := IntWalk.i64_in _ (by omega)
          obtain ⟨t1, ht1⟩ : ∃ k, p + 1 = k := ⟨_, rfl⟩
          rw [ht1] at a2'
          have hti : (p : Int) + 1 = (t1 : Int) := by omega
          have ti : (p : Int) < (n : Int) := by omega
          have tn1 : (p : Int) < ((n + 1 : Nat) : Int) := by omega
          have tn2 : (t1 : Int) < ((n + 1 : Nat) : Int) := by omega
          have tn3 : (p : Int) < (n : Int) + 1 := by omega
          have tn4 : (t1 : Int) < (n : Int) + 1 := by omega
          have nU := ne_self U
          have nQ := ne_self Q
          have HT1 : Hid (t1 ≤ n ∧ b1 = st t n t1) := by refine ⟨?_, ?_⟩; omega; rw [← ht1, eb1]
          have HT2 : Hid (n - (intOf (.int .i64 (t1 : Int))).toNat < n - (intOf (.int .i64 (p : Int))).toNat) := by show _ < _; simp [intOf]; omega
          clear hb' eb0 eb1 hab hbt lP bP e2 e3 g1 g2 bd1 bc bd2 bd3 hlen1 hlen2 hA hU hQ hs' hz' hl kb xb yb ht1 hp
          go_wp2
          go_quiet (fail)
          go_wp2
          go_quiet (fail)
          go_wp2
          go_quiet (fail)
          go_wp2
          all_goals
            go_roundw
            case rel => exact ⟨t1, _, rfl, HT1.out.1, rfl, by rw [← HT1.out.2, HN.out.1], by rw [← HT1.out.2, HN.out.2], by first | exact HBQ.out.drwN _ | exact HBQ.out.drw | exact HBQ.out⟩
            case measure => exact HT2.out
        · obtain rfl : p = n := by omega
          have f1 : pre P (st t p p) = T := by rw [st_all t p k1]; unfold pre; rw [List.take_of_length_le (by have := HP.out.2.1; omega), su_ix, HT.out]
          have f2 : pre (cen P) (st t p p) = 0 := by rw [st_all t p k1]; unfold pre; rw [List.take_of_length_le (by rw [cen_len']; have := HP.out.2.1; omega), su_ix, cen_su]
          rw [f1, f2]
          clear hb' f1 f2
          go_wp2_with (go_at_call 28; refine (AW.out _).mono ?_; rintro e w9 ⟨rfl, hb9⟩)
          go_ret
          exact ⟨rfl, ((HFB.out.tr (K6.out.tr HBQ.out)).tr hb9).bl⟩

set_option maxRecDepth 100000 in
theorem lifted (os : Os) (started : os.Started) (H : Type) (enc : TypeId × Value → H) :
    ReturnsInHanded {} Try.checked os 11 .any (Rows.piecesSumsSpec.pre6 enc Try.prog Try.f11 Rows.piecesSumsRow.domain false) (Rows.piecesSumsSpec.post enc Try.prog Try.f11 false true false false) := by
  refine returnsInHanded_of_change (C := Try.checked) own started (by kernel_rfl) Try.func11
    (ChangeSpec.witness6 (enc := enc) (C := Try.checked) false ⟨#[], #[.slice none 0 0, .int .i8 0], []⟩ 8 (by kernel_rfl) (by kernel_rfl) (by kernel_rfl) (by kernel_rfl)) ?_
  intro W base args ds gs before hval0 hW hcnd _
  have hval : ∀ (j : Nat) t v, Try.f11.params[j]? = some t → args[j]? = some v → Value.okWide Try.prog W .any base t v := hval0
  have hW' := hW
  obtain ⟨p, q, hA0, hV, rfl, hfz, hnd⟩ := hW
  have hA : DataW.TrodAll enc Try.prog W 0 (fun _ => true) true Try.f11.params.toList args.toList ds p := hA0
  rw [Try.params11] at hA hval
  obtain ⟨v0, vs0, d0, ds0, p0, q0, hargs, rfl, rfl, h0, r0⟩ := trodAll_cons hA
  obtain ⟨v1, vs1, d1, ds1, p1, q1, rfl, rfl, rfl, h1, r1⟩ := trodAll_cons r0
  obtain ⟨rfl, rfl, rfl⟩ := trodAll_nil r1
  obtain rfl : args = #[v0, v1] := by cases args; simp_all
  obtain ⟨rfl, rfl⟩ := trodVars_none hV
  obtain ⟨a0, len0, cap0, rfl⟩ := okWide_slice Try.underlying22 (hval 0 22 v0 rfl rfl)
  have k0 := h0
  have lt0 : ∀ x ∈ p0, x.block < W.heap.size := by obtain ⟨m, hm⟩ := k0; exact DataW.trod_lt m _ _ _ hm
  obtain ⟨z0, w0⟩ : ∃ zs, IsRow .i64 W a0 len0 cap0 zs := by
    obtain ⟨fuel, hf⟩ := h0
    rcases open_ints Try.underlying22 Try.underlying3 (by kernel_rfl) hf with ⟨hcs, _⟩ | ⟨x, l, c, zs, hcs, _, hl, hm, hz, _, hcell, hwz⟩
    · simp [Value.cells] at hcs
      obtain ⟨rfl, rfl, rfl⟩ := hcs
      exact ⟨[], .inl ⟨rfl, rfl, rfl, rfl⟩⟩
    · simp [Value.cells] at hcs
      obtain ⟨rfl, rfl, rfl⟩ := hcs
      exact ⟨zs, .inr ⟨_, rfl, hl, hm, by simpa using hz, hcell, hwz⟩⟩
  obtain ⟨a1, rfl, rfl, rfl, w1⟩ := open_int Try.underlying34 (hval 1 34 v1 rfl rfl) h1
  clear hA0 hval0
  refine (walk a0 len0 cap0 z0 a1 W w0 w1).mono fun e W' ⟨he, bel⟩ => ?_
  subst he
  exact ⟨_, rfl, _, _, _, [], _, [], hW', trodAll_mk1 (shut_bool Try.underlying4 _), (trodAll_cons_mk (Below.trod laidOut (by kernel_rfl) (of_decide_eq_true (by kernel_rfl)) k0 bel lt0) (trodAll_cons_mk (shut_int Try.underlying34 w1) trodAll_mk0)), rfl, bel.frame _, fun h => by cases h⟩

theorem over : Rows.piecesSumsRow.holds Try.pinned (OpenSpec.ofChange Rows.piecesSumsSpec) :=
  OpenClaim.holds_of_wide_leaving 11 Try.f11 rfl rfl rfl rfl rfl rfl rfl ⟨rfl, rfl, rfl, rfl, rfl⟩ rfl rfl rfl rfl rfl (by kernel_rfl) Try.func11 (by kernel_rfl)
    (of_decide_eq_true (by kernel_rfl)) (by unfold Func.isWrapper; first | (rw [if_pos (by decide +kernel)]; kernel_rfl) | (rw [if_neg (by decide +kernel)]; exact ⟨rfl, rfl⟩))
    (fun os started H enc _ => Lv.leaving_of_handed (lifted os started H enc))

theorem proved : Rows.PiecesSumsSaid := over
end Go.Proofs.Ytkbpcaggkngpnaa.piecesSums
