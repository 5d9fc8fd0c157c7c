/- That the law EnvelopeMoves returns true for every input that can be read, and leaves its arguments as they were; no further condition. -/
import Derived.Test.YtiinoiookdhibaaRows
import Derived.WalkKit
import Derived.ProofKit
import Derived.OpenShut
import Derived.Test.YtiinoiookdhibaaWords
import Derived.Test.YtiinoiookdhibaaSrcNew0
import Derived.Test.YtiinoiookdhibaaEnv4
import Derived.Test.YtiinoiookdhibaaApp
import Derived.ShutString
import Derived.ChangeOld
import Derived.Below
namespace Go.Proofs.Ytiinoiookdhibaa.envelopeMoves
open Go.ChangeShapes Go.WideShapes Go.ChangeAt Go.RowKit Wo
open Go.ChangeMaps (open_string shut_string)
set_option linter.unusedVariables false

theorem own : ownKnob Try.prog.godebug = none := by kernel_rfl
theorem laidOut : laidOutB Try.prog = true := by kernel_rfl

/-- WHAT THE WALK IS TOLD OF A SLICE OF INTEGERS THAT CAME IN: it is nil; or it leads to a row of 'cap' cells, the numbers 'zs' (the first 'len' are its elements, the rest its spare room), each fitting its kind. -/
def IsRow (k : IntKind) (w : World) (a : Option Addr) (len cap : Nat) (zs : List Int) : Prop :=
  (a = none ∧ len = 0 ∧ cap = 0 ∧ zs = []) ∨
  ∃ x, a = some x ∧ len ≤ cap ∧ cap ≤ maxLen ∧ zs.length = cap ∧ (∀ i, i < zs.length → w.cell? (x.add i) = some (.int k (zs.getD i 0))) ∧ ∀ n ∈ zs, (Lit.int k n).wf = true

section
open Go.Proofs.Ytiinoiookdhibaa.Pc Go.Proofs.Ytiinoiookdhibaa.Nr Go.Proofs.Ytiinoiookdhibaa.Wi Go.Proofs.Ytiinoiookdhibaa.Wo Go.Proofs.Ytiinoiookdhibaa.Sr
/-- four fifths of a sample -/
def fif (a : Int) : Int := (a * 4).tdiv 5
theorem fif_in {a : Int} (h0 : -1000 ≤ a) (h1 : a ≤ 1000) : -800 ≤ fif a ∧ fif a ≤ 800 := by
  unfold fif
  rcases Int.lt_or_le a 0 with h | h
  · have e : (a * 4).tdiv 5 = -((-(a * 4)).tdiv 5) := by rw [Int.neg_tdiv, Int.neg_neg]
    rw [e, Int.tdiv_eq_ediv_of_nonneg (by omega)]
    omega
  · rw [Int.tdiv_eq_ediv_of_nonneg (by omega)]
    omega
def SI (L P : List Int) (b : Int) (n h c B0 : Nat) (v : World) (sa si : Value) (wr : World) : Prop := ∃ (t : Nat) (V : World) (u : Value), V = wr ∧ u = sa ∧ t ≤ n ∧ si = .int .i64 (t : Int) ∧
  wr.ownsRow B0 3 1 (.slice (some ⟨h, 0, none⟩) n c) n (zs (mix fif L t)) ∧ wr.ownsRow v.heap.size 3 1 sa t (zs ((af 1 b P).take t)) ∧ Ch h v wr ∧ v.heap.size ≤ wr.heap.size
theorem si_step {L P : List Int} {b y : Int} {n h c B0 t g cap : Nat} {v wr w2 : World} {s9 : Value} (ht : t < n) (hP : L.map fif = P) (hL : L.length = n) (hhB : h < v.heap.size) (hy : fif (L.getD t 0) = y)
    (h1 : wr.ownsRow B0 3 1 (.slice (some ⟨h, 0, none⟩) n c) n (zs (mix fif L t))) (h2 : wr.ownsRow v.heap.size 3 1 s9 t (zs ((af 1 b P).take t))) (hc : Ch h v wr) (hB : v.heap.size ≤ wr.heap.size)
    (h3 : w2.ownsRow v.heap.size 3 1 (.slice (some ⟨g, 0, none⟩) (t + 1) cap) (t + 1) (zs ((af 1 b P).take t) ++ [.int .i64 (y + b)]))
    (hgr : ((wr.setCell ⟨h, t, none⟩ (.int .i64 y)).alloc (.cells #[.int .i64 (y + b)] 3)).grownBy w2 s9.ownBlock) :
    SI L P b n h c B0 v (.slice (some ⟨g, 0, none⟩) (t + 1) cap) (.int .i64 ((t : Int) + 1)) w2 := by
  have hrow : ∀ q, s9.ownBlock = some q → v.heap.size ≤ q := fun q e => (h2.lt q e).1
  have k1 : ((wr.setCell ⟨h, t, none⟩ (.int .i64 y)).alloc (.cells #[.int .i64 (y + b)] 3)).ownsRow B0 3 1 (.slice (some ⟨h, 0, none⟩) n c) n (zs (mix fif L (t + 1))) := by
    rw [← mix_set fif L t (by omega), hy]
    exact (own_set h1 y).alloc _
  have k2 : Ch h v ((wr.setCell ⟨h, t, none⟩ (.int .i64 y)).alloc (.cells #[.int .i64 (y + b)] 3)) := (hc.st t _).al _
  have lP : P.length = n := by rw [← hP]; simpa using hL
  have hg : P.getD t 0 = y := by rw [← hP, map_at fif L t (by omega), hy]
  refine ⟨t + 1, _, _, rfl, rfl, by omega, by congr 1, ?_, ?_, ?_, ?_⟩
  · exact k1.kept hgr (.inr (fun e => by have := hrow h e.symm; omega))
  · have e : (af 1 b P).take (t + 1) = (af 1 b P).take t ++ [y + b] := by
      rw [take_snoc _ t (by rw [af_len]; omega), af_at 1 b P t (by omega), hg, Int.mul_one]
    rw [e, zs_app]
    exact h3
  · exact ch_grown k2 hgr hrow
  · have := hgr.size
    simp [World.setCell] at this
    omega
theorem kv_shift (s : Int) {Y U L : List Int} (h1 : U.length = Y.length) (h2 : L.length = Y.length) : kv (af 1 s Y) (af 1 s U) (af 1 s L) = kv Y U L := by
  unfold kv
  rw [pz_shift s h1 h2]
theorem sam_af {P : List Int} {b : Int} (h : Bd 800 P) (b0 : -128 ≤ b) (b1 : b ≤ 127) : Sam (af 1 b P) := fun y hy => by
  obtain ⟨x, hx, rfl⟩ := List.mem_map.1 hy
  have := h x hx
  show _ ∧ _
  omega
end
open Go.Proofs.Ytiinoiookdhibaa.Nr in
open Go.Proofs.Ytiinoiookdhibaa.Ev Go.Proofs.Ytiinoiookdhibaa.Pc Go.Proofs.Ytiinoiookdhibaa.Eu Go.Proofs.Ytiinoiookdhibaa.Wi Go.Proofs.Ytiinoiookdhibaa.Wo Go.Proofs.Ytiinoiookdhibaa.Sr Go.Proofs.Ytiinoiookdhibaa.Ra in
set_option maxHeartbeats 4000000 in
set_option maxRecDepth 100000 in
theorem walk (a0 : Option Addr) (len0 cap0 : Nat) (z0 : List Int) (a1 : Int) (w : World) (w0 : IsRow .i64 w a0 len0 cap0 z0) (w1 : (Lit.int .i8 a1).wf = true) :
    Calls Try.prog 10 #[.slice a0 len0 cap0, .int .i8 a1] w fun e w' => e = .returned (.bool true) ∧ Below w.heap.size w w' := by
  have b1 := bounds_i8 w1
  obtain ⟨i1, i2⟩ := b1
  have HW := Lib.hid w1
  clear w1
  obtain ⟨i0, hi0, hz0, hz1, hz2⟩ := info_parts info_int
  have HI := Lib.hid (And.intro hi0 (And.intro hz0 (And.intro hz1 hz2)))
  clear hi0 hz0 hz1 hz2
  have AW : Hid (∀ W, Calls Try.prog 29 #[] W fun e w' => e = .returned (.bool true) ∧ Bel W w') := Go.Proofs.Ytiinoiookdhibaa.Ev.awake_any
  go_enter Try.func10, Try.ntmps10
  go_wp2_with fail
  go_at_call 14
  refine (new_any a0 len0 cap0 z0 w w0).mono ?_
  rintro e v1 ⟨g, rfl, hg, ho1, hb1⟩
  have HO1 := Lib.hid ho1
  have HB1 := Lib.hid hb1
  clear ho1 hb1 w0
  go_wp2_with fail
  go_at_call 27
  refine (uneven_any g _ HO1.out).mono ?_
  rintro e v2 ⟨xa, xb, ya, yb, n, m, L, M, k, rfl, n1, n2, m1, m2, hne, hcx, hcy, k0, k32, kb1, kb2, hox, hoy, lL, lM, sL, sM, ho2, hc2⟩
  have HB2 : Hid (Bel w v2) := Bel.ch HB1.out hc2 hg
  have hgv := HO1.out.lt
  have HO2 := Lib.hid ho2
  have HLL := Lib.hid (And.intro lL (And.intro lM (And.intro sL sM)))
  have ni1 : 2 ≤ (n : Int) := by omega
  have ni2 : (n : Int) ≤ 32 := by omega
  have mi1 : 2 ≤ (m : Int) := by omega
  have mi2 : (m : Int) ≤ 32 := by omega
  have HOX := Lib.hid hox
  have HOY := Lib.hid hoy
  clear ho2 hc2 hox hoy
  obtain ⟨Z, hZ⟩ : ∃ Z : Nat, min 8 m = Z := ⟨_, rfl⟩
  have hQ1 : (if (m : Int) < 8 then (m : Int) else 8) = (Z : Int) := by split <;> omega
  have hQ2 : (if (m : Int) < 8 then Value.int .i64 (m : Int) else Value.int .i64 8) = Value.int .i64 (Z : Int) := by split <;> (congr 1; omega)
  have hQ3 : min (8 : Int) (m : Int) = (Z : Int) := by omega
  go_wp2_with fail
  go_at_call 30
  refine (range_any g 1 (Z : Int) (by omega) (by omega) (by omega) _ HO2.out).mono ?_
  rintro e v3 ⟨x, rfl, hx0, hx1, ho3, hc3⟩
  obtain ⟨r, rfl⟩ := Int.eq_ofNat_of_zero_le (show 0 ≤ x by omega)
  have HB3 : Hid (Bel w v3) := Bel.ch HB2.out hc3 hg
  have r1 : 1 ≤ r := by omega
  have r8 : r ≤ 8 := by omega
  have rm : r ≤ m := by omega
  have ri1 : 1 ≤ (r : Int) := by omega
  have ri8 : (r : Int) ≤ 8 := by omega
  have HOX3 := Lib.hid (own_ch HOX.out hc3 hgv)
  have HOY3 := Lib.hid (own_ch HOY.out hc3 hgv)
  have hltx := (HOX3.out.lt xa rfl).2
  have hlty := (HOY3.out.lt ya rfl).2
  have hxb := (HOX3.out.lt xa rfl).1
  have hyb := (HOY3.out.lt ya rfl).1
  have hw1 := HB1.out.size
  clear hx0 hx1 ho3 hc3 HOX HOY hZ hQ1 hQ2 hQ3
  obtain ⟨P, hP⟩ : ∃ P, L.map fif = P := ⟨_, rfl⟩
  obtain ⟨Q, hQ⟩ : ∃ Q, M.map fif = Q := ⟨_, rfl⟩
  have bP : Bd 800 P := fun x hx => by
    rw [← hP] at hx
    obtain ⟨z, hz1, rfl⟩ := List.mem_map.1 hx
    have := sL z hz1
    exact fif_in this.1 this.2
  have bQ : Bd 800 Q := fun x hx => by
    rw [← hQ] at hx
    obtain ⟨z, hz1, rfl⟩ := List.mem_map.1 hx
    have := sM z hz1
    exact fif_in this.1 this.2
  have HP1 := Lib.hid (And.intro hP (And.intro (show P.length = n by rw [← hP]; simpa using lL) bP))
  have HP2 := Lib.hid (And.intro hQ (And.intro (show Q.length = m by rw [← hQ]; simpa using lM) bQ))
  have HR0 : Hid (SI L P a1 n xa xb v1.heap.size v3 (.slice none 0 0) (.int .i64 0) v3) := ⟨0, _, _, rfl, rfl, by omega, rfl, by have := HOX3.out; simpa [mix] using this, World.ownsRow_nil _ _ _ _, Ch.rf, Nat.le_refl _⟩
  have hlt1 := hltx
  clear hP hQ bP bQ lL lM sL sM
  go_wp2
  go_loopw [10, 43] (fun sa si wr => SI L P a1 n xa xb v1.heap.size v3 sa si wr) (fun _ si _ => n - (intOf si).toNat)
  case atStart => exact HR0.out
  case round =>
    clear HR0
    obtain ⟨t, wr, u9, hwr, hu9, ht, rfl, hx, hz, hch, hB⟩ := hrel
    subst hwr hu9
    have HX := Lib.hid hx
    have HZ := Lib.hid hz
    have HCH := Lib.hid hch
    rcases Nat.lt_or_ge t n with hlt | hge
    · have c1 := (own_zi hx (by rw [mix_len]; exact HLL.out.1)).at t hlt
      rw [mix_at fif L t (by have := HLL.out.1; omega)] at c1
      have f1 := own_fr hx t
      have px := HLL.out.2.2.1.at t
      obtain ⟨x, hxx⟩ : ∃ x, L.getD t 0 = x := ⟨_, rfl⟩
      rw [hxx] at c1 px
      obtain ⟨x0, x1⟩ := px
      have py := fif_in x0 x1
      obtain ⟨y, hy⟩ : ∃ y, fif x = y := ⟨_, rfl⟩
      rw [hy] at py
      obtain ⟨y0, y1⟩ := py
      have hq : (x * 4).tdiv 5 = y := hy
      have HY : Hid (fif (L.getD t 0) = y) := by show _ = _; rw [hxx, hy]
      have ti : (t : Int) < (n : Int) := by omega
      have hown1 := ownsRow_setCell_below hz (a := ⟨xa, t, none⟩) hlt1 (.int .i64 y)
      have HOW := Lib.hid hown1
      have wsz : (wr.setCell ⟨xa, t, none⟩ (.int .i64 y)).heap.size = wr.heap.size := by simp [World.setCell]
      have WSZ := Lib.hid wsz
      have HNB : Hid (((wr.setCell ⟨xa, t, none⟩ (.int .i64 y)).alloc (.cells #[.int .i64 (y + a1)] 3)).heap[wr.heap.size]? = some (.cells #[.int .i64 (y + a1)] 3 (0, 0))) := by
        have := heap_alloc_new (wr.setCell ⟨xa, t, none⟩ (.int .i64 y)) (.cells #[.int .i64 (y + a1)] 3)
        rw [wsz] at this
        exact this
      have wq : IntKind.i64.wrap y = y := IntWalk.i64_in _ (by omega)
      have wq2 : wrap64 y = y := IntWalk.wrap64_in _ (by omega)
      clear hx hz hch hown1 hxx hy wsz
      go_wp2_with (at_builtin; refine wpList_append_lies _ (by rfl) _ _ 22 (by rfl) v3.heap.size 3 i0 _ 1 8 Try.underlying22 HI.out.1 HI.out.2.1 HI.out.2.2.1 HI.out.2.2.2 (by rfl) (by omega) u9 t (zs ((af 1 a1 P).take t)) (by rfl) (HOW.out.alloc _) ⟨wr.heap.size, 0, none⟩ 1 1 [.int .i64 (y + a1)] (by rfl) (by rfl) (World.news_of_block (cs := #[.int .i64 (y + a1)]) (t := 3) (fr := (0, 0)) HNB.out) (by simp [Value.oneCell']) (by omega) (by unfold maxLen; omega) (by omega) (by have := WSZ.out; simp; omega) (wr.heap.size + 1) (by simp) ?_; intro g' cap' w5 hown4 hgrow hat hlt4)
      have hstep := si_step hlt HP1.out.1 HLL.out.1 hlt1 HY.out HX.out HZ.out HCH.out hB hown4 hgrow
      have HST := Lib.hid hstep
      clear hstep hown4 hgrow hat c1 f1
      go_wp2
      go_roundw
      case rel => exact HST.out
      case measure => simp [intOf]; omega
    · obtain rfl : t = n := by omega
      have eX : mix fif L t = P := by have := mix_all fif L; rwa [HLL.out.1, HP1.out.1] at this
      rw [eX] at hx
      rw [List.take_of_length_le (by rw [af_len]; have := HP1.out.2.1; omega)] at hz
      have hoy := HOY3.out.kept hch (.inr (fun e => by injection e with e; exact hne e.symm))
      have hlt2 : ya < wr.heap.size := by omega
      obtain ⟨pa, pc, rfl, hpc, hpb⟩ := row_form hz (by omega)
      have zx : Zi wr (some ⟨xa, 0, none⟩) t P := own_zi hx HP1.out.2.1
      have zp : Zi wr (some ⟨pa, 0, none⟩) t (af 1 a1 P) := own_zi hz (by rw [af_len]; exact HP1.out.2.1)
      have HZX := Lib.hid (And.intro zx zp)
      have HBW := Lib.hid (Bel.ch HB3.out hch (by omega))
      have HR0 : Hid (SI M Q a1 m ya yb v1.heap.size wr (.slice none 0 0) (.int .i64 0) wr) := ⟨0, _, _, rfl, rfl, by omega, rfl, by simpa [mix] using hoy, World.ownsRow_nil _ _ _ _, Ch.rf, Nat.le_refl _⟩
      have hpya : pa ≠ ya := by omega
      clear hx hz hch zx zp hoy HX HZ HCH eX
      go_wp2
      go_loopw [11, 68] (fun sa si wz => SI M Q a1 m ya yb v1.heap.size wr sa si wz) (fun _ si _ => m - (intOf si).toNat)
      case atStart => exact HR0.out
      case round =>
        clear HR0
        obtain ⟨s, wz, u9, hwr, hu9, ht, rfl, hx, hz, hch, hB⟩ := hrel
        subst hwr hu9
        have HX := Lib.hid hx
        have HZ := Lib.hid hz
        have HCH := Lib.hid hch
        rcases Nat.lt_or_ge s m with hlt | hge
        · have c1 := (own_zi hx (by rw [mix_len]; exact HLL.out.2.1)).at s hlt
          rw [mix_at fif M s (by have := HLL.out.2.1; omega)] at c1
          have f1 := own_fr hx s
          have px := HLL.out.2.2.2.at s
          obtain ⟨x, hxx⟩ : ∃ x, M.getD s 0 = x := ⟨_, rfl⟩
          rw [hxx] at c1 px
          obtain ⟨x0, x1⟩ := px
          have py := fif_in x0 x1
          obtain ⟨y, hy⟩ : ∃ y, fif x = y := ⟨_, rfl⟩
          rw [hy] at py
          obtain ⟨y0, y1⟩ := py
          have hq : (x * 4).tdiv 5 = y := hy
          have HY : Hid (fif (M.getD s 0) = y) := by show _ = _; rw [hxx, hy]
          have ti : (s : Int) < (m : Int) := by omega
          have hown1 := ownsRow_setCell_below hz (a := ⟨ya, s, none⟩) hlt2 (.int .i64 y)
          have HOW := Lib.hid hown1
          have wsz : (wz.setCell ⟨ya, s, none⟩ (.int .i64 y)).heap.size = wz.heap.size := by simp [World.setCell]
          have WSZ := Lib.hid wsz
          have HNB : Hid (((wz.setCell ⟨ya, s, none⟩ (.int .i64 y)).alloc (.cells #[.int .i64 (y + a1)] 3)).heap[wz.heap.size]? = some (.cells #[.int .i64 (y + a1)] 3 (0, 0))) := by
            have := heap_alloc_new (wz.setCell ⟨ya, s, none⟩ (.int .i64 y)) (.cells #[.int .i64 (y + a1)] 3)
            rw [wsz] at this
            exact this
          have wq : IntKind.i64.wrap y = y := IntWalk.i64_in _ (by omega)
          have wq2 : wrap64 y = y := IntWalk.wrap64_in _ (by omega)
          clear hx hz hch hown1 hxx hy wsz
          go_wp2_with (at_builtin; refine wpList_append_lies _ (by rfl) _ _ 22 (by rfl) wr.heap.size 3 i0 _ 1 8 Try.underlying22 HI.out.1 HI.out.2.1 HI.out.2.2.1 HI.out.2.2.2 (by rfl) (by omega) u9 s (zs ((af 1 a1 Q).take s)) (by rfl) (HOW.out.alloc _) ⟨wz.heap.size, 0, none⟩ 1 1 [.int .i64 (y + a1)] (by rfl) (by rfl) (World.news_of_block (cs := #[.int .i64 (y + a1)]) (t := 3) (fr := (0, 0)) HNB.out) (by simp [Value.oneCell']) (by omega) (by unfold maxLen; omega) (by omega) (by have := WSZ.out; simp; omega) (wz.heap.size + 1) (by simp) ?_; intro g' cap' w5 hown4 hgrow hat hlt4)
          have hstep := si_step hlt HP2.out.1 HLL.out.2.1 hlt2 HY.out HX.out HZ.out HCH.out hB hown4 hgrow
          have HST := Lib.hid hstep
          clear hstep hown4 hgrow hat c1 f1
          go_wp2
          go_roundw
          case rel => exact HST.out
          case measure => simp [intOf]; omega
        · obtain rfl : s = m := by omega
          have eX : mix fif M s = Q := by have := mix_all fif M; rwa [HLL.out.2.1, HP2.out.1] at this
          rw [eX] at hx
          rw [List.take_of_length_le (by rw [af_len]; have := HP2.out.2.1; omega)] at hz
          obtain ⟨qa, qc, rfl, hqc, hqb⟩ := row_form hz (by omega)
          have zx := HZX.out.1.ch hch (fun ad e => by cases e; exact hne)
          have zp := HZX.out.2.ch hch (fun ad e => by cases e; exact hpya)
          have zy : Zi wz (some ⟨ya, 0, none⟩) s Q := own_zi hx HP2.out.2.1
          have zq : Zi wz (some ⟨qa, 0, none⟩) s (af 1 a1 Q) := own_zi hz (by rw [af_len]; exact HP2.out.2.1)
          have lP := HP1.out.2.1
          have lQ := HP2.out.2.1
          have sP : Sam P := fun x hx => by have := HP1.out.2.2 x hx; omega
          have sQ : Sam Q := fun x hx => by have := HP2.out.2.2 x hx; omega
          have sP' : Sam (af 1 a1 P) := sam_af HP1.out.2.2 i1 i2
          have sQ' : Sam (af 1 a1 Q) := sam_af HP2.out.2.2 i1 i2
          have G1 : Hid (∀ W, Bel wz W → _) := fun W hW => keogh_ok xa ya xb yb t s P Q k n1 n2 m1 m2 k0 k32 kb1 kb2 sP sQ W (zx.bel hW) (zy.bel hW)
          have G2 : Hid (∀ W, Bel wz W → _) := fun W hW => keogh_ok pa qa pc qc t s (af 1 a1 P) (af 1 a1 Q) k n1 n2 m1 m2 k0 k32 kb1 kb2 sP' sQ' W (zp.bel hW) (zq.bel hW)
          have G3 : Hid (∀ W, Bel wz W → _) := fun W hW => improved_ok xa ya xb yb t s P Q k n1 n2 m1 m2 k0 k32 kb1 kb2 sP sQ W (zx.bel hW) (zy.bel hW)
          have G4 : Hid (∀ W, Bel wz W → _) := fun W hW => improved_ok pa qa pc qc t s (af 1 a1 P) (af 1 a1 Q) k n1 n2 m1 m2 k0 k32 kb1 kb2 sP' sQ' W (zp.bel hW) (zq.bel hW)
          have G5 : Hid (∀ W, Bel wz W → _) := fun W hW => pieces_ok xa ya xb yb t s r P Q k n1 n2 m1 m2 k0 k32 kb1 kb2 r1 r8 rm hcy sP sQ W (zx.bel hW) (zy.bel hW)
          have G6 : Hid (∀ W, Bel wz W → _) := fun W hW => pieces_ok pa qa pc qc t s r (af 1 a1 P) (af 1 a1 Q) k n1 n2 m1 m2 k0 k32 kb1 kb2 r1 r8 rm hqc sP' sQ' W (zp.bel hW) (zq.bel hW)
          have G7 : Hid (∀ W, Bel wz W → _) := fun W hW => improved_ok xa xa xb xb t t P P k n1 n2 n1 n2 k0 k32 (by omega) (by omega) sP sP W (zx.bel hW) (zx.bel hW)
          have HBQ := Lib.hid (Bel.ch HBW.out hch (by omega))
          have HLQ := Lib.hid (And.intro lP lQ)
          clear hx hz hch zx zp zy zq lP lQ sP sQ sP' sQ' HX HZ HCH eX HZX
          go_wp2_with fail
          go_at_call 31
          refine (G1.out _ Bel.rf).mono ?_
          rintro e q1 ⟨U, Lo, rfl, he, hb⟩
          have K1 : Hid (Bel wz q1) := hb
          have HE := Lib.hid he
          obtain ⟨s1, hs1⟩ : ∃ z, kv Q U Lo = z := ⟨_, rfl⟩
          rw [hs1]
          have HS1 := Lib.hid hs1
          clear hb he hs1
          go_wp2_with fail
          go_at_call 31
          refine (G2.out _ K1.out).mono ?_
          rintro e q2 ⟨U', Lo', rfl, he, hb⟩
          obtain ⟨rfl, rfl⟩ := he.eq (HE.out.shift a1)
          rw [kv_shift a1 (by rw [HE.out.1, HLQ.out.2]) (by rw [HE.out.2.1, HLQ.out.2]), HS1.out]
          have K2 : Hid (Bel wz q2) := K1.out.tr hb
          clear hb he
          go_wp2_with fail
          go_at_call 32
          refine (G3.out _ K2.out).mono ?_
          rintro e q3 ⟨U', Lo', A, B, rfl, he, hf, hb⟩
          obtain ⟨rfl, rfl⟩ := he.eq HE.out
          have HF := Lib.hid hf
          have K3 : Hid (Bel wz q3) := K2.out.tr hb
          obtain ⟨s2, hs2⟩ : ∃ z, kv P A B = z := ⟨_, rfl⟩
          rw [HS1.out, hs2]
          have HS2 := Lib.hid hs2
          clear hb he hf hs2
          go_wp2_with fail
          go_at_call 32
          refine (G4.out _ K3.out).mono ?_
          rintro e q4 ⟨U', Lo', A', B', rfl, he, hf, hb⟩
          obtain ⟨rfl, rfl⟩ := he.eq (HE.out.shift a1)
          rw [pj_shift a1 (by rw [HE.out.1, HLQ.out.2]) (by rw [HE.out.2.1, HLQ.out.2])] at hf
          obtain ⟨rfl, rfl⟩ := hf.eq (HF.out.shift a1)
          rw [kv_shift a1 (by rw [HE.out.1, HLQ.out.2]) (by rw [HE.out.2.1, HLQ.out.2]), kv_shift a1 (by rw [HF.out.1, HLQ.out.1]) (by rw [HF.out.2.1, HLQ.out.1]), HS1.out, HS2.out]
          have K4 : Hid (Bel wz q4) := K3.out.tr hb
          clear hb he hf
          obtain ⟨s12, hs12⟩ : ∃ z, s1 + s2 = z := ⟨_, rfl⟩
          go_wp2_with fail
          go_at_call 33
          refine (G5.out _ K4.out).mono ?_
          rintro e q5 ⟨U', Lo', tt, uu, rfl, he, hv, hb⟩
          obtain ⟨rfl, rfl⟩ := he.eq HE.out
          have V5 := Lib.hid hv
          have K5 : Hid (Bel wz q5) := K4.out.tr hb
          have D5 := Lib.hid (Bk.nw q5 36 #[.int .i64 tt, .int .i64 uu])
          clear hb he hv
          go_wp2_with fail
          go_at_call 33
          refine (G6.out _ (K5.out.al _)).mono ?_
          rintro e q6 ⟨U', Lo', t6, u6, rfl, he, hv, hb⟩
          obtain ⟨rfl, rfl⟩ := he.eq (HE.out.shift a1)
          rw [pp_shift a1 HLQ.out.2 HE.out.1 HE.out.2.1 r1] at hv
          obtain ⟨rfl, rfl⟩ := vl_eq (cq_in s r r1 rm m2).1 V5.out hv
          have K6 : Hid (Bel wz q6) := Bel.tr (K5.out.al _) hb
          have D56 := Lib.hid ((D5.out.bel hb).al (.cells #[.int .i64 tt, .int .i64 uu] 36))
          have D6 := Lib.hid (Bk.nw q6 36 #[.int .i64 tt, .int .i64 uu])
          clear hb he hv
          go_wp2_with fail
          go_at_call 32
          refine (G7.out _ (K6.out.al _)).mono ?_
          rintro e q7 ⟨U3, L3, A3, B3, rfl, he, hf, hb⟩
          have e1 := kv_self k0 (by rw [HLQ.out.1]; exact he : Env P k P.length U3 L3)
          rw [e1.2] at hf
          have e2 := kv_self k0 (by rw [HLQ.out.1]; exact hf : Env P k P.length A3 B3)
          rw [e1.1, e2.1]
          have K7 : Hid (Bel wz q7) := Bel.tr (K6.out.al _) hb
          have f1 := (D56.out.bel hb).cell 0
          have f2 := (D56.out.bel hb).cell 1
          have f3 := (D6.out.bel hb).cell 0
          have f4 := (D6.out.bel hb).cell 1
          clear hb he hf e1 e2
          go_wp2_with (go_at_call 29; refine (AW.out _).mono ?_; rintro e w9 ⟨rfl, hb9⟩)
          go_ret
          exact ⟨rfl, ((HBQ.out.tr K7.out).tr hb9).bl⟩

set_option maxRecDepth 100000 in
theorem lifted (os : Os) (started : os.Started) (H : Type) (enc : TypeId × Value → H) :
    ReturnsInHanded {} Try.checked os 10 .any (Rows.envelopeMovesSpec.pre6 enc Try.prog Try.f10 Rows.envelopeMovesRow.domain false) (Rows.envelopeMovesSpec.post enc Try.prog Try.f10 false true false false) := by
  refine returnsInHanded_of_change (C := Try.checked) own started (by kernel_rfl) Try.func10
    (ChangeSpec.witness6 (enc := enc) (C := Try.checked) false ⟨#[], #[.slice none 0 0, .int .i8 0], []⟩ 8 (by kernel_rfl) (by kernel_rfl) (by kernel_rfl) (by kernel_rfl)) ?_
  intro W base args ds gs before hval0 hW hcnd _
  have hval : ∀ (j : Nat) t v, Try.f10.params[j]? = some t → args[j]? = some v → Value.okWide Try.prog W .any base t v := hval0
  have hW' := hW
  obtain ⟨p, q, hA0, hV, rfl, hfz, hnd⟩ := hW
  have hA : DataW.TrodAll enc Try.prog W 0 (fun _ => true) true Try.f10.params.toList args.toList ds p := hA0
  rw [Try.params10] at hA hval
  obtain ⟨v0, vs0, d0, ds0, p0, q0, hargs, rfl, rfl, h0, r0⟩ := trodAll_cons hA
  obtain ⟨v1, vs1, d1, ds1, p1, q1, rfl, rfl, rfl, h1, r1⟩ := trodAll_cons r0
  obtain ⟨rfl, rfl, rfl⟩ := trodAll_nil r1
  obtain rfl : args = #[v0, v1] := by cases args; simp_all
  obtain ⟨rfl, rfl⟩ := trodVars_none hV
  obtain ⟨a0, len0, cap0, rfl⟩ := okWide_slice Try.underlying22 (hval 0 22 v0 rfl rfl)
  have k0 := h0
  have lt0 : ∀ x ∈ p0, x.block < W.heap.size := by obtain ⟨m, hm⟩ := k0; exact DataW.trod_lt m _ _ _ hm
  obtain ⟨z0, w0⟩ : ∃ zs, IsRow .i64 W a0 len0 cap0 zs := by
    obtain ⟨fuel, hf⟩ := h0
    rcases open_ints Try.underlying22 Try.underlying3 (by kernel_rfl) hf with ⟨hcs, _⟩ | ⟨x, l, c, zs, hcs, _, hl, hm, hz, _, hcell, hwz⟩
    · simp [Value.cells] at hcs
      obtain ⟨rfl, rfl, rfl⟩ := hcs
      exact ⟨[], .inl ⟨rfl, rfl, rfl, rfl⟩⟩
    · simp [Value.cells] at hcs
      obtain ⟨rfl, rfl, rfl⟩ := hcs
      exact ⟨zs, .inr ⟨_, rfl, hl, hm, by simpa using hz, hcell, hwz⟩⟩
  obtain ⟨a1, rfl, rfl, rfl, w1⟩ := open_int Try.underlying51 (hval 1 51 v1 rfl rfl) h1
  clear hA0 hval0
  refine (walk a0 len0 cap0 z0 a1 W w0 w1).mono fun e W' ⟨he, bel⟩ => ?_
  subst he
  exact ⟨_, rfl, _, _, _, [], _, [], hW', trodAll_mk1 (shut_bool Try.underlying4 _), (trodAll_cons_mk (Below.trod laidOut (by kernel_rfl) (of_decide_eq_true (by kernel_rfl)) k0 bel lt0) (trodAll_cons_mk (shut_int Try.underlying51 w1) trodAll_mk0)), rfl, bel.frame _, fun h => by cases h⟩

theorem over : Rows.envelopeMovesRow.holds Try.pinned (OpenSpec.ofChange Rows.envelopeMovesSpec) :=
  OpenClaim.holds_of_wide 10 Try.f10 rfl rfl rfl rfl rfl rfl rfl ⟨rfl, rfl, rfl, rfl, rfl⟩ rfl rfl rfl rfl rfl (by kernel_rfl) Try.func10 (by kernel_rfl)
    (of_decide_eq_true (by kernel_rfl)) (by unfold Func.isWrapper; first | (rw [if_pos (by decide +kernel)]; kernel_rfl) | (rw [if_neg (by decide +kernel)]; exact ⟨rfl, rfl⟩))
    (fun os started H enc _ => lifted os started H enc)

theorem proved : Rows.EnvelopeMovesSaid := over
end Go.Proofs.Ytiinoiookdhibaa.envelopeMoves
