/- The reference of layer 18, at any address. (mkpm.py) -/
import Derived.Test.YtekeclapbfjdiaaPie6
import Derived.Test.YtekeclapbfjdiaaPieM2
import Derived.Test.YtekeclapbfjdiaaRef12c
import Derived.Test.YtekeclapbfjdiaaAppW
import Derived.Test.YtekeclapbfjdiaaRefMs
namespace Go.Proofs.Ytekeclapbfjdiaa.R18
open Go.ChangeShapes Go.WideShapes Go.RowKit Wo Sr Wi Eu Pc Ra Nr
set_option linter.unusedVariables false
theorem bd_at {B : Int} {L : List Int} (h : Bd B L) (i : Nat) (hB : 0 ≤ B) : -B ≤ L.getD i 0 ∧ L.getD i 0 ≤ B := by
  rcases Nat.lt_or_ge i L.length with c | c
  · rw [List.getD_eq_getElem?_getD, List.getElem?_eq_getElem c]; exact h _ (List.getElem_mem c)
  · rw [List.getD_eq_getElem?_getD, List.getElem?_eq_none c]; show -B ≤ 0 ∧ 0 ≤ B; omega
theorem sam_bd {L : List Int} (h : Sam L) : Bd 64000 L := fun x hx => by have := h x hx; omega
theorem pre_next (X : List Int) (t : Nat) (h : t < X.length) : pre X (t + 1) = pre X t + X.getD t 0 := by
  unfold pre
  rw [take_snoc X t h, su_append]
  simp [su]
theorem grow_bel {w wr w5 : World} {u : Value} {base k : Nat} {xs : List Value} {L : List Int} (hb : Bel w wr) (hown : wr.ownsRow base 3 1 u k (zs L)) (hw : w.heap.size ≤ base) (o : Obj) (hg : (wr.alloc o).grownBy w5 u.ownBlock) : Bel w w5 :=
  Below.grown (hb.al o) hg (hb.al o).size (fun q e => by have := (hown.lt q e).1; omega)
set_option maxHeartbeats 2000000 in
set_option maxRecDepth 100000 in
theorem starts_ok (m n : Nat) (m1 : 2 ≤ m) (m2 : m ≤ 32) (n1 : 1 ≤ n) (n8 : n ≤ 8) (nm : n ≤ m) (w : World) :
    Calls Try.prog 32 #[.int .i64 (m : Int), .int .i64 (n : Int)] w fun e w' => ∃ h c, e = .returned (.tuple #[.slice (some ⟨h, 0, none⟩) (n + 1) c, .int .i64 0]) ∧ w'.ownsRow w.heap.size 3 1 (.slice (some ⟨h, 0, none⟩) (n + 1) c) (n + 1) (zs (sts m n)) ∧ Bel w w' := by
  obtain ⟨i0, hi0, hz0, hz1, hz2⟩ := info_parts info_int
  have HI := Lib.hid (And.intro hi0 (And.intro hz0 (And.intro hz1 hz2)))
  clear hi0 hz0 hz1 hz2
  have a1 : 2 ≤ (m : Int) := by omega
  have a2 : (m : Int) ≤ 32 := by omega
  have a3 : 1 ≤ (n : Int) := by omega
  have a4 : (n : Int) ≤ 8 := by omega
  have a5 : (n : Int) ≤ (m : Int) := by omega
  have a6 : ¬ m < n := by omega
  have a7 : decide (m < n) = false := by simpa using nm
  go_enter Try.func32, Try.ntmps32
  go_wp2
  go_loopw [6, 7] (fun s6 s7 wr => ∃ (t : Nat) (V : World) (u : Value), V = wr ∧ u = s6 ∧ t ≤ n + 1 ∧ s7 = .int .i64 (t : Int) ∧ wr.ownsRow w.heap.size 3 1 s6 t (zs ((sts m n).take t)) ∧ Bel w wr) (fun _ s7 _ => n + 1 - (intOf s7).toNat)
  case atStart => exact ⟨0, _, _, rfl, rfl, by omega, rfl, World.ownsRow_nil _ _ _ _, Bel.rf⟩
  case round =>
    obtain ⟨t, wr, u6, hwr, hu, ht, rfl, hz, hb⟩ := hrel
    subst hwr hu
    have HZ := Lib.hid hz
    have HB := Lib.hid hb
    have hsz := hb.size
    clear hz hb
    rcases Nat.lt_or_ge n t with hlt | hge
    · obtain rfl : t = n + 1 := by omega
      have d1 : ¬ ((n + 1 : Nat) : Int) ≤ (n : Int) := by omega
      have d2 : ¬ (n : Int) + 1 ≤ (n : Int) := by omega
      have hz := HZ.out
      rw [List.take_of_length_le (by rw [sts_len]; exact Nat.le_refl _)] at hz
      obtain ⟨h, c, rfl, hc, hh⟩ := row_form hz (by omega)
      have HZ2 := Lib.hid hz
      clear hz
      go_wp2
      go_ret2
      exact ⟨h, c, rfl, HZ2.out, HB.out⟩
    · have ti : (t : Int) ≤ (n : Int) := by omega
      have hst := sts_at m n t (by omega) hge
      have hbd := st_le m n t (by omega) hge
      obtain ⟨K, hK⟩ : ∃ K : Nat, t * m = K := ⟨_, rfl⟩
      have hKi : (t : Int) * (m : Int) = (K : Int) := by rw [← hK, Int.natCast_mul]
      obtain ⟨s, hs⟩ : ∃ s : Nat, st m n t = s := ⟨_, rfl⟩
      have hs2 : K / n = s := by rw [← hs, ← hK]; rfl
      have hd : (K : Int).tdiv (n : Int) = (s : Int) := by rw [Int.tdiv_eq_ediv_of_nonneg (by omega), ← Int.natCast_ediv, hs2]
      have hK2 : K ≤ 8 * 32 := by rw [← hK]; exact Nat.mul_le_mul (by omega) m2
      have hKb : (K : Int) ≤ 256 := by omega
      have n0 : ¬ (n : Int) = 0 := by omega
      have n00 : ¬ n = 0 := by omega
      have sb : (s : Int) ≤ 32 := by omega
      have wK : IntKind.i64.wrap (K : Int) = (K : Int) := IntWalk.i64_in _ (by omega)
      have wK2 : wrap64 (K : Int) = (K : Int) := IntWalk.wrap64_in _ (by omega)
      have ws : IntKind.i64.wrap (s : Int) = (s : Int) := IntWalk.i64_in _ (by omega)
      have ws2 : wrap64 (s : Int) = (s : Int) := IntWalk.wrap64_in _ (by omega)
      have HN : Hid ((sts m n).take (t + 1) = (sts m n).take t ++ [(s : Int)]) := by show _ = _; rw [take_snoc _ t (by rw [sts_len]; omega), hst, hs]
      clear hst hbd hK hs hs2 hK2
      go_wp2_with (at_builtin; refine wpList_append_lies _ (by rfl) _ _ 22 (by rfl) w.heap.size 3 i0 _ 1 8 Try.underlying22 HI.out.1 HI.out.2.1 HI.out.2.2.1 HI.out.2.2.2 (by rfl) (by omega) u6 t (zs ((sts m n).take t)) (by rfl) (HZ.out.alloc _) ⟨wr.heap.size, 0, none⟩ 1 1 [.int .i64 (s : Int)] (by rfl) (by rfl) (World.news_of_block (cs := #[.int .i64 (s : Int)]) (t := 3) (fr := (0, 0)) (Bk.nw _ _ _)) (by simp [Value.oneCell']) (by omega) (by unfold maxLen; omega) (by omega) (by simp; omega) (wr.heap.size + 1) (by simp) ?_; intro g' cap' w5 hown4 hgrow hat hlt4)
      have hbw := grow_bel (xs := []) HB.out HZ.out (Nat.le_refl _) _ hgrow
      have HR := Lib.hid (And.intro hown4 hbw)
      clear hown4 hgrow hat hbw
      go_wp2
      go_roundw
      case rel => exact ⟨t + 1, _, _, rfl, rfl, by omega, by go_num, by rw [HN.out, zs_app]; exact HR.out.1, HR.out.2⟩
      case measure => simp [intOf]; omega
set_option maxHeartbeats 2000000 in
set_option maxRecDepth 100000 in
theorem fold_ok (hx : Addr) (ha c ca m n : Nat) (X : List Int) (m1 : 2 ≤ m) (m2 : m ≤ 32) (n1 : 1 ≤ n) (n8 : n ≤ 8) (hs : Bd 64000 X) (w : World) (h1 : Zi w (some hx) m X) (h2 : Zi w (some ⟨ha, 0, none⟩) (n + 1) (sts m n)) :
    Calls Try.prog 51 #[.slice (some hx) m c, .slice (some ⟨ha, 0, none⟩) (n + 1) ca] w fun e w' => ∃ h c, e = .returned (.slice (some ⟨h, 0, none⟩) n c) ∧ w'.ownsRow w.heap.size 3 1 (.slice (some ⟨h, 0, none⟩) n c) n (zs (pls X m n)) ∧ Bel w w' := by
  obtain ⟨i0, hi0, hz0, hz1, hz2⟩ := info_parts info_int
  have HI := Lib.hid (And.intro hi0 (And.intro hz0 (And.intro hz1 hz2)))
  clear hi0 hz0 hz1 hz2
  have H1 := Lib.hid h1
  have H2 := Lib.hid h2
  have HS := Lib.hid hs
  have HX : Hid (X.length = m) := h1.1
  have a1 : 2 ≤ (m : Int) := by omega
  have a2 : (m : Int) ≤ 32 := by omega
  have a3 : 1 ≤ (n : Int) := by omega
  have a4 : (n : Int) ≤ 8 := by omega
  clear h1 h2 hs
  go_enter Try.func51, Try.ntmps51
  go_wp2
  go_loopw [5, 6] (fun s5 s6 wr => ∃ (t : Nat) (V : World) (u : Value), V = wr ∧ u = s5 ∧ t ≤ n ∧ s6 = .int .i64 ((t : Int) + 1) ∧ wr.ownsRow w.heap.size 3 1 s5 t (zs ((pls X m n).take t)) ∧ Bel w wr) (fun _ s6 _ => n + 1 - (intOf s6).toNat)
  case atStart => exact ⟨0, _, _, rfl, rfl, by omega, rfl, World.ownsRow_nil _ _ _ _, Bel.rf⟩
  case round =>
    obtain ⟨t, wr, u5, hwr, hu, ht, rfl, hz, hb⟩ := hrel
    subst hwr hu
    have HZ := Lib.hid hz
    have HB := Lib.hid hb
    have hsz := hb.size
    clear hz hb
    rcases Nat.lt_or_ge t n with hlt | hge
    · have ti : (t : Int) < (n : Int) := by omega
      obtain ⟨t1, ht1⟩ : ∃ k, t + 1 = k := ⟨_, rfl⟩
      have hti : (t : Int) + 1 = (t1 : Int) := by omega
      have htm : (t1 : Int) - 1 = (t : Int) := by omega
      have ti1 : (t1 : Int) < ((n + 1 : Nat) : Int) := by omega
      have ti2 : (t1 : Int) < (n : Int) + 1 := by omega
      have ti3 : (t : Int) < ((n + 1 : Nat) : Int) := by omega
      have ti4 : (t : Int) < (n : Int) + 1 := by omega
      have c1 := (H2.out.bel HB.out).at t (by omega)
      rw [sts_at m n t (by omega) (by omega)] at c1
      have hm1 := st_mono m n t t1 (by omega)
      have hm2 := st_le m n t1 (by omega) (by omega)
      have hpl := pls_at X m n t hlt
      obtain ⟨p, hp⟩ : ∃ p, st m n t = p := ⟨_, rfl⟩
      obtain ⟨q, hq⟩ : ∃ p, st m n t1 = p := ⟨_, rfl⟩
      rw [ht1, hp, hq, pg_pre X p q (by omega)] at hpl
      rw [hp] at c1 hm1
      rw [hq] at hm1 hm2
      have C2 : Hid (∀ W, Bel wr W → W.cell? ⟨ha, t1, none⟩ = some (.int .i64 (q : Int))) := fun W hW => by
        have := (H2.out.bel (HB.out.tr hW)).at t1 (by omega)
        rwa [sts_at m n t1 (by omega) (by omega), hq] at this
      have HPL := Lib.hid hpl
      rw [hti]
      clear hp hq hpl hti
      go_wp2
      clear c1
      go_loopw [7, 8] (fun s7 s8 wq => ∃ (i : Nat) (V : World), V = wq ∧ p ≤ i ∧ i ≤ q ∧ s8 = .int .i64 (i : Int) ∧ s7 = .int .i64 (pre X i - pre X p) ∧ Bel wr wq) (fun _ s8 _ => q - (intOf s8).toNat)
      case atStart => exact ⟨p, _, rfl, Nat.le_refl _, hm1, rfl, by rw [Int.sub_self], Bel.rf⟩
      case round =>
        obtain ⟨i, wq, hwq, hpi, hiq, rfl, rfl, hbq⟩ := hrel
        subst hwq
        have HBQ := Lib.hid hbq
        have c2 := C2.out _ hbq
        have l1 := List.length_take_le' i X
        have l2 := List.length_take_le' p X
        have l3 := HX.out
        have b1 := bd_in (HS.out.take i) (by decide) 32 (by omega)
        have b2 := bd_in (HS.out.take p) (by decide) 32 (by omega)
        clear l3
        have e1 : pre X i = su ix (X.take i) := su_ix _
        have e2 : pre X p = su ix (X.take p) := su_ix _
        rw [← e1] at b1
        rw [← e2] at b2
        obtain ⟨s, hs⟩ : ∃ s, pre X i - pre X p = s := ⟨_, rfl⟩
        rw [hs]
        obtain ⟨s0, s1⟩ : -4096000 ≤ s ∧ s ≤ 4096000 := by omega
        have HSS := Lib.hid hs
        clear b1 b2 l1 l2 e1 e2 hs
        rcases Nat.lt_or_ge i q with hlt2 | hge2
        · have c3 := (H1.out.bel (HB.out.tr hbq)).atg i (by omega)
          have px := bd_at HS.out i (by decide)
          have hn := pre_next X i (by rw [HX.out]; omega)
          obtain ⟨x, hx⟩ : ∃ x, X.getD i 0 = x := ⟨_, rfl⟩
          rw [hx] at c3 px hn
          obtain ⟨x0, x1⟩ := px
          have HN : Hid (s + x = pre X (i + 1) - pre X p) := by show _ = _; rw [← HSS.out, hn]; omega
          have qi : (i : Int) < (q : Int) := by omega
          have im : (i : Int) < (m : Int) := by omega
          clear hbq hx hn
          go_wp2
          go_roundw
          case rel => exact ⟨i + 1, _, rfl, by omega, by omega, by go_num, by rw [HN.out], by first | exact HBQ.out | exact HBQ.out.drw | exact HBQ.out.drwN _⟩
          case measure => simp [intOf]; omega
        · obtain rfl : i = q := by omega
          have HZ := Lib.hid (own_bel HZ.out hbq)
          have HBB := Lib.hid (HB.out.tr hbq)
          have hs5 := HBB.out.size
          have HN : Hid ((pls X m n).take (t + 1) = (pls X m n).take t ++ [s]) := by show _ = _; rw [take_snoc _ t (by rw [pls_len]; exact hlt), HPL.out, HSS.out]
          clear hbq
          go_wp2_with (at_builtin; refine wpList_append_lies _ (by rfl) _ _ 22 (by rfl) w.heap.size 3 i0 _ 1 8 Try.underlying22 HI.out.1 HI.out.2.1 HI.out.2.2.1 HI.out.2.2.2 (by rfl) (by omega) u5 t (zs ((pls X m n).take t)) (by rfl) (HZ.out.alloc _) ⟨wq.heap.size, 0, none⟩ 1 1 [.int .i64 s] (by rfl) (by rfl) (World.news_of_block (cs := #[.int .i64 s]) (t := 3) (fr := (0, 0)) (Bk.nw _ _ _)) (by simp [Value.oneCell']) (by omega) (by unfold maxLen; omega) (by omega) (by simp; omega) (wq.heap.size + 1) (by simp) ?_; intro g' cap' w5 hown4 hgrow hat hlt4)
          have hbw := grow_bel (xs := []) HBB.out HZ.out (Nat.le_refl _) _ hgrow
          have HR := Lib.hid (And.intro hown4 hbw)
          clear hown4 hgrow hat hbw
          go_wp2
          go_roundw
          case rel => exact ⟨t + 1, _, _, rfl, rfl, by omega, by congr 1; omega, by rw [HN.out, zs_app]; have h := HR.out.1; simp only [ht1] at h ⊢; exact h, HR.out.2⟩
          case measure => simp [intOf]; omega
    · obtain rfl : t = n := by omega
      have d1 : ¬ (t : Int) + 1 < ((t + 1 : Nat) : Int) := by omega
      have d2 : ¬ (t : Int) + 1 < (t : Int) + 1 := by omega
      have hz := HZ.out
      rw [List.take_of_length_le (by rw [pls_len]; exact Nat.le_refl _)] at hz
      obtain ⟨h, c, rfl, hc, hh⟩ := row_form hz (by omega)
      have HZ2 := Lib.hid hz
      clear hz
      go_wp2
      go_ret
      exact ⟨h, c, rfl, HZ2.out, HB.out⟩
set_option maxHeartbeats 4000000 in
theorem rwin_ok (A : Option Addr) (c n : Nat) (L : List Int) (n1 : 2 ≤ n) (n2 : n ≤ 32) (hs : Sam L) (w : World) (h : Zi w A n L) :
    Calls Try.prog 50 #[.slice A n c] w fun e w' => e = .returned (.int .i64 0) ∧ Bel w w' := by
  have i1 : 2 ≤ (n : Int) := by omega
  have i2 : (n : Int) ≤ 32 := by omega
  have S1 : Hid (∀ W, Bel w W → _) := fun W hW => R12.rsamples_ok A c n L (by omega) hs W (h.bel hW)
  clear h hs
  go_enter Try.func50, Try.ntmps50
  go_wp2_with fail
  go_at_call 60
  refine (S1.out _ Bel.rf).mono ?_
  rintro e w1 ⟨rfl, hb1⟩
  go_wp2
  go_ret
  exact ⟨rfl, hb1⟩
end Go.Proofs.Ytekeclapbfjdiaa.R18
namespace Go.Proofs.Ytekeclapbfjdiaa.R18
open Go.ChangeShapes Go.WideShapes Go.RowKit Wo Sr Wi Eu Pc Ra Nr
set_option linter.unusedVariables false
theorem own_ge {w : World} {base n h c : Nat} {L : List Int} (z : w.ownsRow base 3 1 (.slice (some ⟨h, 0, none⟩) n c) n (zs L)) (hn : 1 ≤ n) : base ≤ h := by
  obtain ⟨g, c', e, _, hb⟩ := row_form z hn
  cases e
  exact hb
set_option maxHeartbeats 4000000 in
theorem rsums_ok (hx : Addr) (c m n : Nat) (X : List Int) (m1 : 2 ≤ m) (m2 : m ≤ 32) (n1 : 1 ≤ n) (n8 : n ≤ 8) (nm : n ≤ m) (hs : Sam X) (w : World) (h1 : Zi w (some hx) m X) :
    Calls Try.prog 24 #[.slice (some hx) m c, .int .i64 (n : Int)] w fun e w' => ∃ h c, e = .returned (.tuple #[.slice (some ⟨h, 0, none⟩) n c, .int .i64 0]) ∧ Zi w' (some ⟨h, 0, none⟩) n (pls X m n) ∧ w.heap.size ≤ h ∧ Bel w w' := by
  have WK : Hid (∀ W, Bel w W → _) := fun W hW => rwin_ok (some hx) c m X m1 m2 hs W (h1.bel hW)
  have SK : Hid (∀ W, _) := fun W => starts_ok m n m1 m2 n1 n8 nm W
  have FX : Hid (∀ W ha ca, Bel w W → Zi W (some ⟨ha, 0, none⟩) (n + 1) (sts m n) → _) := fun W ha ca hW hz => fold_ok hx ha c ca m n X m1 m2 n1 n8 (sam_bd hs) W (h1.bel hW) hz
  have a1 : 2 ≤ (m : Int) := by omega
  have a2 : (m : Int) ≤ 32 := by omega
  clear h1
  go_enter Try.func24, Try.ntmps24
  go_wp2_with fail
  go_at_call 50
  refine (WK.out _ Bel.rf).mono ?_
  rintro e w1 ⟨rfl, hb⟩
  have HB1 := Lib.hid hb
  clear hb
  go_wp2_with fail
  go_at_call 32
  refine (SK.out _).mono ?_
  rintro e w2 ⟨ha, ca, rfl, z, hb⟩
  have HB2 := Lib.hid (HB1.out.tr hb)
  have ZA2 := Lib.hid (own_zi z (sts_len m n))
  clear hb z
  go_wp2_with fail
  go_at_call 51
  refine (FX.out _ _ _ HB2.out ZA2.out).mono ?_
  rintro e w3 ⟨hp, cp, rfl, z, hb⟩
  have HB3 := Lib.hid (HB2.out.tr hb)
  have ZP3 := Lib.hid (own_zi z (pls_len X m n))
  have HG := Lib.hid (Nat.le_trans HB2.out.size (own_ge z n1))
  clear hb z
  go_wp2
  go_ret2
  exact ⟨hp, cp, rfl, ZP3.out, HG.out, HB3.out⟩
set_option maxHeartbeats 4000000 in
set_option maxRecDepth 100000 in
theorem rcen_ok (hx : Addr) (c m : Nat) (X : List Int) (m1 : 2 ≤ m) (m2 : m ≤ 32) (hs : Sam X) (w : World) (h1 : Zi w (some hx) m X) :
    Calls Try.prog 53 #[.slice (some hx) m c] w fun e w' => ∃ h c, e = .returned (.tuple #[.slice (some ⟨h, 0, none⟩) m c, .int .i64 0]) ∧ w'.ownsRow w.heap.size 3 1 (.slice (some ⟨h, 0, none⟩) m c) m (zs (cen X)) ∧ Bel w w' := by
  obtain ⟨i0, hi0, hz0, hz1, hz2⟩ := info_parts info_int
  have HI := Lib.hid (And.intro hi0 (And.intro hz0 (And.intro hz1 hz2)))
  clear hi0 hz0 hz1 hz2
  have WK : Hid (∀ W, Bel w W → _) := fun W hW => rwin_ok (some hx) c m X m1 m2 hs W (h1.bel hW)
  have H1 := Lib.hid h1
  have hX := h1.1
  have HX := Lib.hid hX
  have HS := Lib.hid hs
  have hcl : (cen X).length = m := by rw [cen_len', hX]
  have HCL := Lib.hid hcl
  have hsu := su_in hs
  have a1 : 2 ≤ (m : Int) := by omega
  have a2 : (m : Int) ≤ 32 := by omega
  obtain ⟨S, hS⟩ : ∃ S, su ix X = S := ⟨_, rfl⟩
  rw [hS, hX] at hsu
  obtain ⟨S0, S1⟩ : -32000 ≤ S ∧ S ≤ 32000 := by omega
  have HSS := Lib.hid hS
  clear h1 hsu hS hX hcl hs
  go_enter Try.func53, Try.ntmps53
  go_wp2_with fail
  go_at_call 50
  refine (WK.out _ Bel.rf).mono ?_
  rintro e w1 ⟨rfl, hb⟩
  have HB1 := Lib.hid hb
  clear hb
  go_wp2
  go_loopw [5, 16] (fun s5 s16 wr => ∃ (t : Nat) (V : World), V = wr ∧ t ≤ m ∧ s16 = .int .i64 (t : Int) ∧ s5 = .int .i64 (su ix (X.take t)) ∧ Bel w wr) (fun _ s16 _ => m - (intOf s16).toNat)
  case atStart => exact ⟨0, _, rfl, by omega, rfl, by simp [su], by first | exact HB1.out | exact HB1.out.drw | exact HB1.out.drwN _⟩
  case round =>
    obtain ⟨t, wr, hwr, ht, rfl, rfl, hb⟩ := hrel
    subst hwr
    have HB := Lib.hid hb
    have b := su_in (HS.out.take t)
    have bl := List.length_take_le' t X
    have bx := HX.out
    obtain ⟨s, hs⟩ : ∃ s, su ix (X.take t) = s := ⟨_, rfl⟩
    rw [hs] at b ⊢
    obtain ⟨s0, s1⟩ : -32000 ≤ s ∧ s ≤ 32000 := by omega
    have HSV := Lib.hid hs
    clear b bl bx hs
    rcases Nat.lt_or_ge t m with hlt | hge
    · have c1 := (H1.out.bel hb).atg t hlt
      have px := HS.out.at t
      obtain ⟨x, hxe⟩ : ∃ x, X.getD t 0 = x := ⟨_, rfl⟩
      have HN : Hid (s + x = su ix (X.take (t + 1))) := by show _ = _; rw [su_next ix X t (by rw [HX.out]; exact hlt), HSV.out, hxe]; rfl
      rw [hxe] at c1 px
      obtain ⟨x0, x1⟩ := px
      have ti : (t : Int) < (m : Int) := by omega
      clear hb hxe
      go_wp2
      go_roundw
      case rel => exact ⟨t + 1, _, rfl, by omega, by go_num, by rw [← HN.out], by first | exact HB.out | exact HB.out.drw | exact HB.out.drwN _⟩
      case measure => simp [intOf]; omega
    · obtain rfl : t = m := by omega
      have HE : Hid (s = S) := by show _ = _; rw [← HSV.out, ← HSS.out, List.take_of_length_le (by rw [HX.out]; exact Nat.le_refl _)]
      obtain rfl := HE.out
      clear hb
      go_wp2
      go_loopw [7, 28] (fun s7 s28 wr => ∃ (q : Nat) (V : World) (u : Value), V = wr ∧ u = s7 ∧ q ≤ t ∧ s28 = .int .i64 (q : Int) ∧ wr.ownsRow w.heap.size 3 1 s7 q (zs ((cen X).take q)) ∧ Bel w wr) (fun _ s28 _ => t - (intOf s28).toNat)
      case atStart => exact ⟨0, _, _, rfl, rfl, by omega, rfl, World.ownsRow_nil _ _ _ _, by first | exact HB.out | exact HB.out.drw | exact HB.out.drwN _⟩
      case round =>
        obtain ⟨q, wr2, u7, hwr, hu, hq, rfl, hz, hb⟩ := hrel
        subst hwr hu
        have HZ := Lib.hid hz
        have HB := Lib.hid hb
        have hsz := hb.size
        rcases Nat.lt_or_ge q t with hlt | hge2
        · have c1 := (H1.out.bel hb).atg q hlt
          have px := HS.out.at q
          obtain ⟨x, hxe⟩ : ∃ x, X.getD q 0 = x := ⟨_, rfl⟩
          rw [hxe] at c1 px
          obtain ⟨x0, x1⟩ := px
          have qi : (q : Int) < (t : Int) := by omega
          obtain ⟨z, hze⟩ : ∃ z, (t : Int) * x = z := ⟨_, rfl⟩
          have z0 : -32000 ≤ z ∧ z ≤ 32000 := by
            have e1 := Int.mul_le_mul_of_nonneg_left x1 (show 0 ≤ (t : Int) by omega)
            have e2 := Int.mul_le_mul_of_nonneg_left x0 (show 0 ≤ (t : Int) by omega)
            omega
          obtain ⟨z0, z1⟩ := z0
          obtain ⟨y, hy⟩ : ∃ y, z - s = y := ⟨_, rfl⟩
          have y0 : -64000 ≤ y := by omega
          have y1 : y ≤ 64000 := by omega
          have wz : IntKind.i64.wrap z = z := IntWalk.i64_in _ (by omega)
          have wz2 : wrap64 z = z := IntWalk.wrap64_in _ (by omega)
          have wy : IntKind.i64.wrap y = y := IntWalk.i64_in _ (by omega)
          have wy2 : wrap64 y = y := IntWalk.wrap64_in _ (by omega)
          have HN : Hid ((cen X).take (q + 1) = (cen X).take q ++ [y]) := by
            show _ = _
            rw [take_snoc _ q (by rw [HCL.out]; exact hlt)]
            unfold cen
            rw [af_at _ _ _ _ (by rw [HX.out]; exact hlt), hxe, HX.out, HSS.out, ← hy, ← hze, Int.mul_comm x]
            rfl
          clear hb hz hxe
          go_wp2_with (at_builtin; refine wpList_append_lies _ (by rfl) _ _ 22 (by rfl) w.heap.size 3 i0 _ 1 8 Try.underlying22 HI.out.1 HI.out.2.1 HI.out.2.2.1 HI.out.2.2.2 (by rfl) (by omega) u7 q (zs ((cen X).take q)) (by rfl) (HZ.out.alloc _) ⟨wr2.heap.size, 0, none⟩ 1 1 [.int .i64 y] (by rfl) (by rfl) (World.news_of_block (cs := #[.int .i64 y]) (t := 3) (fr := (0, 0)) (Bk.nw _ _ _)) (by simp [Value.oneCell']) (by omega) (by unfold maxLen; omega) (by omega) (by simp; omega) (wr2.heap.size + 1) (by simp) ?_; intro g' cap' w5 hown4 hgrow hat hlt4)
          have hbw := grow_bel (xs := []) HB.out HZ.out (Nat.le_refl _) _ hgrow
          have HR := Lib.hid (And.intro hown4 hbw)
          clear hown4 hgrow hat hbw
          go_wp2
          go_roundw
          case rel => exact ⟨q + 1, _, _, rfl, rfl, by omega, by go_num, by rw [HN.out, zs_app]; exact HR.out.1, HR.out.2⟩
          case measure => simp [intOf]; omega
        · obtain rfl : q = t := by omega
          rw [List.take_of_length_le (by rw [HCL.out]; exact Nat.le_refl _)] at hz
          obtain ⟨h, c, rfl, hc, hh⟩ := row_form hz (by omega)
          have HZ2 := Lib.hid hz
          clear hz hb
          go_wp2
          go_ret2
          exact ⟨h, c, rfl, HZ2.out, HB.out⟩
set_option maxHeartbeats 4000000 in
theorem rcens_ok (hx : Addr) (c m n : Nat) (X : List Int) (m1 : 2 ≤ m) (m2 : m ≤ 32) (n1 : 1 ≤ n) (n8 : n ≤ 8) (nm : n ≤ m) (hs : Sam X) (w : World) (h1 : Zi w (some hx) m X) :
    Calls Try.prog 26 #[.slice (some hx) m c, .int .i64 (n : Int)] w fun e w' => ∃ h c, e = .returned (.tuple #[.slice (some ⟨h, 0, none⟩) n c, .int .i64 0]) ∧ Zi w' (some ⟨h, 0, none⟩) n (pls (cen X) m n) ∧ w.heap.size ≤ h ∧ Bel w w' := by
  have hX := h1.1
  have cl : (cen X).length = m := by rw [cen_len', hX]
  have cb : Bd 64000 (cen X) := Wi.cen_bd hs (by omega)
  have WK : Hid (∀ W, Bel w W → _) := fun W hW => rcen_ok hx c m X m1 m2 hs W (h1.bel hW)
  have SK : Hid (∀ W, _) := fun W => starts_ok m n m1 m2 n1 n8 nm W
  have FX : Hid (∀ W hc cc ha ca, Zi W (some ⟨hc, 0, none⟩) m (cen X) → Zi W (some ⟨ha, 0, none⟩) (n + 1) (sts m n) → _) := fun W hc cc ha ca hz hz2 => fold_ok ⟨hc, 0, none⟩ ha cc ca m n (cen X) m1 m2 n1 n8 cb W hz hz2
  have CL := Lib.hid cl
  have a1 : 2 ≤ (m : Int) := by omega
  have a2 : (m : Int) ≤ 32 := by omega
  clear h1 hX cl cb
  go_enter Try.func26, Try.ntmps26
  go_wp2_with fail
  go_at_call 53
  refine (WK.out _ Bel.rf).mono ?_
  rintro e w1 ⟨hc, cc, rfl, z, hb⟩
  have HB1 := Lib.hid hb
  have ZC1 := Lib.hid (own_zi z CL.out)
  clear hb z
  go_wp2_with fail
  go_at_call 32
  refine (SK.out _).mono ?_
  rintro e w2 ⟨ha, ca, rfl, z, hb⟩
  have HB2 := Lib.hid (HB1.out.tr hb)
  have ZC2 := Lib.hid (ZC1.out.bel hb)
  have ZA2 := Lib.hid (own_zi z (sts_len m n))
  clear hb z
  go_wp2_with fail
  go_at_call 51
  refine (FX.out _ _ _ _ _ ZC2.out ZA2.out).mono ?_
  rintro e w3 ⟨hp, cp, rfl, z, hb⟩
  have HB3 := Lib.hid (HB2.out.tr hb)
  have ZP3 := Lib.hid (own_zi z (pls_len (cen X) m n))
  have HG := Lib.hid (Nat.le_trans HB2.out.size (own_ge z n1))
  clear hb z
  go_wp2
  go_ret2
  exact ⟨hp, cp, rfl, ZP3.out, HG.out, HB3.out⟩
end Go.Proofs.Ytekeclapbfjdiaa.R18
namespace Go.Proofs.Ytekeclapbfjdiaa.R18
open Go.ChangeShapes Go.WideShapes Go.RowKit Wo Sr Wi Eu Pc Ra Nr
set_option linter.unusedVariables false
theorem zi_one {W : World} {g : Nat} {x : Int} (hb : Bk W g 3 #[.int .i64 x]) : Zi W (some ⟨g, 0, none⟩) 1 [x] := zi_bk (L := [x]) hb 1 rfl
set_option maxHeartbeats 2000000 in
set_option maxRecDepth 100000 in
theorem differences_ok (hx hy c c' n : Nat) (P Q : List Int) (n1 : 1 ≤ n) (n8 : n ≤ 8) (bP : Bd 2048000 P) (bQ : Bd 2048000 Q) (w : World) (h1 : Zi w (some ⟨hx, 0, none⟩) n P) (h2 : Zi w (some ⟨hy, 0, none⟩) n Q) :
    Calls Try.prog 56 #[.slice (some ⟨hx, 0, none⟩) n c, .slice (some ⟨hy, 0, none⟩) n c'] w fun e w' => ∃ h c, e = .returned (.slice (some ⟨h, 0, none⟩) n c) ∧ w'.ownsRow w.heap.size 3 1 (.slice (some ⟨h, 0, none⟩) n c) n (zs (df P Q)) ∧ Bel w w' := by
  have H1 := Lib.hid h1
  have H2 := Lib.hid h2
  have hl : P.length = Q.length := by rw [h1.1, h2.1]
  have HL : Hid (P.length = n ∧ P.length = Q.length ∧ (df P Q).length = n) := ⟨h1.1, hl, by rw [df_len hl, h1.1]⟩
  have a3 : 1 ≤ (n : Int) := by omega
  have a4 : (n : Int) ≤ 8 := by omega
  have HPB := Lib.hid (And.intro bP bQ)
  clear h1 h2 hl bP bQ
  go_enter Try.func56, Try.ntmps56
  go_wp2
  go_loopw [5, 9] (fun s5 s9 wr => ∃ (t : Nat) (V : World) (u : Value), V = wr ∧ u = s5 ∧ t ≤ n ∧ s9 = .int .i64 (t : Int) ∧ wr.ownsRow w.heap.size 3 1 u t (zs ((df P Q).take t)) ∧ Bel w wr) (fun _ s9 _ => n - (intOf s9).toNat)
  case atStart => exact ⟨0, _, _, rfl, rfl, by omega, rfl, World.ownsRow_nil _ _ _ _, Bel.rf⟩
  case round =>
    obtain ⟨t, wr, u5, hwr, hu, ht, rfl, hz, hb⟩ := hrel
    subst hwr hu
    have HZ := Lib.hid hz
    have HB := Lib.hid hb
    have hsz := hb.size
    clear hz hb
    rcases Nat.lt_or_ge t n with hlt | hge
    · have ti : (t : Int) < (n : Int) := by omega
      have c1 := (H1.out.bel HB.out).at t hlt
      have c2 := (H2.out.bel HB.out).at t hlt
      have hdf := df_at HL.out.2.1 t (by rw [HL.out.1]; exact hlt)
      have p1 : -2048000 ≤ P.getD t 0 ∧ P.getD t 0 ≤ 2048000 := by
        rw [List.getD_eq_getElem?_getD, List.getElem?_eq_getElem (show t < P.length by rw [HL.out.1]; exact hlt), Option.getD_some]
        exact HPB.out.1 _ (List.getElem_mem _)
      have p2 : -2048000 ≤ Q.getD t 0 ∧ Q.getD t 0 ≤ 2048000 := by
        rw [List.getD_eq_getElem?_getD, List.getElem?_eq_getElem (show t < Q.length by rw [← HL.out.2.1, HL.out.1]; exact hlt), Option.getD_some]
        exact HPB.out.2 _ (List.getElem_mem _)
      obtain ⟨x, hxx⟩ : ∃ x, P.getD t 0 = x := ⟨_, rfl⟩
      obtain ⟨y, hyy⟩ : ∃ x, Q.getD t 0 = x := ⟨_, rfl⟩
      rw [hxx] at c1 hdf p1
      rw [hyy] at c2 hdf p2
      obtain ⟨d, hd⟩ : ∃ d, x - y = d := ⟨_, rfl⟩
      rw [hd] at hdf
      have wd : IntKind.i64.wrap d = d := IntWalk.i64_in _ (by omega)
      have HN : Hid ((df P Q).take (t + 1) = (df P Q).take t ++ [d]) := by show _ = _; rw [take_snoc _ t (by rw [HL.out.2.2]; exact hlt), hdf]
      have cA1 : ∀ o, (wr.alloc o).cell? ⟨hx, t, none⟩ = some (.int .i64 x) := fun o => kp_al c1 o
      have cA2 : ∀ o, (wr.alloc o).cell? ⟨hy, t, none⟩ = some (.int .i64 y) := fun o => kp_al c2 o
      clear hxx hyy hdf p1 p2
      go_wp2
      go_region_law (refine step_app _ rfl (.tmp 12) (.tmp 22) rfl w.heap.size u5 t ((df P Q).take t) rfl (own_bel HZ.out (by repeat (first | exact Bel.rf | (with_reducible refine Bel.drwN ?_ _) | (with_reducible refine Bel.drw ?_) | (with_reducible refine Bel.al ?_ _)))) _ 1 1 [d] rfl (by first | (refine zi_one (Bk.nq _ _ _ ?_); simp; done) | (refine zi_one ((Bk.nq _ _ _ ?_).al _); simp; done)) (by omega) (by simp; omega) ?_; intro vp wp hop hgp hatp; have hbw : Bel w wp := Below.grown (HB.out.tr (by repeat (first | exact Bel.rf | (with_reducible refine Bel.drwN ?_ _) | (with_reducible refine Bel.drw ?_) | (with_reducible refine Bel.al ?_ _)))) hgp (HB.out.tr (by repeat (first | exact Bel.rf | (with_reducible refine Bel.drwN ?_ _) | (with_reducible refine Bel.drw ?_) | (with_reducible refine Bel.al ?_ _)))).size (fun q e => (HZ.out.lt q e).1))
      all_goals
        have HR := Lib.hid (And.intro hop hbw)
        clear hop hbw hgp hatp
        go_wp2
        go_roundw
        case rel => exact ⟨t + 1, _, _, rfl, rfl, by omega, by go_num, by rw [HN.out]; exact HR.out.1, HR.out.2⟩
        case measure => simp [intOf]; omega
    · obtain rfl : t = n := by omega
      have hz := HZ.out
      rw [List.take_of_length_le (by rw [HL.out.2.2]; exact Nat.le_refl _)] at hz
      obtain ⟨h, c, rfl, hc, hh⟩ := row_form hz (by omega)
      have HZ2 := Lib.hid hz
      clear hz
      go_wp2
      go_ret
      exact ⟨h, c, rfl, HZ2.out, HB.out⟩
set_option maxHeartbeats 2000000 in
set_option maxRecDepth 100000 in
theorem squares_ok (hd ha c ca m n : Nat) (D : List Int) (un : Int) (m1 : 2 ≤ m) (m2 : m ≤ 32) (n1 : 1 ≤ n) (n8 : n ≤ 8) (nm : n ≤ m) (bD : Bd 4096000 D) (u1 : 1 ≤ un) (u2 : un ≤ 1024) (w : World) (h1 : Zi w (some ⟨hd, 0, none⟩) n D) (h2 : Zi w (some ⟨ha, 0, none⟩) (n + 1) (sts m n)) :
    Calls Try.prog 55 #[.slice (some ⟨hd, 0, none⟩) n c, .slice (some ⟨ha, 0, none⟩) (n + 1) ca, .int .i64 un] w fun e w' => ∃ t u, e = .returned (.agg #[.int .i64 t, .int .i64 u]) ∧ Vl t u (tq (fun k => D.getD k 0 * D.getD k 0 * wq (m / n) (st m n (k + 1) - st m n k)) n) (cq m n * un) ∧ Bel w w' := by
  obtain ⟨f, hf⟩ : ∃ f : Nat → Int, (fun k => D.getD k 0 * D.getD k 0 * wq (m / n) (st m n (k + 1) - st m n k)) = f := ⟨_, rfl⟩
  have hfb : ∀ k, k < n → 0 ≤ f k ∧ f k ≤ 553648128000000 := fun k hk => by
    have hD : -4096000 ≤ D.getD k 0 ∧ D.getD k 0 ≤ 4096000 := by
      rw [List.getD_eq_getElem?_getD, List.getElem?_eq_getElem (show k < D.length by rw [h1.1]; exact hk), Option.getD_some]
      exact bD _ (List.getElem_mem _)
    have a := sq_bd (B := 4096000) hD.1 hD.2
    have hmn : m / n ≤ 32 := Nat.le_trans (Nat.div_le_self m n) m2
    have b0 : ∀ l s : Nat, l ≤ 32 → 0 ≤ wq l s ∧ wq l s ≤ 33 := fun l s hl => by unfold wq; split <;> omega
    have b := b0 (m / n) (st m n (k + 1) - st m n k) hmn
    rw [← hf]
    show 0 ≤ D.getD k 0 * D.getD k 0 * wq (m / n) (st m n (k + 1) - st m n k) ∧ D.getD k 0 * D.getD k 0 * wq (m / n) (st m n (k + 1) - st m n k) ≤ _
    refine ⟨Int.mul_nonneg a.1 b.1, ?_⟩
    have := Int.mul_le_mul a.2 b.2 b.1 (by omega)
    omega
  have tb : ∀ k, k ≤ n → 0 ≤ tq f k ∧ tq f k ≤ 4429185024000000 := fun k hk => by
    have a := tq_nn (n := n) (fun i hi => (hfb i hi).1) k hk
    have b := tq_hi (n := n) (fun i hi => (hfb i hi).2) k hk
    have : (553648128000000 : Int) * (k : Int) ≤ 553648128000000 * 8 := Int.mul_le_mul_of_nonneg_left (by omega) (by omega)
    omega
  have c1 := cq_in m n n1 nm m2
  have cu : 1 ≤ cq m n * un ∧ cq m n * un ≤ 1081344 := by
    have a : cq m n * un ≤ 1056 * 1024 := Int.mul_le_mul c1.2 u2 (by omega) (by omega)
    have b : 1 * 1 ≤ cq m n * un := Int.mul_le_mul c1.1 u1 (by omega) (by omega)
    omega
  have HF := Lib.hid (And.intro hfb (And.intro tb hf))
  have H1 := Lib.hid h1
  have H2 := Lib.hid h2
  have HBD := Lib.hid bD
  obtain ⟨l, hl⟩ : ∃ l, m / n = l := ⟨_, rfl⟩
  have hl1 : 1 ≤ l := by rw [← hl]; exact Nat.div_pos nm n1
  have hl32 : l ≤ 32 := by rw [← hl]; exact Nat.le_trans (Nat.div_le_self m n) m2
  have hC : (l : Int) * ((l : Int) + 1) = cq m n := by unfold cq; rw [hl]
  obtain ⟨C, hC2⟩ : ∃ C, cq m n = C := ⟨_, rfl⟩
  rw [hC2] at hC c1 cu ⊢
  have HCL := Lib.hid (And.intro hl hC2)
  have HH : Hid (∀ k, k < n → ((st m n (k + 1) - st m n k : Nat) : Int) * wq l (st m n (k + 1) - st m n k) = C) := fun k hk => by rw [← hl, ← hC2]; exact sz_mul m n k n1
  have a1 : 2 ≤ (m : Int) := by omega
  have a2 : (m : Int) ≤ 32 := by omega
  have a3 : 1 ≤ (n : Int) := by omega
  have a4 : (n : Int) ≤ 8 := by omega
  have l0 : 1 ≤ (l : Int) := by omega
  have l2 : (l : Int) ≤ 32 := by omega
  have hdl : (m : Int).tdiv (n : Int) = (l : Int) := by rw [Int.tdiv_eq_ediv_of_nonneg (by omega), ← Int.natCast_ediv, hl]
  have n0 : ¬ (n : Int) = 0 := by omega
  have n00 : ¬ n = 0 := by omega
  have cn := h2.at n (by omega)
  rw [sts_at m n n n1 (Nat.le_refl n), st_all m n n1] at cn
  obtain ⟨c0, c3⟩ := c1
  obtain ⟨l3, hl3⟩ : ∃ k : Int, (l : Int) + 1 = k := ⟨_, rfl⟩
  rw [hl3] at hC
  have wC : IntKind.i64.wrap C = C := IntWalk.i64_in _ (by omega)
  have wC2 : wrap64 C = C := IntWalk.wrap64_in _ (by omega)
  have nn1 : (n : Int) + 1 - 1 = (n : Int) := by omega
  have nn2 : ((n + 1 : Nat) : Int) - 1 = (n : Int) := by omega
  have MK : Hid (∀ (W : World) (T : Int), 0 ≤ T → T ≤ 4429185024000000 → _) := fun W T h0 h1 => R12.rmake_ok T (C * un) h0 cu.1 (by omega) (by omega) W
  have wCU : wrap64 (C * un) = C * un := IntWalk.wrap64_in _ (by omega)
  have HCU := Lib.hid cu
  rw [hf]
  have HR0 : Hid (Bk (w.alloc (.cells #[.int .i64 0, .int .i64 0] 37)) w.heap.size 37 #[.int .i64 0, .int .i64 0]) := Bk.nw _ _ _
  have HB0 : Hid (Bel w (w.alloc (.cells #[.int .i64 0, .int .i64 0] 37))) := Bel.rf.al _
  have cnA : ∀ o, (w.alloc o).cell? ⟨ha, n, none⟩ = some (.int .i64 (m : Int)) := fun o => kp_al cn o
  clear h1 h2 bD hfb tb hf hl hC2 cu
  go_enter Try.func55, Try.ntmps55
  go_wp2
  clear cn cnA
  go_loopw [8, 24] (fun s8 s24 wr => ∃ (k : Nat) (V : World), V = wr ∧ k ≤ n ∧ s24 = .int .i64 (k : Int) ∧ s8 = .int .i64 (tq f k) ∧ Bel (w.alloc (.cells #[.int .i64 0, .int .i64 0] 37)) wr) (fun _ s24 _ => n - (intOf s24).toNat)
  case atStart => exact ⟨0, _, rfl, by omega, rfl, rfl, by first | exact Bel.rf | exact Bel.rf.drw | exact Bel.rf.drwN _⟩
  case round =>
    obtain ⟨k, wr, hwr, hk, rfl, rfl, hb⟩ := hrel
    subst hwr
    have HB := Lib.hid hb
    have hbw := HB0.out.tr hb
    rcases Nat.lt_or_ge k n with hlt | hge
    · have d1 := (H1.out.bel hbw).at k hlt
      have e1 := (H2.out.bel hbw).at k (by omega)
      have e2 := (H2.out.bel hbw).at (k + 1) (by omega)
      rw [sts_at m n k n1 (by omega)] at e1
      rw [sts_at m n (k + 1) n1 (by omega)] at e2
      have hs := sz m n k n1
      rw [HCL.out.1] at hs
      have hm2 := st_le m n (k + 1) n1 (by omega)
      have hsz := HH.out k hlt
      have hfk : f k = D.getD k 0 * D.getD k 0 * wq l (st m n (k + 1) - st m n k) := by rw [← HF.out.2.2, HCL.out.1]
      have fb := HF.out.1 k hlt
      have t0 := HF.out.2.1 k (by omega)
      have t1 := HF.out.2.1 (k + 1) (by omega)
      have hD : -4096000 ≤ D.getD k 0 ∧ D.getD k 0 ≤ 4096000 := by
        rw [List.getD_eq_getElem?_getD, List.getElem?_eq_getElem (show k < D.length by rw [H1.out.1]; exact hlt), Option.getD_some]
        exact HBD.out _ (List.getElem_mem _)
      have tn : tq f (k + 1) = tq f k + f k := rfl
      obtain ⟨s0, es0⟩ : ∃ s, st m n k = s := ⟨_, rfl⟩
      obtain ⟨s1, es1⟩ : ∃ s, st m n (k + 1) = s := ⟨_, rfl⟩
      obtain ⟨d, hd⟩ : ∃ d, D.getD k 0 = d := ⟨_, rfl⟩
      rw [es0] at e1 hs hsz hfk
      rw [es1] at e2 hs hsz hfk hm2
      rw [hd] at d1 hfk hD
      obtain ⟨z, hz⟩ : ∃ z, s1 - s0 = z := ⟨_, rfl⟩
      rw [hz] at hsz hfk
      have zi : (s1 : Int) - (s0 : Int) = (z : Int) := by omega
      have z1 : 1 ≤ z := by omega
      obtain ⟨q, hq⟩ : ∃ q, wq l z = q := ⟨_, rfl⟩
      rw [hq] at hsz hfk
      have hqd : C.tdiv (z : Int) = q := by rw [← hsz, Int.mul_comm]; exact Int.mul_tdiv_cancel q (by omega)
      have q2 : 0 ≤ q ∧ q ≤ 33 := by rw [← hq]; unfold wq; split <;> omega
      obtain ⟨q0, q1⟩ := q2
      have dd := sq_bd (B := 4096000) hD.1 hD.2
      obtain ⟨r, hr⟩ : ∃ r, d * d = r := ⟨_, rfl⟩
      rw [hr] at hfk dd
      obtain ⟨F, hF⟩ : ∃ F, f k = F := ⟨_, rfl⟩
      obtain ⟨T, hT⟩ : ∃ F, tq f k = F := ⟨_, rfl⟩
      rw [hF] at hfk fb tn
      rw [hT] at t0 tn ⊢
      rw [tn] at t1
      have hfk2 : r * q = F := hfk.symm
      have wr1 : IntKind.i64.wrap r = r := IntWalk.i64_in _ (by omega)
      have wq1 : IntKind.i64.wrap q = q := IntWalk.i64_in _ (by omega)
      have wF : IntKind.i64.wrap F = F := IntWalk.i64_in _ (by omega)
      have wT : IntKind.i64.wrap (T + F) = T + F := IntWalk.i64_in _ (by omega)
      have wz : IntKind.i64.wrap (z : Int) = (z : Int) := IntWalk.i64_in _ (by omega)
      have wl3 : IntKind.i64.wrap l3 = l3 := IntWalk.i64_in _ (by omega)
      have z0 : ¬ (z : Int) = 0 := by omega
      have z00 : ¬ z = 0 := by omega
      obtain ⟨k1, hk1⟩ : ∃ j, k + 1 = j := ⟨_, rfl⟩
      rw [hk1] at e2
      have ki1 : (k : Int) + 1 = (k1 : Int) := by omega
      have ki : (k : Int) < (n : Int) := by omega
      have kj1 : (k : Int) < ((n + 1 : Nat) : Int) := by omega
      have kj2 : (k1 : Int) < ((n + 1 : Nat) : Int) := by omega
      have kj3 : (k : Int) < (n : Int) + 1 := by omega
      have kj4 : (k1 : Int) < (n : Int) + 1 := by omega
      have wk1 : IntKind.i64.wrap (k1 : Int) = (k1 : Int) := IntWalk.i64_in _ (by omega)
      have HT : Hid (tq f k1 = T + F ∧ k1 ≤ n) := ⟨by rw [← hk1, tn], by omega⟩
      have HM : Hid (n - (intOf (.int .i64 (k1 : Int))).toNat < n - (intOf (.int .i64 (k : Int))).toNat) := by show _ < _; simp [intOf]; omega
      clear hb hbw es0 es1 hd hz hq hs hsz hm2 hfk fb t0 t1 tn hD dd hF hT hk1
      go_wp2
      go_quiet (fail)
      go_wp2
      go_roundw
      case rel => exact ⟨k1, _, rfl, HT.out.2, rfl, by rw [HT.out.1], by first | exact HB.out | exact HB.out.drw | exact HB.out.drwN _⟩
      case measure => exact HM.out
    · obtain rfl : k = n := by omega
      have hT := HF.out.2.1 k (Nat.le_refl k)
      obtain ⟨T, hTT⟩ : ∃ F, tq f k = F := ⟨_, rfl⟩
      rw [hTT] at hT ⊢
      have MK2 : Hid (∀ W, _) := fun W => MK.out W T hT.1 hT.2
      have HR := Lib.hid (HR0.out.bel hb)
      have HBW := Lib.hid hbw
      have HTT := Lib.hid hTT
      clear hb hbw hT hTT
      go_wp2_with (go_at_call 44; refine (MK2.out _).mono ?_; rintro e w9 ⟨t, u, rfl, hv, hb9⟩; have B9 := (HR.out.bel hb9).al (.cells #[.int .i64 t, .int .i64 u] 37); have B8 := Bk.nw w9 37 #[.int .i64 t, .int .i64 u]; have q0 := B9.cell 0; have q1 := B9.cell 1; have q2 := B9.fr 0; have q3 := B9.fr 1; have q4 := B8.cell 0; have q5 := B8.cell 1; have HB9 := Lib.hid B9; clear B9 B8)
      refine bodyPost_ret (v := .agg #[.int .i64 t, .int .i64 u]) (by simp [results, Try.results55, go_sem, q0, q1]) rfl ⟨t, u, rfl, by rw [HTT.out]; exact hv, ?_⟩
      exact ((((HBW.out.tr hb9).al _).st (by show w.heap.size ≤ w.heap.size; omega) _).st (by show w.heap.size ≤ w.heap.size; omega) _)
end Go.Proofs.Ytekeclapbfjdiaa.R18
namespace Go.Proofs.Ytekeclapbfjdiaa.R18
open Go.ChangeShapes Go.WideShapes Go.RowKit Wo Sr Wi Eu Pc Ra Nr
set_option linter.unusedVariables false
theorem pls_in {X : List Int} {m n : Nat} (hs : Sam X) (m32 : m ≤ 32) (n1 : 1 ≤ n) (k : Nat) (hk : k < n) : -32000 ≤ (pls X m n).getD k 0 ∧ (pls X m n).getD k 0 ≤ 32000 := by
  rw [pls_at _ _ _ _ hk]
  have h := pg_bd (B := 1000) hs (by omega) (st m n k) (st m n (k + 1))
  have h2 := st_le m n (k + 1) (by omega) (by omega)
  omega
set_option maxHeartbeats 2000000 in
set_option maxRecDepth 100000 in
theorem lower_ok (hx hy : Addr) (cx cy m n : Nat) (X Y : List Int) (m1 : 2 ≤ m) (m2 : m ≤ 32) (n1 : 1 ≤ n) (n8 : n ≤ 8) (nm : n ≤ m) (hs : Sam X) (ht : Sam Y) (w : World) (h1 : Zi w (some hx) m X) (h2 : Zi w (some hy) m Y) :
    Calls Try.prog 28 #[.slice (some hx) m cx, .slice (some hy) m cy, .int .i64 (n : Int)] w fun e w' => ∃ t u, e = .returned (.tuple #[.agg #[.int .i64 t, .int .i64 u], .int .i64 0]) ∧ Vl t u (tq (fun k => (df (pls X m n) (pls Y m n)).getD k 0 * (df (pls X m n) (pls Y m n)).getD k 0 * wq (m / n) (st m n (k + 1) - st m n k)) n) (cq m n) ∧ Bel w w' := by
  have bp : ∀ {Z : List Int}, Sam Z → Bd 2048000 (pls Z m n) := fun {Z} hz x hx => by
    obtain ⟨i, hi, rfl⟩ := List.getElem_of_mem hx
    rw [pls_len] at hi
    have := pls_in hz m2 n1 i hi
    rw [List.getD_eq_getElem?_getD, List.getElem?_eq_getElem (by rw [pls_len]; exact hi), Option.getD_some] at this
    omega
  have TK : Hid (∀ W, Bel w W → _) := fun W hW => R12.two_ok (some hx) (some hy) cx cy m X Y m1 m2 hs ht W (h1.bel hW) (h2.bel hW)
  have SK : Hid (∀ W, _) := fun W => starts_ok m n m1 m2 n1 n8 nm W
  have FX : Hid (∀ W ha ca, Bel w W → Zi W (some ⟨ha, 0, none⟩) (n + 1) (sts m n) → _) := fun W ha ca hW hz => fold_ok hx ha cx ca m n X m1 m2 n1 n8 (sam_bd hs) W (h1.bel hW) hz
  have FY : Hid (∀ W ha ca, Bel w W → Zi W (some ⟨ha, 0, none⟩) (n + 1) (sts m n) → _) := fun W ha ca hW hz => fold_ok hy ha cy ca m n Y m1 m2 n1 n8 (sam_bd ht) W (h2.bel hW) hz
  have DK : Hid (∀ W h c h' c', Zi W (some ⟨h, 0, none⟩) n (pls X m n) → Zi W (some ⟨h', 0, none⟩) n (pls Y m n) → _) := fun W h c h' c' z z' => differences_ok h h' c c' n (pls X m n) (pls Y m n) n1 n8 (bp hs) (bp ht) W z z'
  have hlp : (pls X m n).length = (pls Y m n).length := by rw [pls_len, pls_len]
  have hld : (df (pls X m n) (pls Y m n)).length = n := by rw [df_len hlp, pls_len]
  have bdf : Bd 4096000 (df (pls X m n) (pls Y m n)) := df_bd (bp hs) (bp ht)
  have QK : Hid (∀ W h c h' c', Zi W (some ⟨h, 0, none⟩) n (df (pls X m n) (pls Y m n)) → Zi W (some ⟨h', 0, none⟩) (n + 1) (sts m n) → _) := fun W h c h' c' z z' => squares_ok h h' c c' m n (df (pls X m n) (pls Y m n)) 1 m1 m2 n1 n8 nm bdf (by decide) (by decide) W z z'
  have HLD := Lib.hid hld
  have a1 : 2 ≤ (m : Int) := by omega
  have a2 : (m : Int) ≤ 32 := by omega
  have a3 : 1 ≤ (n : Int) := by omega
  have a4 : (n : Int) ≤ 8 := by omega
  clear h1 h2 hlp hld bdf bp
  go_enter Try.func28, Try.ntmps28
  have HB0 : Hid (Bel w (w.alloc (.cells #[.int .i64 0, .int .i64 0] 37))) := Bel.rf.al _
  have HR0 : Hid (Bk (w.alloc (.cells #[.int .i64 0, .int .i64 0] 37)) w.heap.size 37 #[.int .i64 0, .int .i64 0]) := Bk.nw _ _ _
  go_wp2_with fail
  go_at_call 41
  refine (TK.out _ HB0.out).mono ?_
  rintro e w1 ⟨rfl, hb⟩
  have HB1 := Lib.hid (HB0.out.tr hb)
  have HR1 := Lib.hid (HR0.out.bel hb)
  clear hb
  go_wp2_with fail
  go_at_call 32
  refine (SK.out _).mono ?_
  rintro e w2 ⟨ha, ca, rfl, z, hb⟩
  have HB2 := Lib.hid (HB1.out.tr hb)
  have HR2 := Lib.hid (HR1.out.bel hb)
  have ZA2 := Lib.hid (own_zi z (sts_len m n))
  clear hb z
  go_wp2_with fail
  go_at_call 51
  refine (FX.out _ _ _ HB2.out ZA2.out).mono ?_
  rintro e w3 ⟨hp, cp, rfl, z, hb⟩
  have HB3 := Lib.hid (HB2.out.tr hb)
  have HR3 := Lib.hid (HR2.out.bel hb)
  have ZA3 := Lib.hid (ZA2.out.bel hb)
  have ZP3 := Lib.hid (own_zi z (pls_len X m n))
  clear hb z
  go_wp2_with fail
  go_at_call 51
  refine (FY.out _ _ _ HB3.out ZA3.out).mono ?_
  rintro e w4 ⟨hq, cq', rfl, z, hb⟩
  have HB4 := Lib.hid (HB3.out.tr hb)
  have HR4 := Lib.hid (HR3.out.bel hb)
  have ZA4 := Lib.hid (ZA3.out.bel hb)
  have ZP4 := Lib.hid (ZP3.out.bel hb)
  have ZQ4 := Lib.hid (own_zi z (pls_len Y m n))
  clear hb z
  go_wp2_with fail
  go_at_call 56
  refine (DK.out _ _ _ _ _ ZP4.out ZQ4.out).mono ?_
  rintro e w5 ⟨hd, cd, rfl, z, hb⟩
  have HB5 := Lib.hid (HB4.out.tr hb)
  have HR5 := Lib.hid (HR4.out.bel hb)
  have ZA5 := Lib.hid (ZA4.out.bel hb)
  have ZD5 := Lib.hid (own_zi z HLD.out)
  clear hb z
  go_wp2_with (go_at_call 55; refine (QK.out _ _ _ _ _ ZD5.out ZA5.out).mono ?_; rintro e w9 ⟨t, u, rfl, hv, hb9⟩; have B9 := HR5.out.bel hb9; have q0 := B9.cell 0; have q1 := B9.cell 1; have q2 := B9.fr 0; have q3 := B9.fr 1; have HB9 := Lib.hid B9; clear B9)
  rw [Int.mul_one] at hv
  refine bodyPost_ret (v := .tuple #[.agg #[.int .i64 t, .int .i64 u], .int .i64 0]) (Say.results_rt Try.results28 _ _ w.heap.size (.int .i64 t) (.int .i64 u) rfl ((HB9.out.st 0 _).st 1 _)) rfl ?_
  exact ⟨t, u, rfl, hv, ((HB5.out.tr hb9).st (by show w.heap.size ≤ w.heap.size; omega) _).st (by show w.heap.size ≤ w.heap.size; omega) _⟩
theorem cen_pls_bd {Z : List Int} {m n : Nat} (hz : Sam Z) (hl : Z.length ≤ 32) (m2 : m ≤ 32) (n1 : 1 ≤ n) : Bd 2048000 (pls (cen Z) m n) := fun x hx => by
  obtain ⟨i, hi, rfl⟩ := List.getElem_of_mem hx
  rw [pls_len] at hi
  have := pls_bd (n := n) (m := m) (Pc.cen_bd hz hl) m2 n1 i hi
  rw [List.getD_eq_getElem?_getD, List.getElem?_eq_getElem (by rw [pls_len]; exact hi), Option.getD_some] at this
  omega
set_option maxHeartbeats 2000000 in
set_option maxRecDepth 100000 in
theorem shift18_ok (hx hy : Addr) (cx cy m n : Nat) (X Y : List Int) (m1 : 2 ≤ m) (m2 : m ≤ 32) (n1 : 1 ≤ n) (n8 : n ≤ 8) (nm : n ≤ m) (hs : Sam X) (ht : Sam Y) (w : World) (h1 : Zi w (some hx) m X) (h2 : Zi w (some hy) m Y) :
    Calls Try.prog 30 #[.slice (some hx) m cx, .slice (some hy) m cy, .int .i64 (n : Int)] w fun e w' => ∃ t u, e = .returned (.tuple #[.agg #[.int .i64 t, .int .i64 u], .int .i64 0]) ∧ Vl t u (tq (fun k => (df (pls (cen X) m n) (pls (cen Y) m n)).getD k 0 * (df (pls (cen X) m n) (pls (cen Y) m n)).getD k 0 * wq (m / n) (st m n (k + 1) - st m n k)) n) (cq m n * ((m : Int) * (m : Int))) ∧ Bel w w' := by
  have mm : 1 ≤ (m : Int) * (m : Int) ∧ (m : Int) * (m : Int) ≤ 1024 := by
    have a : (m : Int) * (m : Int) ≤ 32 * 32 := Int.mul_le_mul (by omega) (by omega) (by omega) (by omega)
    have b : 1 * 1 ≤ (m : Int) * (m : Int) := Int.mul_le_mul (by omega) (by omega) (by omega) (by omega)
    omega
  have bX := cen_pls_bd (m := m) (n := n) hs (by rw [h1.1]; exact m2) m2 n1
  have bY := cen_pls_bd (m := m) (n := n) ht (by rw [h2.1]; exact m2) m2 n1
  have TK : Hid (∀ W, Bel w W → _) := fun W hW => R12.two_ok (some hx) (some hy) cx cy m X Y m1 m2 hs ht W (h1.bel hW) (h2.bel hW)
  have SK : Hid (∀ W, _) := fun W => starts_ok m n m1 m2 n1 n8 nm W
  have FX : Hid (∀ W, Bel w W → _) := fun W hW => rcens_ok hx cx m n X m1 m2 n1 n8 nm hs W (h1.bel hW)
  have FY : Hid (∀ W, Bel w W → _) := fun W hW => rcens_ok hy cy m n Y m1 m2 n1 n8 nm ht W (h2.bel hW)
  have DK : Hid (∀ W h c h' c', Zi W (some ⟨h, 0, none⟩) n (pls (cen X) m n) → Zi W (some ⟨h', 0, none⟩) n (pls (cen Y) m n) → _) := fun W h c h' c' z z' => differences_ok h h' c c' n (pls (cen X) m n) (pls (cen Y) m n) n1 n8 bX bY W z z'
  have hlp : (pls (cen X) m n).length = (pls (cen Y) m n).length := by rw [pls_len, pls_len]
  have hld : (df (pls (cen X) m n) (pls (cen Y) m n)).length = n := by rw [df_len hlp, pls_len]
  have bdf : Bd 4096000 (df (pls (cen X) m n) (pls (cen Y) m n)) := df_bd bX bY
  obtain ⟨sc, hsc⟩ : ∃ s, (m : Int) * (m : Int) = s := ⟨_, rfl⟩
  rw [hsc] at mm ⊢
  have QK : Hid (∀ W h c h' c', Zi W (some ⟨h, 0, none⟩) n (df (pls (cen X) m n) (pls (cen Y) m n)) → Zi W (some ⟨h', 0, none⟩) (n + 1) (sts m n) → _) := fun W h c h' c' z z' => squares_ok h h' c c' m n (df (pls (cen X) m n) (pls (cen Y) m n)) sc m1 m2 n1 n8 nm bdf mm.1 mm.2 W z z'
  have HLD := Lib.hid hld
  have a1 : 2 ≤ (m : Int) := by omega
  have a2 : (m : Int) ≤ 32 := by omega
  have a3 : 1 ≤ (n : Int) := by omega
  have a4 : (n : Int) ≤ 8 := by omega
  have wsc : wrap64 sc = sc := IntWalk.wrap64_in _ (by omega)
  have wsc2 : IntKind.i64.wrap sc = sc := IntWalk.i64_in _ (by omega)
  clear h1 h2 hlp hld bdf bX bY
  go_enter Try.func30, Try.ntmps30
  have HB0 : Hid (Bel w (w.alloc (.cells #[.int .i64 0, .int .i64 0] 37))) := Bel.rf.al _
  have HR0 : Hid (Bk (w.alloc (.cells #[.int .i64 0, .int .i64 0] 37)) w.heap.size 37 #[.int .i64 0, .int .i64 0]) := Bk.nw _ _ _
  go_wp2_with fail
  go_at_call 41
  refine (TK.out _ HB0.out).mono ?_
  rintro e w1 ⟨rfl, hb⟩
  have HB1 := Lib.hid (HB0.out.tr hb)
  have HR1 := Lib.hid (HR0.out.bel hb)
  clear hb
  go_wp2_with fail
  go_at_call 32
  refine (SK.out _).mono ?_
  rintro e w2 ⟨ha, ca, rfl, z, hb⟩
  have HB2 := Lib.hid (HB1.out.tr hb)
  have HR2 := Lib.hid (HR1.out.bel hb)
  have ZA2 := Lib.hid (own_zi z (sts_len m n))
  clear hb z
  go_wp2_with fail
  go_at_call 26
  refine (FX.out _ HB2.out).mono ?_
  rintro e w3 ⟨hp, cp, rfl, z, _, hb⟩
  have HB3 := Lib.hid (HB2.out.tr hb)
  have HR3 := Lib.hid (HR2.out.bel hb)
  have ZA3 := Lib.hid (ZA2.out.bel hb)
  have ZP3 := Lib.hid z
  clear hb z
  go_wp2_with fail
  go_at_call 26
  refine (FY.out _ HB3.out).mono ?_
  rintro e w4 ⟨hq, cq', rfl, z, _, hb⟩
  have HB4 := Lib.hid (HB3.out.tr hb)
  have HR4 := Lib.hid (HR3.out.bel hb)
  have ZA4 := Lib.hid (ZA3.out.bel hb)
  have ZP4 := Lib.hid (ZP3.out.bel hb)
  have ZQ4 := Lib.hid z
  clear hb z
  go_wp2_with fail
  go_at_call 56
  refine (DK.out _ _ _ _ _ ZP4.out ZQ4.out).mono ?_
  rintro e w5 ⟨hd, cd, rfl, z, hb⟩
  have HB5 := Lib.hid (HB4.out.tr hb)
  have HR5 := Lib.hid (HR4.out.bel hb)
  have ZA5 := Lib.hid (ZA4.out.bel hb)
  have ZD5 := Lib.hid (own_zi z HLD.out)
  clear hb z
  go_wp2_with (go_at_call 55; refine (QK.out _ _ _ _ _ ZD5.out ZA5.out).mono ?_; rintro e w9 ⟨t, u, rfl, hv, hb9⟩; have B9 := HR5.out.bel hb9; have q0 := B9.cell 0; have q1 := B9.cell 1; have q2 := B9.fr 0; have q3 := B9.fr 1; have HB9 := Lib.hid B9; clear B9)
  refine bodyPost_ret (v := .tuple #[.agg #[.int .i64 t, .int .i64 u], .int .i64 0]) (Say.results_rt Try.results30 _ _ w.heap.size (.int .i64 t) (.int .i64 u) rfl ((HB9.out.st 0 _).st 1 _)) rfl ?_
  exact ⟨t, u, rfl, hv, ((HB5.out.tr hb9).st (by show w.heap.size ≤ w.heap.size; omega) _).st (by show w.heap.size ≤ w.heap.size; omega) _⟩
end Go.Proofs.Ytekeclapbfjdiaa.R18
