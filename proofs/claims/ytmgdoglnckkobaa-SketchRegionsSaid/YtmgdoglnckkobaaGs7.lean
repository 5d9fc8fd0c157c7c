/- Merged: SrK SrF Rw1 Rw2 Rw3 SrG SrH Rdn Rw4 Rw5 Rw6 Rw7. -/
import Derived.Test.YtmgdoglnckkobaaGs1
import Derived.Test.YtmgdoglnckkobaaGs2
import Derived.Test.YtmgdoglnckkobaaGs3
import Derived.Test.YtmgdoglnckkobaaGs4
import Derived.Test.YtmgdoglnckkobaaGs5
import Derived.Test.YtmgdoglnckkobaaGs6
import Derived.BigQuiet
import Derived.Deep.CutRange
import Derived.Deep.CutBlock
namespace Go.Proofs.Ytmgdoglnckkobaa.Wd
open Go.ChangeShapes Go.WideShapes Go.RowKit Wo Sr Wi Ms Pc Nr Rt
set_option linter.unusedVariables false
theorem ivl_bd {C : List Int} (h : Cv C) (f t : Nat) : (-1099511627776 ≤ (ivl C f t).1 ∧ (ivl C f t).1 ≤ 1099511627776) ∧ -1099511627776 ≤ (ivl C f t).2 ∧ (ivl C f t).2 ≤ 1099511627776 := by
  unfold ivl
  split
  · decide
  · rename_i hf
    constructor
    · show -1099511627776 ≤ (if 0 < f then C.getD (f - 1) 0 else -1099511627776) ∧ (if 0 < f then C.getD (f - 1) 0 else -1099511627776) ≤ 1099511627776
      split
      · have := h.2.1 (f - 1) (by omega)
        omega
      · decide
    · show -1099511627776 ≤ (if t < C.length then C.getD t 0 - 1 else 1099511627776) ∧ (if t < C.length then C.getD t 0 - 1 else 1099511627776) ≤ 1099511627776
      split
      · have := h.2.1 t (by omega)
        omega
      · decide
theorem rgn_bd {C : List Int} (h : Cv C) (n : Nat) (S B : List Int) : ∀ p, p < n → (-1099511627776 ≤ ((rgn n C S B).getD p (0, 0)).1 ∧ ((rgn n C S B).getD p (0, 0)).1 ≤ 1099511627776) ∧ -1099511627776 ≤ ((rgn n C S B).getD p (0, 0)).2 ∧ ((rgn n C S B).getD p (0, 0)).2 ≤ 1099511627776 := fun p hp => by
  rw [rgn_at _ _ _ _ _ hp]
  exact ivl_bd h _ _
theorem zi_ch0 {w w' : World} {A : Option Addr} {n g : Nat} {L : List Int} (h : Zi w A n L) (hc : Ch g w w') (hn : ∀ ad, A = some ad → 0 < n → ad.block ≠ g) : Zi w' A n L := ⟨h.1, fun h0 => (h.ch hc (fun ad e => hn ad e h0)).2 h0⟩
/-- the coordinates lie in the region -/
theorem rgn_us {C : List Int} {k : Int} {X : List Int} {m n : Nat} {S B : List Int} (hC : Cv C) (hv : Wv n S B) (hU : Us n (sys k C X m n) S B) (hX : Sam X) (hl : X.length = m) (m2 : 2 ≤ m) (m32 : m ≤ 32) (n1 : 1 ≤ n) (nm : n ≤ m) :
    ∀ p, p < n → ((rgn n C S B).getD p (0, 0)).1 ≤ cdl k X m n p ∧ cdl k X m n p ≤ ((rgn n C S B).getD p (0, 0)).2 := fun p hp => by
  have hb : Blg n S B (sys k C X m n) := fun q hq => (hU q hq).symm
  have h := (blg_rgn hC hv (fun q hq => cdl_bd hX hl m2 m32 n1 nm hq)).1 hb p hp
  rwa [cds_at _ _ _ _ _ hp] at h
/-- as the bound of a sketch wants it -/
theorem rgn_nor {C : List Int} {X : List Int} {m n : Nat} {S B : List Int} (hC : Cv C) (hv : Wv n S B) (hU : Us n (sys 3 C X m n) S B) (hX : Sam X) (hl : X.length = m) (m2 : 2 ≤ m) (m32 : m ≤ 32) (n1 : 1 ≤ n) (nm : n ≤ m) :
    ∀ p, p < n → if vr X = 0 then ((rgn n C S B).getD p (0, 0)).1 ≤ 0 ∧ 0 ≤ ((rgn n C S B).getD p (0, 0)).2 else ((rgn n C S B).getD p (0, 0)).1 ≤ Rt.quo (64 * pa (cen X) m n p) ((m : Int) * vr X) ∧ Rt.quo (64 * pa (cen X) m n p) ((m : Int) * vr X) ≤ ((rgn n C S B).getD p (0, 0)).2 := fun p hp => by
  have h := rgn_us hC hv hU hX hl m2 m32 n1 nm p hp
  unfold cdl at h
  rw [if_neg (by decide), if_pos rfl, pr_self, pls_at _ _ _ _ hp] at h
  have hV := vr_le hX (by omega)
  have hpb := Pc.pls_bd (Pc.cen_bd hX (by omega)) m32 n1 p hp
  rw [pls_at _ _ _ _ hp] at hpb
  split
  · rename_i v0
    rw [v0, Int.mul_zero, if_neg (by unfold QIn; omega)] at h
    exact h
  · rename_i v0
    have e1 : 1 ≤ (m : Int) * vr X := by
      have := Int.mul_le_mul (show (1 : Int) ≤ (m : Int) by omega) (show (1 : Int) ≤ vr X by omega) (by decide) (by omega)
      omega
    have e2 : (m : Int) * vr X ≤ 32768000000 := by
      have := Int.mul_le_mul (show (m : Int) ≤ 32 by omega) hV.2 hV.1 (by decide)
      omega
    rw [if_pos (by unfold QIn; omega)] at h
    exact h
end Go.Proofs.Ytmgdoglnckkobaa.Wd
namespace Go.Proofs.Ytmgdoglnckkobaa.R18
open Go.ChangeShapes Go.WideShapes Go.RowKit Wo Sr Wi Eu Pc Ra Nr
open Go.Proofs.Ytmgdoglnckkobaa.Sk (sts_at)
set_option linter.unusedVariables false
theorem bd_at {B : Int} {L : List Int} (h : Bd B L) (i : Nat) (hB : 0 ≤ B) : -B ≤ L.getD i 0 ∧ L.getD i 0 ≤ B := by
  rcases Nat.lt_or_ge i L.length with c | c
  · rw [List.getD_eq_getElem?_getD, List.getElem?_eq_getElem c]; exact h _ (List.getElem_mem c)
  · rw [List.getD_eq_getElem?_getD, List.getElem?_eq_none c]; show -B ≤ 0 ∧ 0 ≤ B; omega
theorem sam_bd {L : List Int} (h : Sam L) : Bd 64000 L := fun x hx => by have := h x hx; omega
theorem pre_next (X : List Int) (t : Nat) (h : t < X.length) : pre X (t + 1) = pre X t + X.getD t 0 := by
  unfold pre
  rw [take_snoc X t h, su_append]
  simp [su]
theorem grow_bel {w wr w5 : World} {u : Value} {base k : Nat} {xs : List Value} {L : List Int} (hb : Bel w wr) (hown : wr.ownsRow base 3 1 u k (zs L)) (hw : w.heap.size ≤ base) (o : Obj) (hg : (wr.alloc o).grownBy w5 u.ownBlock) : Bel w w5 :=
  Below.grown (hb.al o) hg (hb.al o).size (fun q e => by have := (hown.lt q e).1; omega)
set_option maxHeartbeats 2000000 in
set_option maxRecDepth 100000 in
theorem starts_ok (m n : Nat) (m1 : 2 ≤ m) (m2 : m ≤ 32) (n1 : 1 ≤ n) (n8 : n ≤ 8) (nm : n ≤ m) (w : World) :
    Calls Try.prog 33 #[.int .i64 (m : Int), .int .i64 (n : Int)] w fun e w' => ∃ h c, e = .returned (.tuple #[.slice (some ⟨h, 0, none⟩) (n + 1) c, .int .i64 0]) ∧ w'.ownsRow w.heap.size 3 1 (.slice (some ⟨h, 0, none⟩) (n + 1) c) (n + 1) (zs (sts m n)) ∧ Bel w w' := by
  obtain ⟨i0, hi0, hz0, hz1, hz2⟩ := info_parts info_int
  have HI := Lib.hid (And.intro hi0 (And.intro hz0 (And.intro hz1 hz2)))
  clear hi0 hz0 hz1 hz2
  have a1 : 2 ≤ (m : Int) := by omega
  have a2 : (m : Int) ≤ 32 := by omega
  have a3 : 1 ≤ (n : Int) := by omega
  have a4 : (n : Int) ≤ 8 := by omega
  have a5 : (n : Int) ≤ (m : Int) := by omega
  have a6 : ¬ m < n := by omega
  have a7 : decide (m < n) = false := by simpa using nm
  go_enter Try.func33, Try.ntmps33
  go_wp2
  go_loopw [6, 7] (fun s6 s7 wr => ∃ (t : Nat) (V : World) (u : Value), V = wr ∧ u = s6 ∧ t ≤ n + 1 ∧ s7 = .int .i64 (t : Int) ∧ wr.ownsRow w.heap.size 3 1 s6 t (zs ((sts m n).take t)) ∧ Bel w wr) (fun _ s7 _ => n + 1 - (intOf s7).toNat)
  case atStart => exact ⟨0, _, _, rfl, rfl, by omega, rfl, World.ownsRow_nil _ _ _ _, Bel.rf⟩
  case round =>
    obtain ⟨t, wr, u6, hwr, hu, ht, rfl, hz, hb⟩ := hrel
    subst hwr hu
    have HZ := Lib.hid hz
    have HB := Lib.hid hb
    have hsz := hb.size
    clear hz hb
    rcases Nat.lt_or_ge n t with hlt | hge
    · obtain rfl : t = n + 1 := by omega
      have d1 : ¬ ((n + 1 : Nat) : Int) ≤ (n : Int) := by omega
      have d2 : ¬ (n : Int) + 1 ≤ (n : Int) := by omega
      have hz := HZ.out
      rw [List.take_of_length_le (by rw [sts_len]; exact Nat.le_refl _)] at hz
      obtain ⟨h, c, rfl, hc, hh⟩ := row_form hz (by omega)
      have HZ2 := Lib.hid hz
      clear hz
      go_wp2
      go_ret2
      exact ⟨h, c, rfl, HZ2.out, HB.out⟩
    · have ti : (t : Int) ≤ (n : Int) := by omega
      have hst := sts_at m n t (by omega) hge
      have hbd := st_le m n t (by omega) hge
      obtain ⟨K, hK⟩ : ∃ K : Nat, t * m = K := ⟨_, rfl⟩
      have hKi : (t : Int) * (m : Int) = (K : Int) := by rw [← hK, Int.natCast_mul]
      obtain ⟨s, hs⟩ : ∃ s : Nat, st m n t = s := ⟨_, rfl⟩
      have hs2 : K / n = s := by rw [← hs, ← hK]; rfl
      have hd : (K : Int).tdiv (n : Int) = (s : Int) := by rw [Int.tdiv_eq_ediv_of_nonneg (by omega), ← Int.natCast_ediv, hs2]
      have hK2 : K ≤ 8 * 32 := by rw [← hK]; exact Nat.mul_le_mul (by omega) m2
      have hKb : (K : Int) ≤ 256 := by omega
      have n0 : ¬ (n : Int) = 0 := by omega
      have n00 : ¬ n = 0 := by omega
      have sb : (s : Int) ≤ 32 := by omega
      have wK : IntKind.i64.wrap (K : Int) = (K : Int) := IntWalk.i64_in _ (by omega)
      have wK2 : wrap64 (K : Int) = (K : Int) := IntWalk.wrap64_in _ (by omega)
      have ws : IntKind.i64.wrap (s : Int) = (s : Int) := IntWalk.i64_in _ (by omega)
      have ws2 : wrap64 (s : Int) = (s : Int) := IntWalk.wrap64_in _ (by omega)
      have HN : Hid ((sts m n).take (t + 1) = (sts m n).take t ++ [(s : Int)]) := by show _ = _; rw [take_snoc _ t (by rw [sts_len]; omega), hst, hs]
      clear hst hbd hK hs hs2 hK2
      go_wp2_with (at_builtin; refine wpList_append_lies _ (by rfl) _ _ 22 (by rfl) w.heap.size 3 i0 _ 1 8 Try.underlying22 HI.out.1 HI.out.2.1 HI.out.2.2.1 HI.out.2.2.2 (by rfl) (by omega) u6 t (zs ((sts m n).take t)) (by rfl) (HZ.out.alloc _) ⟨wr.heap.size, 0, none⟩ 1 1 [.int .i64 (s : Int)] (by rfl) (by rfl) (World.news_of_block (cs := #[.int .i64 (s : Int)]) (t := 3) (fr := (0, 0)) (Bk.nw _ _ _)) (by simp [Value.oneCell']) (by omega) (by unfold maxLen; omega) (by omega) (by simp; omega) (wr.heap.size + 1) (by simp) ?_; intro g' cap' w5 hown4 hgrow hat hlt4)
      have hbw := grow_bel (xs := []) HB.out HZ.out (Nat.le_refl _) _ hgrow
      have HR := Lib.hid (And.intro hown4 hbw)
      clear hown4 hgrow hat hbw
      go_wp2
      go_roundw
      case rel => exact ⟨t + 1, _, _, rfl, rfl, by omega, by go_num, by rw [HN.out, zs_app]; exact HR.out.1, HR.out.2⟩
      case measure => simp [intOf]; omega
set_option maxHeartbeats 2000000 in
set_option maxRecDepth 100000 in
theorem fold_ok (hx ha c ca m n : Nat) (X : List Int) (m1 : 2 ≤ m) (m2 : m ≤ 32) (n1 : 1 ≤ n) (n8 : n ≤ 8) (hs : Bd 64000 X) (w : World) (h1 : Zi w (some ⟨hx, 0, none⟩) m X) (h2 : Zi w (some ⟨ha, 0, none⟩) (n + 1) (sts m n)) :
    Calls Try.prog 62 #[.slice (some ⟨hx, 0, none⟩) m c, .slice (some ⟨ha, 0, none⟩) (n + 1) ca] w fun e w' => ∃ h c, e = .returned (.slice (some ⟨h, 0, none⟩) n c) ∧ w'.ownsRow w.heap.size 3 1 (.slice (some ⟨h, 0, none⟩) n c) n (zs (pls X m n)) ∧ Bel w w' := by
  obtain ⟨i0, hi0, hz0, hz1, hz2⟩ := info_parts info_int
  have HI := Lib.hid (And.intro hi0 (And.intro hz0 (And.intro hz1 hz2)))
  clear hi0 hz0 hz1 hz2
  have H1 := Lib.hid h1
  have H2 := Lib.hid h2
  have HS := Lib.hid hs
  have HX : Hid (X.length = m) := h1.1
  have a1 : 2 ≤ (m : Int) := by omega
  have a2 : (m : Int) ≤ 32 := by omega
  have a3 : 1 ≤ (n : Int) := by omega
  have a4 : (n : Int) ≤ 8 := by omega
  clear h1 h2 hs
  go_enter Try.func62, Try.ntmps62
  go_wp2
  go_loopw [5, 6] (fun s5 s6 wr => ∃ (t : Nat) (V : World) (u : Value), V = wr ∧ u = s5 ∧ t ≤ n ∧ s6 = .int .i64 ((t : Int) + 1) ∧ wr.ownsRow w.heap.size 3 1 s5 t (zs ((pls X m n).take t)) ∧ Bel w wr) (fun _ s6 _ => n + 1 - (intOf s6).toNat)
  case atStart => exact ⟨0, _, _, rfl, rfl, by omega, rfl, World.ownsRow_nil _ _ _ _, Bel.rf⟩
  case round =>
    obtain ⟨t, wr, u5, hwr, hu, ht, rfl, hz, hb⟩ := hrel
    subst hwr hu
    have HZ := Lib.hid hz
    have HB := Lib.hid hb
    have hsz := hb.size
    clear hz hb
    rcases Nat.lt_or_ge t n with hlt | hge
    · have ti : (t : Int) < (n : Int) := by omega
      obtain ⟨t1, ht1⟩ : ∃ k, t + 1 = k := ⟨_, rfl⟩
      have hti : (t : Int) + 1 = (t1 : Int) := by omega
      have htm : (t1 : Int) - 1 = (t : Int) := by omega
      have ti1 : (t1 : Int) < ((n + 1 : Nat) : Int) := by omega
      have ti2 : (t1 : Int) < (n : Int) + 1 := by omega
      have ti3 : (t : Int) < ((n + 1 : Nat) : Int) := by omega
      have ti4 : (t : Int) < (n : Int) + 1 := by omega
      have c1 := (H2.out.bel HB.out).at t (by omega)
      rw [sts_at m n t (by omega) (by omega)] at c1
      have hm1 := st_mono m n t t1 (by omega)
      have hm2 := st_le m n t1 (by omega) (by omega)
      have hpl := pls_at X m n t hlt
      obtain ⟨p, hp⟩ : ∃ p, st m n t = p := ⟨_, rfl⟩
      obtain ⟨q, hq⟩ : ∃ p, st m n t1 = p := ⟨_, rfl⟩
      rw [ht1, hp, hq, pg_pre X p q (by omega)] at hpl
      rw [hp] at c1 hm1
      rw [hq] at hm1 hm2
      have C2 : Hid (∀ W, Bel wr W → W.cell? ⟨ha, t1, none⟩ = some (.int .i64 (q : Int))) := fun W hW => by
        have := (H2.out.bel (HB.out.tr hW)).at t1 (by omega)
        rwa [sts_at m n t1 (by omega) (by omega), hq] at this
      have HPL := Lib.hid hpl
      rw [hti]
      clear hp hq hpl hti
      go_wp2
      clear c1
      go_loopw [7, 8] (fun s7 s8 wq => ∃ (i : Nat) (V : World), V = wq ∧ p ≤ i ∧ i ≤ q ∧ s8 = .int .i64 (i : Int) ∧ s7 = .int .i64 (pre X i - pre X p) ∧ Bel wr wq) (fun _ s8 _ => q - (intOf s8).toNat)
      case atStart => exact ⟨p, _, rfl, Nat.le_refl _, hm1, rfl, by rw [Int.sub_self], Bel.rf⟩
      case round =>
        obtain ⟨i, wq, hwq, hpi, hiq, rfl, rfl, hbq⟩ := hrel
        subst hwq
        have HBQ := Lib.hid hbq
        have c2 := C2.out _ hbq
        have l1 := List.length_take_le' i X
        have l2 := List.length_take_le' p X
        have l3 := HX.out
        have b1 := bd_in (HS.out.take i) (by decide) 32 (by omega)
        have b2 := bd_in (HS.out.take p) (by decide) 32 (by omega)
        clear l3
        have e1 : pre X i = su ix (X.take i) := su_ix _
        have e2 : pre X p = su ix (X.take p) := su_ix _
        rw [← e1] at b1
        rw [← e2] at b2
        obtain ⟨s, hs⟩ : ∃ s, pre X i - pre X p = s := ⟨_, rfl⟩
        rw [hs]
        obtain ⟨s0, s1⟩ : -4096000 ≤ s ∧ s ≤ 4096000 := by omega
        have HSS := Lib.hid hs
        clear b1 b2 l1 l2 e1 e2 hs
        rcases Nat.lt_or_ge i q with hlt2 | hge2
        · have c3 := (H1.out.bel (HB.out.tr hbq)).at i (by omega)
          have px := bd_at HS.out i (by decide)
          have hn := pre_next X i (by rw [HX.out]; omega)
          obtain ⟨x, hx⟩ : ∃ x, X.getD i 0 = x := ⟨_, rfl⟩
          rw [hx] at c3 px hn
          obtain ⟨x0, x1⟩ := px
          have HN : Hid (s + x = pre X (i + 1) - pre X p) := by show _ = _; rw [← HSS.out, hn]; omega
          have qi : (i : Int) < (q : Int) := by omega
          have im : (i : Int) < (m : Int) := by omega
          clear hbq hx hn
          go_wp2
          go_roundw
          case rel => exact ⟨i + 1, _, rfl, by omega, by omega, by go_num, by rw [HN.out], by first | exact HBQ.out | exact HBQ.out.drw | exact HBQ.out.drwN _⟩
          case measure => simp [intOf]; omega
        · obtain rfl : i = q := by omega
          have HZ := Lib.hid (own_bel HZ.out hbq)
          have HBB := Lib.hid (HB.out.tr hbq)
          have hs5 := HBB.out.size
          have HN : Hid ((pls X m n).take (t + 1) = (pls X m n).take t ++ [s]) := by show _ = _; rw [take_snoc _ t (by rw [pls_len]; exact hlt), HPL.out, HSS.out]
          clear hbq
          go_wp2_with (at_builtin; refine wpList_append_lies _ (by rfl) _ _ 22 (by rfl) w.heap.size 3 i0 _ 1 8 Try.underlying22 HI.out.1 HI.out.2.1 HI.out.2.2.1 HI.out.2.2.2 (by rfl) (by omega) u5 t (zs ((pls X m n).take t)) (by rfl) (HZ.out.alloc _) ⟨wq.heap.size, 0, none⟩ 1 1 [.int .i64 s] (by rfl) (by rfl) (World.news_of_block (cs := #[.int .i64 s]) (t := 3) (fr := (0, 0)) (Bk.nw _ _ _)) (by simp [Value.oneCell']) (by omega) (by unfold maxLen; omega) (by omega) (by simp; omega) (wq.heap.size + 1) (by simp) ?_; intro g' cap' w5 hown4 hgrow hat hlt4)
          have hbw := grow_bel (xs := []) HBB.out HZ.out (Nat.le_refl _) _ hgrow
          have HR := Lib.hid (And.intro hown4 hbw)
          clear hown4 hgrow hat hbw
          go_wp2
          go_roundw
          case rel => exact ⟨t + 1, _, _, rfl, rfl, by omega, by congr 1; omega, by rw [HN.out, zs_app]; have h := HR.out.1; simp only [ht1] at h ⊢; exact h, HR.out.2⟩
          case measure => simp [intOf]; omega
    · obtain rfl : t = n := by omega
      have d1 : ¬ (t : Int) + 1 < ((t + 1 : Nat) : Int) := by omega
      have d2 : ¬ (t : Int) + 1 < (t : Int) + 1 := by omega
      have hz := HZ.out
      rw [List.take_of_length_le (by rw [pls_len]; exact Nat.le_refl _)] at hz
      obtain ⟨h, c, rfl, hc, hh⟩ := row_form hz (by omega)
      have HZ2 := Lib.hid hz
      clear hz
      go_wp2
      go_ret
      exact ⟨h, c, rfl, HZ2.out, HB.out⟩
set_option maxHeartbeats 4000000 in
theorem rwin_ok (A : Option Addr) (c n : Nat) (L : List Int) (n1 : 2 ≤ n) (n2 : n ≤ 32) (hs : Sam L) (w : World) (h : Zi w A n L) :
    Calls Try.prog 61 #[.slice A n c] w fun e w' => e = .returned (.int .i64 0) ∧ Bel w w' := by
  have i1 : 2 ≤ (n : Int) := by omega
  have i2 : (n : Int) ≤ 32 := by omega
  have S1 : Hid (∀ W, Bel w W → _) := fun W hW => R12.rsamples_ok A c n L (by omega) hs W (h.bel hW)
  clear h hs
  go_enter Try.func61, Try.ntmps61
  go_wp2_with fail
  go_at_call 92
  refine (S1.out _ Bel.rf).mono ?_
  rintro e w1 ⟨rfl, hb1⟩
  go_wp2
  go_ret
  exact ⟨rfl, hb1⟩
end Go.Proofs.Ytmgdoglnckkobaa.R18
namespace Go.Proofs.Ytmgdoglnckkobaa.R18
open Go.ChangeShapes Go.WideShapes Go.RowKit Wo Sr Wi Eu Pc Ra Nr
set_option linter.unusedVariables false
set_option maxHeartbeats 4000000 in
set_option maxRecDepth 100000 in
theorem rmc_any (k b g : Int) (h : Ms.Mv k b g) (w : World) : Calls Try.prog 120 #[.agg #[.int .i64 k, .int .i64 b, .int .i64 g]] w fun e w' => e = .returned (.int .i64 0) ∧ Bel w w' := by
  have hg : -1000 ≤ g ∧ g ≤ 1000 := by unfold Ms.Mv at h; omega
  have S1 : Hid (∀ W, _) := fun W => R12.rsample_ok g hg.1 hg.2 W
  clear hg
  rcases h with ⟨rfl | rfl | rfl, rfl, rfl⟩ | ⟨rfl, h0, h1, rfl⟩ | ⟨rfl, rfl, h0, h1⟩
  all_goals
    go_enter Try.func120, Try.ntmps120
    go_wp2_with (go_at_call 115; refine (S1.out _).mono ?_; rintro e w' ⟨rfl, rfl⟩)
    go_ret
    exact ⟨rfl, by repeat (first | exact Bel.rf | exact Bel.rf.al _ | with_reducible refine Bel.drwN ?_ _ | with_reducible refine Bel.drw ?_ | with_reducible refine Bel.al ?_ _)⟩
end Go.Proofs.Ytmgdoglnckkobaa.R18
namespace Go.Proofs.Ytmgdoglnckkobaa.R18
open Go.ChangeShapes Go.WideShapes Go.RowKit Wo Sr Wi Eu Pc Ra Nr
set_option linter.unusedVariables false
set_option maxHeartbeats 4000000 in
set_option maxRecDepth 100000 in
theorem rsc_any (k b g : Int) (m n : Nat) (A : Option Addr) (nc cc : Nat) (C : List Int) (hs : Wd.Sv k b g m n C) (w : World) (hz : Zi w A nc C) :
    Calls Try.prog 103 #[Wd.Sx k b g m n A nc cc] w fun e w' => e = .returned (.int .i64 0) ∧ Bel w w' := by
  obtain ⟨hmv, m2, m32, n1, n8, nm, hcv⟩ := hs
  have CK : Hid (∀ W, _) := fun W => rmc_any k b g hmv W
  have HCV := Lib.hid hcv
  have HZ := Lib.hid hz
  have HL := Lib.hid hz.1
  have c15 : (nc : Int) ≤ 15 := by have := hcv.1; have := hz.1; omega
  have v1 : 2 ≤ (m : Int) := by omega
  have v2 : (m : Int) ≤ 32 := by omega
  have v3 : 1 ≤ (n : Int) := by omega
  have v4 : (n : Int) ≤ 8 := by omega
  have v5 : (n : Int) ≤ (m : Int) := by omega
  have ea1 : decide ((m : Int) < 2) = false := decide_eq_false (by omega)
  have ea2 : decide ((32 : Int) < (m : Int)) = false := decide_eq_false (by omega)
  have ea3 : decide ((n : Int) < 1) = false := decide_eq_false (by omega)
  have ea4 : decide ((8 : Int) < (n : Int)) = false := decide_eq_false (by omega)
  have ea5 : decide ((m : Int) < (n : Int)) = false := decide_eq_false (by omega)
  have ea6 : decide (m < n) = false := decide_eq_false (by omega)
  have ea7 : decide ((15 : Int) < (nc : Int)) = false := decide_eq_false (by omega)
  have ea8 : decide (15 < nc) = false := decide_eq_false (by omega)
  have HB0 : Hid (Bk (w.alloc (.cells #[.int .i64 k, .int .i64 b, .int .i64 g, .int .i64 (m : Int), .int .i64 (n : Int), .slice A nc cc] 56)) w.heap.size 56 #[.int .i64 k, .int .i64 b, .int .i64 g, .int .i64 (m : Int), .int .i64 (n : Int), .slice A nc cc]) := Bk.nw _ _ _
  have HB1 : Hid (Bel w (w.alloc (.cells #[.int .i64 k, .int .i64 b, .int .i64 g, .int .i64 (m : Int), .int .i64 (n : Int), .slice A nc cc] 56))) := Bel.rf.al _
  clear hmv hcv hz
  unfold Wd.Sx
  go_enter Try.func103, Try.ntmps103
  go_wp2_with (go_at_call 120; refine (CK.out _).mono ?_; rintro e w3 ⟨rfl, hb3⟩; have HK3 := Lib.hid ((HB0.out.bel (by repeat (first | exact Bel.rf | (with_reducible refine Bel.drwN ?_ _) | (with_reducible refine Bel.drw ?_) | (with_reducible refine Bel.al ?_ _)))).bel hb3); have HW3 : Hid (Bel w w3) := HB1.out.tr (Bel.tr (by repeat (first | exact Bel.rf | (with_reducible refine Bel.drwN ?_ _) | (with_reducible refine Bel.drw ?_) | (with_reducible refine Bel.al ?_ _))) hb3); have p0 := HK3.out.cell 0; have p3 := HK3.out.cell 3; have p4 := HK3.out.cell 4; have p5 := HK3.out.cell 5; simp only [List.getElem?_toArray, List.getElem?_cons_zero, List.getElem?_cons_succ] at p0 p3 p4 p5; clear hb3)
  go_loopw [44] (fun s44 wr => ∃ (i : Nat) (V : World), V = wr ∧ i ≤ nc ∧ s44 = .int .i64 (i : Int) ∧ Bel w3 wr) (fun s44 _ => nc - (intOf s44).toNat)
  case atStart => exact ⟨0, _, rfl, by omega, rfl, (by repeat (first | exact Bel.rf | (with_reducible refine Bel.drwN ?_ _) | (with_reducible refine Bel.drw ?_) | (with_reducible refine Bel.al ?_ _)))⟩
  case round =>
    obtain ⟨i, wr, hwr, hi, rfl, hb⟩ := hrel
    subst hwr
    have HB := Lib.hid hb
    have r5 := hb.kp p5
    clear p0 p3 p4 p5 hb
    rcases Nat.lt_or_ge i nc with hlt | hge
    · obtain ⟨ad, e, _, hc⟩ := (HZ.out.bel (HW3.out.tr HB.out)).2 (by omega)
      subst e
      have c1 := hc i hlt
      obtain ⟨x, hx⟩ : ∃ x, C.getD i 0 = x := ⟨_, rfl⟩
      have hxb := HCV.out.2.1 i (by rw [HL.out]; exact hlt)
      rw [hx] at c1 hxb
      obtain ⟨x1, x2⟩ := hxb
      have ii : (i : Int) < (nc : Int) := by omega
      have i0 : (0 : Int) ≤ (i : Int) := by omega
      have nx1 : ¬ x < -2000 := by omega
      have nx2 : ¬ 2000 < x := by omega
      have dx1 : decide (x < -2000) = false := decide_eq_false nx1
      have dx2 : decide (2000 < x) = false := decide_eq_false nx2
      have dx3 : decide (x > 2000) = false := decide_eq_false nx2
      rcases Nat.eq_zero_or_pos i with h0 | h0
      · subst h0
        have c1' : wr.cell? ad = some (.int .i64 x) := by simpa [Addr.add] using c1
        clear hc c1 hx
        have di : decide ((0 : Int) < ((0 : Nat) : Int)) = false := by decide
        have c1n : wr.cell? (ad.add 0) = some (.int .i64 x) := by simpa [Addr.add] using c1'
        go_wp2_with fail
        go_quiet (fail)
        go_wp2
        go_roundw
        case rel => exact ⟨0 + 1, _, rfl, by omega, by go_num, (by repeat (first | exact HB.out | (with_reducible refine Bel.drwN ?_ _) | (with_reducible refine Bel.drw ?_) | (with_reducible refine Bel.al ?_ _)))⟩
        case measure => simp [intOf]; omega
      · obtain ⟨j, hj⟩ : ∃ j, i = j + 1 := ⟨i - 1, by omega⟩
        have c2 := hc j (by omega)
        obtain ⟨y, hy⟩ : ∃ x, C.getD j 0 = x := ⟨_, rfl⟩
        have hyx : y < x := by
          have := HCV.out.2.2 j (by rw [HL.out]; omega)
          rw [hy, ← hj, hx] at this; exact this
        rw [hy] at c2
        have jn : (j : Int) < (nc : Int) := by omega
        have j0 : (0 : Int) ≤ (j : Int) := by omega
        have ji : (i : Int) - 1 = (j : Int) := by omega
        have jw : IntKind.i64.wrap (j : Int) = (j : Int) := IntWalk.i64_in _ (by omega)
        have jw2 : IntKind.i64.wrap ((i : Int) - 1) = (j : Int) := by rw [ji]; exact jw
        have ip : (i : Int) > 0 := by omega
        have ip' : decide ((i : Int) > 0) = true := decide_eq_true ip
        have tu : ¬ x ≤ y := by omega
        have tu' : decide (x ≤ y) = false := decide_eq_false tu
        clear hc hx hy hj
        have di : decide ((0 : Int) < (i : Int)) = true := decide_eq_true (by omega)
        go_wp2_with fail
        go_quiet (fail)
        go_wp2
        go_roundw
        case rel => exact ⟨i + 1, _, rfl, by omega, by go_num, (by repeat (first | exact HB.out | (with_reducible refine Bel.drwN ?_ _) | (with_reducible refine Bel.drw ?_) | (with_reducible refine Bel.al ?_ _)))⟩
        case measure => simp [intOf]; omega
    · obtain rfl : i = nc := by omega
      go_wp2
      go_ret
      exact ⟨rfl, (by repeat (first | exact HW3.out.tr HB.out | (with_reducible refine Bel.drwN ?_ _) | (with_reducible refine Bel.drw ?_) | (with_reducible refine Bel.al ?_ _)))⟩
end Go.Proofs.Ytmgdoglnckkobaa.R18
namespace Go.Proofs.Ytmgdoglnckkobaa.R18
open Go.ChangeShapes Go.WideShapes Go.RowKit Wo Sr Wi Eu Pc Ra Nr
set_option linter.unusedVariables false
set_option maxHeartbeats 4000000 in
set_option maxRecDepth 100000 in
theorem rfits_ok (k b g : Int) (m n : Nat) (A : Option Addr) (nc cc : Nat) (C : List Int) (A' : Option Addr) (c : Nat) (X : List Int) (hs : Wd.Sv k b g m n C) (hX : Sam X) (w : World) (hz : Zi w A nc C) (hzx : Zi w A' m X) :
    Calls Try.prog 100 #[Wd.Sx k b g m n A nc cc, .slice A' m c] w fun e w' => e = .returned (.int .i64 0) ∧ Bel w w' := by
  have m32 := hs.m32
  have CK : Hid (∀ W, Bel w W → Calls Try.prog 103 #[.agg #[.int .i64 k, .int .i64 b, .int .i64 g, .int .i64 (m : Int), .int .i64 (n : Int), .slice A nc cc]] W fun e w' => e = .returned (.int .i64 0) ∧ Bel W w') := fun W hW => rsc_any k b g m n A nc cc C hs W (hz.bel hW)
  have SK : Hid (∀ W, Bel w W → _) := fun W hW => R12.rsamples_ok A' c m X (by omega) hX W (hzx.bel hW)
  have HB0 : Hid (Bk (w.alloc (.cells #[.int .i64 k, .int .i64 b, .int .i64 g, .int .i64 (m : Int), .int .i64 (n : Int), .slice A nc cc] 56)) w.heap.size 56 #[.int .i64 k, .int .i64 b, .int .i64 g, .int .i64 (m : Int), .int .i64 (n : Int), .slice A nc cc]) := Bk.nw _ _ _
  have HB1 : Hid (Bel w (w.alloc (.cells #[.int .i64 k, .int .i64 b, .int .i64 g, .int .i64 (m : Int), .int .i64 (n : Int), .slice A nc cc] 56))) := Bel.rf.al _
  have nnm := ne_self (m : Int)
  clear hs hz hzx m32
  unfold Wd.Sx
  go_enter Try.func100, Try.ntmps100
  go_wp2_with fail
  go_at_call 103
  refine (CK.out _ (by repeat (first | exact Bel.rf | (with_reducible refine Bel.drwN ?_ _) | (with_reducible refine Bel.drw ?_) | (with_reducible refine Bel.al ?_ _)))).mono ?_
  rintro e w1 ⟨rfl, hb1⟩
  have HK1 := Lib.hid ((HB0.out.bel (by repeat (first | exact Bel.rf | (with_reducible refine Bel.drwN ?_ _) | (with_reducible refine Bel.drw ?_) | (with_reducible refine Bel.al ?_ _)))).bel hb1)
  have HW1 : Hid (Bel w w1) := HB1.out.tr (Bel.tr (by repeat (first | exact Bel.rf | (with_reducible refine Bel.drwN ?_ _) | (with_reducible refine Bel.drw ?_) | (with_reducible refine Bel.al ?_ _))) hb1)
  have q3 := HK1.out.cell 3
  simp only [List.getElem?_toArray, List.getElem?_cons_zero, List.getElem?_cons_succ] at q3
  clear hb1
  go_wp2_with fail
  go_at_call 92
  refine (SK.out _ (by repeat (first | exact HW1.out | (with_reducible refine Bel.drwN ?_ _) | (with_reducible refine Bel.drw ?_) | (with_reducible refine Bel.al ?_ _)))).mono ?_
  rintro e w2 ⟨rfl, hb2⟩
  have HW2 : Hid (Bel w w2) := HW1.out.tr (Bel.tr (by repeat (first | exact Bel.rf | (with_reducible refine Bel.drwN ?_ _) | (with_reducible refine Bel.drw ?_) | (with_reducible refine Bel.al ?_ _))) hb2)
  clear hb2
  go_wp2
  go_ret
  exact ⟨rfl, HW2.out⟩
end Go.Proofs.Ytmgdoglnckkobaa.R18
namespace Go.Proofs.Ytmgdoglnckkobaa.R18
open Go.ChangeShapes Go.WideShapes Go.RowKit Wo Sr Wi Eu Pc Ra Nr
open Go.Proofs.Ytmgdoglnckkobaa.Sk (sts_at)
set_option linter.unusedVariables false
theorem own_ge {w : World} {base n h c : Nat} {L : List Int} (z : w.ownsRow base 3 1 (.slice (some ⟨h, 0, none⟩) n c) n (zs L)) (hn : 1 ≤ n) : base ≤ h := by
  obtain ⟨g, c', e, _, hb⟩ := row_form z hn
  cases e
  exact hb
set_option maxHeartbeats 4000000 in
theorem rsums_ok (hx c m n : Nat) (X : List Int) (m1 : 2 ≤ m) (m2 : m ≤ 32) (n1 : 1 ≤ n) (n8 : n ≤ 8) (nm : n ≤ m) (hs : Sam X) (w : World) (h1 : Zi w (some ⟨hx, 0, none⟩) m X) :
    Calls Try.prog 25 #[.slice (some ⟨hx, 0, none⟩) m c, .int .i64 (n : Int)] w fun e w' => ∃ h c, e = .returned (.tuple #[.slice (some ⟨h, 0, none⟩) n c, .int .i64 0]) ∧ Zi w' (some ⟨h, 0, none⟩) n (pls X m n) ∧ w.heap.size ≤ h ∧ Bel w w' := by
  have WK : Hid (∀ W, Bel w W → _) := fun W hW => rwin_ok (some ⟨hx, 0, none⟩) c m X m1 m2 hs W (h1.bel hW)
  have SK : Hid (∀ W, _) := fun W => starts_ok m n m1 m2 n1 n8 nm W
  have FX : Hid (∀ W ha ca, Bel w W → Zi W (some ⟨ha, 0, none⟩) (n + 1) (sts m n) → _) := fun W ha ca hW hz => fold_ok hx ha c ca m n X m1 m2 n1 n8 (sam_bd hs) W (h1.bel hW) hz
  have a1 : 2 ≤ (m : Int) := by omega
  have a2 : (m : Int) ≤ 32 := by omega
  clear h1
  go_enter Try.func25, Try.ntmps25
  go_wp2_with fail
  go_at_call 61
  refine (WK.out _ Bel.rf).mono ?_
  rintro e w1 ⟨rfl, hb⟩
  have HB1 := Lib.hid hb
  clear hb
  go_wp2_with fail
  go_at_call 33
  refine (SK.out _).mono ?_
  rintro e w2 ⟨ha, ca, rfl, z, hb⟩
  have HB2 := Lib.hid (HB1.out.tr hb)
  have ZA2 := Lib.hid (own_zi z (sts_len m n))
  clear hb z
  go_wp2_with fail
  go_at_call 62
  refine (FX.out _ _ _ HB2.out ZA2.out).mono ?_
  rintro e w3 ⟨hp, cp, rfl, z, hb⟩
  have HB3 := Lib.hid (HB2.out.tr hb)
  have ZP3 := Lib.hid (own_zi z (pls_len X m n))
  have HG := Lib.hid (Nat.le_trans HB2.out.size (own_ge z n1))
  clear hb z
  go_wp2
  go_ret2
  exact ⟨hp, cp, rfl, ZP3.out, HG.out, HB3.out⟩
end Go.Proofs.Ytmgdoglnckkobaa.R18
namespace Go.Proofs.Ytmgdoglnckkobaa.R18
open Go.ChangeShapes Go.WideShapes Go.RowKit Wo Sr Wi Eu Pc Ra Nr
set_option linter.unusedVariables false
set_option maxHeartbeats 4000000 in
set_option maxRecDepth 100000 in
theorem rcen_ok (hx c m : Nat) (X : List Int) (m1 : 2 ≤ m) (m2 : m ≤ 32) (hs : Sam X) (w : World) (h1 : Zi w (some ⟨hx, 0, none⟩) m X) :
    Calls Try.prog 64 #[.slice (some ⟨hx, 0, none⟩) m c] w fun e w' => ∃ h c, e = .returned (.tuple #[.slice (some ⟨h, 0, none⟩) m c, .int .i64 0]) ∧ w'.ownsRow w.heap.size 3 1 (.slice (some ⟨h, 0, none⟩) m c) m (zs (cen X)) ∧ Bel w w' := by
  obtain ⟨i0, hi0, hz0, hz1, hz2⟩ := info_parts info_int
  have HI := Lib.hid (And.intro hi0 (And.intro hz0 (And.intro hz1 hz2)))
  clear hi0 hz0 hz1 hz2
  have WK : Hid (∀ W, Bel w W → _) := fun W hW => rwin_ok (some ⟨hx, 0, none⟩) c m X m1 m2 hs W (h1.bel hW)
  have H1 := Lib.hid h1
  have hX := h1.1
  have HX := Lib.hid hX
  have HS := Lib.hid hs
  have hcl : (cen X).length = m := by rw [cen_len', hX]
  have HCL := Lib.hid hcl
  have hsu := su_in hs
  have a1 : 2 ≤ (m : Int) := by omega
  have a2 : (m : Int) ≤ 32 := by omega
  obtain ⟨S, hS⟩ : ∃ S, su ix X = S := ⟨_, rfl⟩
  rw [hS, hX] at hsu
  obtain ⟨S0, S1⟩ : -32000 ≤ S ∧ S ≤ 32000 := by omega
  have HSS := Lib.hid hS
  clear h1 hsu hS hX hcl hs
  go_enter Try.func64, Try.ntmps64
  go_wp2_with fail
  go_at_call 61
  refine (WK.out _ Bel.rf).mono ?_
  rintro e w1 ⟨rfl, hb⟩
  have HB1 := Lib.hid hb
  clear hb
  go_wp2
  go_loopw [5, 16] (fun s5 s16 wr => ∃ (t : Nat) (V : World), V = wr ∧ t ≤ m ∧ s16 = .int .i64 (t : Int) ∧ s5 = .int .i64 (su ix (X.take t)) ∧ Bel w wr) (fun _ s16 _ => m - (intOf s16).toNat)
  case atStart => exact ⟨0, _, rfl, by omega, rfl, by simp [su], by first | exact HB1.out | exact HB1.out.drw | exact HB1.out.drwN _⟩
  case round =>
    obtain ⟨t, wr, hwr, ht, rfl, rfl, hb⟩ := hrel
    subst hwr
    have HB := Lib.hid hb
    have b := su_in (HS.out.take t)
    have bl := List.length_take_le' t X
    have bx := HX.out
    obtain ⟨s, hs⟩ : ∃ s, su ix (X.take t) = s := ⟨_, rfl⟩
    rw [hs] at b ⊢
    obtain ⟨s0, s1⟩ : -32000 ≤ s ∧ s ≤ 32000 := by omega
    have HSV := Lib.hid hs
    clear b bl bx hs
    rcases Nat.lt_or_ge t m with hlt | hge
    · have c1 := (H1.out.bel hb).at t hlt
      have px := HS.out.at t
      obtain ⟨x, hxe⟩ : ∃ x, X.getD t 0 = x := ⟨_, rfl⟩
      have HN : Hid (s + x = su ix (X.take (t + 1))) := by show _ = _; rw [su_next ix X t (by rw [HX.out]; exact hlt), HSV.out, hxe]; rfl
      rw [hxe] at c1 px
      obtain ⟨x0, x1⟩ := px
      have ti : (t : Int) < (m : Int) := by omega
      clear hb hxe
      go_wp2
      go_roundw
      case rel => exact ⟨t + 1, _, rfl, by omega, by go_num, by rw [← HN.out], by first | exact HB.out | exact HB.out.drw | exact HB.out.drwN _⟩
      case measure => simp [intOf]; omega
    · obtain rfl : t = m := by omega
      have HE : Hid (s = S) := by show _ = _; rw [← HSV.out, ← HSS.out, List.take_of_length_le (by rw [HX.out]; exact Nat.le_refl _)]
      obtain rfl := HE.out
      clear hb
      go_wp2
      go_loopw [7, 28] (fun s7 s28 wr => ∃ (q : Nat) (V : World) (u : Value), V = wr ∧ u = s7 ∧ q ≤ t ∧ s28 = .int .i64 (q : Int) ∧ wr.ownsRow w.heap.size 3 1 s7 q (zs ((cen X).take q)) ∧ Bel w wr) (fun _ s28 _ => t - (intOf s28).toNat)
      case atStart => exact ⟨0, _, _, rfl, rfl, by omega, rfl, World.ownsRow_nil _ _ _ _, by first | exact HB.out | exact HB.out.drw | exact HB.out.drwN _⟩
      case round =>
        obtain ⟨q, wr2, u7, hwr, hu, hq, rfl, hz, hb⟩ := hrel
        subst hwr hu
        have HZ := Lib.hid hz
        have HB := Lib.hid hb
        have hsz := hb.size
        rcases Nat.lt_or_ge q t with hlt | hge2
        · have c1 := (H1.out.bel hb).at q hlt
          have px := HS.out.at q
          obtain ⟨x, hxe⟩ : ∃ x, X.getD q 0 = x := ⟨_, rfl⟩
          rw [hxe] at c1 px
          obtain ⟨x0, x1⟩ := px
          have qi : (q : Int) < (t : Int) := by omega
          obtain ⟨z, hze⟩ : ∃ z, (t : Int) * x = z := ⟨_, rfl⟩
          have z0 : -32000 ≤ z ∧ z ≤ 32000 := by
            have e1 := Int.mul_le_mul_of_nonneg_left x1 (show 0 ≤ (t : Int) by omega)
            have e2 := Int.mul_le_mul_of_nonneg_left x0 (show 0 ≤ (t : Int) by omega)
            omega
          obtain ⟨z0, z1⟩ := z0
          obtain ⟨y, hy⟩ : ∃ y, z - s = y := ⟨_, rfl⟩
          have y0 : -64000 ≤ y := by omega
          have y1 : y ≤ 64000 := by omega
          have wz : IntKind.i64.wrap z = z := IntWalk.i64_in _ (by omega)
          have wz2 : wrap64 z = z := IntWalk.wrap64_in _ (by omega)
          have wy : IntKind.i64.wrap y = y := IntWalk.i64_in _ (by omega)
          have wy2 : wrap64 y = y := IntWalk.wrap64_in _ (by omega)
          have HN : Hid ((cen X).take (q + 1) = (cen X).take q ++ [y]) := by
            show _ = _
            rw [take_snoc _ q (by rw [HCL.out]; exact hlt)]
            unfold cen
            rw [af_at _ _ _ _ (by rw [HX.out]; exact hlt), hxe, HX.out, HSS.out, ← hy, ← hze, Int.mul_comm x]
            rfl
          clear hb hz hxe
          go_wp2_with (at_builtin; refine wpList_append_lies _ (by rfl) _ _ 22 (by rfl) w.heap.size 3 i0 _ 1 8 Try.underlying22 HI.out.1 HI.out.2.1 HI.out.2.2.1 HI.out.2.2.2 (by rfl) (by omega) u7 q (zs ((cen X).take q)) (by rfl) (HZ.out.alloc _) ⟨wr2.heap.size, 0, none⟩ 1 1 [.int .i64 y] (by rfl) (by rfl) (World.news_of_block (cs := #[.int .i64 y]) (t := 3) (fr := (0, 0)) (Bk.nw _ _ _)) (by simp [Value.oneCell']) (by omega) (by unfold maxLen; omega) (by omega) (by simp; omega) (wr2.heap.size + 1) (by simp) ?_; intro g' cap' w5 hown4 hgrow hat hlt4)
          have hbw := grow_bel (xs := []) HB.out HZ.out (Nat.le_refl _) _ hgrow
          have HR := Lib.hid (And.intro hown4 hbw)
          clear hown4 hgrow hat hbw
          go_wp2
          go_roundw
          case rel => exact ⟨q + 1, _, _, rfl, rfl, by omega, by go_num, by rw [HN.out, zs_app]; exact HR.out.1, HR.out.2⟩
          case measure => simp [intOf]; omega
        · obtain rfl : q = t := by omega
          rw [List.take_of_length_le (by rw [HCL.out]; exact Nat.le_refl _)] at hz
          obtain ⟨h, c, rfl, hc, hh⟩ := row_form hz (by omega)
          have HZ2 := Lib.hid hz
          clear hz hb
          go_wp2
          go_ret2
          exact ⟨h, c, rfl, HZ2.out, HB.out⟩
set_option maxHeartbeats 4000000 in
theorem rcens_ok (hx c m n : Nat) (X : List Int) (m1 : 2 ≤ m) (m2 : m ≤ 32) (n1 : 1 ≤ n) (n8 : n ≤ 8) (nm : n ≤ m) (hs : Sam X) (w : World) (h1 : Zi w (some ⟨hx, 0, none⟩) m X) :
    Calls Try.prog 27 #[.slice (some ⟨hx, 0, none⟩) m c, .int .i64 (n : Int)] w fun e w' => ∃ h c, e = .returned (.tuple #[.slice (some ⟨h, 0, none⟩) n c, .int .i64 0]) ∧ Zi w' (some ⟨h, 0, none⟩) n (pls (cen X) m n) ∧ w.heap.size ≤ h ∧ Bel w w' := by
  have hX := h1.1
  have cl : (cen X).length = m := by rw [cen_len', hX]
  have cb : Bd 64000 (cen X) := Wi.cen_bd hs (by omega)
  have WK : Hid (∀ W, Bel w W → _) := fun W hW => rcen_ok hx c m X m1 m2 hs W (h1.bel hW)
  have SK : Hid (∀ W, _) := fun W => starts_ok m n m1 m2 n1 n8 nm W
  have FX : Hid (∀ W hc cc ha ca, Zi W (some ⟨hc, 0, none⟩) m (cen X) → Zi W (some ⟨ha, 0, none⟩) (n + 1) (sts m n) → _) := fun W hc cc ha ca hz hz2 => fold_ok hc ha cc ca m n (cen X) m1 m2 n1 n8 cb W hz hz2
  have CL := Lib.hid cl
  have a1 : 2 ≤ (m : Int) := by omega
  have a2 : (m : Int) ≤ 32 := by omega
  clear h1 hX cl cb
  go_enter Try.func27, Try.ntmps27
  go_wp2_with fail
  go_at_call 64
  refine (WK.out _ Bel.rf).mono ?_
  rintro e w1 ⟨hc, cc, rfl, z, hb⟩
  have HB1 := Lib.hid hb
  have ZC1 := Lib.hid (own_zi z CL.out)
  clear hb z
  go_wp2_with fail
  go_at_call 33
  refine (SK.out _).mono ?_
  rintro e w2 ⟨ha, ca, rfl, z, hb⟩
  have HB2 := Lib.hid (HB1.out.tr hb)
  have ZC2 := Lib.hid (ZC1.out.bel hb)
  have ZA2 := Lib.hid (own_zi z (sts_len m n))
  clear hb z
  go_wp2_with fail
  go_at_call 62
  refine (FX.out _ _ _ _ _ ZC2.out ZA2.out).mono ?_
  rintro e w3 ⟨hp, cp, rfl, z, hb⟩
  have HB3 := Lib.hid (HB2.out.tr hb)
  have ZP3 := Lib.hid (own_zi z (pls_len (cen X) m n))
  have HG := Lib.hid (Nat.le_trans HB2.out.size (own_ge z n1))
  clear hb z
  go_wp2
  go_ret2
  exact ⟨hp, cp, rfl, ZP3.out, HG.out, HB3.out⟩
end Go.Proofs.Ytmgdoglnckkobaa.R18
namespace Go.Proofs.Ytmgdoglnckkobaa.Un
open Go.ChangeShapes Go.WideShapes Go.RowKit Wo
set_option linter.unusedVariables false
theorem rdown_any (a b : Int) (h1 : 1 ≤ b) (h2 : b ≤ 4611686018427387904) (h3 : -4611686018427387904 ≤ a) (h4 : a ≤ 4611686018427387904) (w : World) :
    Calls Try.prog 101 #[.int .i64 a, .int .i64 b] w fun e w' => e = .returned (.int .i64 (a / b)) ∧ w = w' := by
  have m := fl_parts a b h1
  have t := td_bound a b 4611686018427387904 h1 h3 h4
  have t0 := t.1
  have t1 := t.2
  have hne : b ≠ 0 := by omega
  have e1 := m.2.2.1
  have e2 := m.2.2.2
  have tw : IntKind.i64.wrap (a.tdiv b) = a.tdiv b := IntWalk.i64_in _ (by omega)
  have tw3 : wrap64 (a.tdiv b) = a.tdiv b := IntWalk.wrap64_in _ (by omega)
  have tw2 : IntKind.i64.wrap (a.tdiv b - 1) = a.tdiv b - 1 := IntWalk.i64_in _ (by omega)
  rcases Int.lt_or_le (a.tmod b) 0 with h | h
  · have HE := Lib.hid (m.1 h)
    clear m t
    go_enter Try.func101, Try.ntmps101
    go_wp2
    go_ret
    exact ⟨ret_int HE.out, rfl⟩
  · have HE := Lib.hid (m.2.1 h)
    clear m t
    go_enter Try.func101, Try.ntmps101
    go_wp2
    go_ret
    exact ⟨ret_int HE.out, rfl⟩
end Go.Proofs.Ytmgdoglnckkobaa.Un
namespace Go.Proofs.Ytmgdoglnckkobaa.R18
open Go.ChangeShapes Go.WideShapes Go.RowKit Wo Sr Wi Eu Pc Ra Nr
open Wd (pln pln_in cdl cds cds_len cds_at)
set_option linter.unusedVariables false
theorem rquot_any (t e : Int) (w : World) : Calls Try.prog 102 #[.int .i64 t, .int .i64 e] w fun r w' => ∃ x, r = .returned (.tuple #[.int .i64 (if Rt.QIn t e then Rt.quo t e else 0), .int .i64 x]) ∧ w = w' := by
  by_cases h : Rt.QIn t e
  · rw [if_pos h]
    exact (Rt.rquo_in t e w h).mono (by rintro r w' ⟨rfl, rfl⟩; exact ⟨0, rfl, rfl⟩)
  · rw [if_neg h]
    exact (Rt.rquo_out t e w h).mono (by rintro r w' ⟨rfl, rfl⟩; exact ⟨1, rfl, rfl⟩)
set_option maxHeartbeats 8000000 in
set_option maxRecDepth 100000 in
theorem rcoords_ok (k b g : Int) (m n : Nat) (A : Option Addr) (nc cc : Nat) (C : List Int) (hx c : Nat) (X : List Int) (hs : Wd.Sv k b g m n C) (hX : Sam X) (w : World) (hz : Zi w A nc C) (hzx : Zi w (some ⟨hx, 0, none⟩) m X) :
    Calls Try.prog 72 #[Wd.Sx k b g m n A nc cc, .slice (some ⟨hx, 0, none⟩) m c] w fun e w' => ∃ h c, e = .returned (.tuple #[.slice (some ⟨h, 0, none⟩) n c, .int .i64 0]) ∧ Zi w' (some ⟨h, 0, none⟩) n (cds k X m n) ∧ w.heap.size ≤ h ∧ Bel w w' := by
  obtain ⟨i0, hi0, hz0, hz1, hz2⟩ := info_parts info_int
  have HI := Lib.hid (And.intro hi0 (And.intro hz0 (And.intro hz1 hz2)))
  clear hi0 hz0 hz1 hz2
  have m2 := hs.m2
  have m32 := hs.m32
  have n1 := hs.n1
  have n8 := hs.n8
  have nm := hs.nm
  have CK : Hid (∀ W, Bel w W → Calls Try.prog 100 #[.agg #[.int .i64 k, .int .i64 b, .int .i64 g, .int .i64 (m : Int), .int .i64 (n : Int), .slice A nc cc], .slice (some ⟨hx, 0, none⟩) m c] W fun e w' => e = .returned (.int .i64 0) ∧ Bel W w') := fun W hW => rfits_ok k b g m n A nc cc C (some ⟨hx, 0, none⟩) c X hs hX W (hz.bel hW) (hzx.bel hW)
  have ST : Hid (∀ W, _) := fun W => starts_ok m n m2 m32 n1 n8 nm W
  have SU : Hid (∀ W, Bel w W → _) := fun W hW => rsums_ok hx c m n X m2 m32 n1 n8 nm hX W (hzx.bel hW)
  have CE : Hid (∀ W, Bel w W → _) := fun W hW => rcens_ok hx c m n X m2 m32 n1 n8 nm hX W (hzx.bel hW)
  have PR : Hid (∀ W, Bel w W → Calls Try.prog 84 #[.slice (some ⟨hx, 0, none⟩) m c, .slice (some ⟨hx, 0, none⟩) m c] W fun e w' => e = .returned (.tuple #[.int .i64 (pr X X), .int .i64 0]) ∧ Bel W w') := fun W hW => Ch.rProd_ok (some ⟨hx, 0, none⟩) (some ⟨hx, 0, none⟩) c c m X X m2 m32 hX hX W (hzx.bel hW) (hzx.bel hW)
  have hlX := hzx.1
  have hV := vr_le hX (by omega)
  rw [← pr_self] at hV
  obtain ⟨V, hVV⟩ : ∃ V, pr X X = V := ⟨_, rfl⟩
  rw [hVV] at hV PR
  obtain ⟨V0, V1⟩ := hV
  have HVV := Lib.hid hVV
  have HPB : Hid (∀ p, p < n → -2048000 ≤ (pls (cen X) m n).getD p 0 ∧ (pls (cen X) m n).getD p 0 ≤ 2048000) := Pc.pls_bd (Pc.cen_bd hX (by omega)) m32 n1
  have HPS : Hid (∀ p, p < n → -2048000 ≤ (pls X m n).getD p 0 ∧ (pls X m n).getD p 0 ≤ 2048000) := Pc.pls_bd (fun x h => by have := hX x h; omega) m32 n1
  have HPL : Hid (∀ p, p < n → 1 ≤ pln m n p ∧ pln m n p ≤ 32 ∧ st m n p ≤ 32 ∧ st m n (p + 1) ≤ 32 ∧ st m n p + pln m n p = st m n (p + 1)) := fun p hp => pln_in m n p n1 nm m32 hp
  have ni : (n : Int) ≤ 8 := by omega
  have ni1 : 1 ≤ (n : Int) := by omega
  have mi2 : 2 ≤ (m : Int) := by omega
  have mi32 : (m : Int) ≤ 32 := by omega
  have HB0 : Hid (Bk (w.alloc (.cells #[.int .i64 k, .int .i64 b, .int .i64 g, .int .i64 (m : Int), .int .i64 (n : Int), .slice A nc cc] 56)) w.heap.size 56 #[.int .i64 k, .int .i64 b, .int .i64 g, .int .i64 (m : Int), .int .i64 (n : Int), .slice A nc cc]) := Bk.nw _ _ _
  have HW0 : Hid (Bel w (w.alloc (.cells #[.int .i64 k, .int .i64 b, .int .i64 g, .int .i64 (m : Int), .int .i64 (n : Int), .slice A nc cc] 56))) := Bel.rf.al _
  have HMK : Hid (k = 2 ∨ k = 3 ∨ (k ≠ 2 ∧ k ≠ 3)) := by
    by_cases h2 : k = 2
    · exact .inl h2
    · by_cases h3 : k = 3
      · exact .inr (.inl h3)
      · exact .inr (.inr ⟨h2, h3⟩)
  obtain ⟨L, hL⟩ : ∃ L, cds k X m n = L := ⟨_, rfl⟩
  have HLL : Hid (L.length = n) := by show _ = _; rw [← hL]; exact cds_len _ _ _ _
  have HLA : Hid (∀ p, p < n → L.getD p 0 = cdl k X m n p) := fun p hp => by rw [← hL]; exact cds_at _ _ _ _ p hp
  rw [hL]
  clear hL
  clear hs hz hzx hX hlX hVV m2 m32 n1 n8 nm
  unfold Wd.Sx
  go_enter Try.func72, Try.ntmps72
  go_wp2_with fail
  go_at_call 100
  refine (CK.out _ (by repeat (first | exact Bel.rf | (with_reducible refine Bel.drwN ?_ _) | (with_reducible refine Bel.drw ?_) | (with_reducible refine Bel.al ?_ _)))).mono ?_
  rintro e w1 ⟨rfl, hb1⟩
  have HB1 := Lib.hid ((HB0.out.bel (by repeat (first | exact Bel.rf | (with_reducible refine Bel.drwN ?_ _) | (with_reducible refine Bel.drw ?_) | (with_reducible refine Bel.al ?_ _)))).bel hb1)
  have HW1 : Hid (Bel w w1) := HW0.out.tr (Bel.tr (by repeat (first | exact Bel.rf | (with_reducible refine Bel.drwN ?_ _) | (with_reducible refine Bel.drw ?_) | (with_reducible refine Bel.al ?_ _))) hb1)
  have q4 := HB1.out.cell 4
  simp only [List.getElem?_toArray, List.getElem?_cons_zero, List.getElem?_cons_succ] at q4
  clear hb1
  go_wp2_with fail
  go_at_call 33
  refine (ST.out _).mono ?_
  rintro e w3 ⟨ha, ca, rfl, qa3, hb3⟩
  have HA := Lib.hid (own_zi qa3 (sts_len m n))
  have hc13 : Bel w1 w3 := Bel.tr (by repeat (first | exact Bel.rf | (with_reducible refine Bel.drwN ?_ _) | (with_reducible refine Bel.drw ?_) | (with_reducible refine Bel.al ?_ _))) hb3
  have HB3 := Lib.hid (HB1.out.bel hc13)
  have HW3 : Hid (Bel w w3) := HW1.out.tr hc13
  have s4 := HB3.out.cell 4
  simp only [List.getElem?_toArray, List.getElem?_cons_zero, List.getElem?_cons_succ] at s4
  clear hb3 qa3 hc13 q4
  go_wp2_with fail
  go_at_call 25
  refine (SU.out _ (by repeat (first | exact HW3.out | (with_reducible refine Bel.drwN ?_ _) | (with_reducible refine Bel.drw ?_) | (with_reducible refine Bel.al ?_ _)))).mono ?_
  rintro e w4 ⟨hu, cu, rfl, qu3, qu2, hb4⟩
  have HU := Lib.hid qu3
  have hc34 : Bel w3 w4 := Bel.tr (by repeat (first | exact Bel.rf | (with_reducible refine Bel.drwN ?_ _) | (with_reducible refine Bel.drw ?_) | (with_reducible refine Bel.al ?_ _))) hb4
  have HB4 := Lib.hid (HB3.out.bel hc34)
  have HA4 := Lib.hid (HA.out.bel hc34)
  have HW4 : Hid (Bel w w4) := HW3.out.tr hc34
  have t4 := HB4.out.cell 4
  simp only [List.getElem?_toArray, List.getElem?_cons_zero, List.getElem?_cons_succ] at t4
  clear hb4 s4 qu3 qu2 hc34
  go_wp2_with fail
  go_at_call 27
  refine (CE.out _ (by repeat (first | exact HW4.out | (with_reducible refine Bel.drwN ?_ _) | (with_reducible refine Bel.drw ?_) | (with_reducible refine Bel.al ?_ _)))).mono ?_
  rintro e w5 ⟨hv, cv, rfl, qv3, qv2, hb5⟩
  have HV := Lib.hid qv3
  have hc45 : Bel w4 w5 := Bel.tr (by repeat (first | exact Bel.rf | (with_reducible refine Bel.drwN ?_ _) | (with_reducible refine Bel.drw ?_) | (with_reducible refine Bel.al ?_ _))) hb5
  have HB5 := Lib.hid (HB4.out.bel hc45)
  have HA5 := Lib.hid (HA4.out.bel hc45)
  have HU5 := Lib.hid (HU.out.bel hc45)
  have HW5 : Hid (Bel w w5) := HW4.out.tr hc45
  clear hb5 t4 qv3 qv2 hc45
  go_wp2_with fail
  go_at_call 84
  refine (PR.out _ (by repeat (first | exact HW5.out | (with_reducible refine Bel.drwN ?_ _) | (with_reducible refine Bel.drw ?_) | (with_reducible refine Bel.al ?_ _)))).mono ?_
  rintro e w6 ⟨rfl, hb6⟩
  have hc56 : Bel w5 w6 := Bel.tr (by repeat (first | exact Bel.rf | (with_reducible refine Bel.drwN ?_ _) | (with_reducible refine Bel.drw ?_) | (with_reducible refine Bel.al ?_ _))) hb6
  have HB6 := Lib.hid (HB5.out.bel hc56)
  have HA6 := Lib.hid (HA5.out.bel hc56)
  have HU6 := Lib.hid (HU5.out.bel hc56)
  have HV6 := Lib.hid (HV.out.bel hc56)
  have HW6 : Hid (Bel w w6) := HW5.out.tr hc56
  clear hb6 hc56
  go_wp2
  go_loopw [16, 57] (fun s16 s57 wr => ∃ (t : Nat) (V : World) (u : Value), V = wr ∧ u = s16 ∧ t ≤ n ∧ s57 = .int .i64 (t : Int) ∧ wr.ownsRow w6.heap.size 3 1 s16 t (zs (L.take t)) ∧ Bel w6 wr) (fun _ s57 _ => n - (intOf s57).toNat)
  case atStart => exact ⟨0, _, _, rfl, rfl, by omega, rfl, World.ownsRow_nil _ _ _ _, (by repeat (first | exact Bel.rf | (with_reducible refine Bel.drwN ?_ _) | (with_reducible refine Bel.drw ?_) | (with_reducible refine Bel.al ?_ _)))⟩
  case round =>
    obtain ⟨i, wr, u16, hwr, hu, hi, rfl, hz, hb⟩ := hrel
    subst hwr hu
    have HZ := Lib.hid hz
    have HR := Lib.hid hb
    have hsz := hb.size
    clear hz hb
    rcases Nat.lt_or_ge i n with hlt | hge
    · obtain ⟨pl1, pl2, pl3, pl4, pl5⟩ := HPL.out i hlt
      have hcu := HPS.out i hlt
      have hcv := HPB.out i hlt
      have a1 := (HA6.out.bel HR.out).at i (by omega)
      have a2 := (HA6.out.bel HR.out).at (i + 1) (by omega)
      rw [Wd.sts_at m n i (by omega) (by omega)] at a1
      rw [Wd.sts_at m n (i + 1) (by omega) (by omega)] at a2
      have x1 := (HU6.out.bel HR.out).at i hlt
      have x2 := (HV6.out.bel HR.out).at i hlt
      have hla := HLA.out i hlt
      unfold cdl at hla
      rw [HVV.out] at hla
      obtain ⟨T1, hT1⟩ : ∃ T, st m n i = T := ⟨_, rfl⟩
      obtain ⟨T2, hT2⟩ : ∃ T, st m n (i + 1) = T := ⟨_, rfl⟩
      obtain ⟨Q, hQ⟩ : ∃ T, pln m n i = T := ⟨_, rfl⟩
      obtain ⟨u, hu0⟩ : ∃ T, (pls X m n).getD i 0 = T := ⟨_, rfl⟩
      obtain ⟨v, hv0⟩ : ∃ T, (pls (cen X) m n).getD i 0 = T := ⟨_, rfl⟩
      obtain ⟨R, hR⟩ : ∃ T, L.getD i 0 = T := ⟨_, rfl⟩
      have HN : Hid (L.take (i + 1) = L.take i ++ [R]) := by show _ = _; rw [take_snoc _ i (by rw [HLL.out]; exact hlt), hR]
      rw [hT1] at a1 pl3 pl5
      rw [hT2] at a2 pl4 pl5
      rw [hQ] at pl1 pl2 pl5 hla
      rw [hu0] at x1 hcu hla
      rw [hv0] at x2 hcv hla
      rw [hR] at hla
      obtain ⟨u1, u2⟩ := hcu
      obtain ⟨v1, v2⟩ := hcv
      have b0 := (HB6.out.bel HR.out).cell 0
      simp only [List.getElem?_toArray, List.getElem?_cons_zero, List.getElem?_cons_succ] at b0
      have ii : (i : Int) < (n : Int) := by omega
      have ij : (i : Int) + 1 < (n : Int) + 1 := by omega
      have ij2 : (i : Int) + 1 < ((n + 1 : Nat) : Int) := by omega
      have ij3 : (i : Int) < ((n + 1 : Nat) : Int) := by omega
      have ij4 : (i : Int) < (n : Int) + 1 := by omega
      have ip0 : (0 : Int) ≤ (i : Int) := by omega
      have wT : IntKind.i64.wrap ((T2 : Int) - (T1 : Int)) = (Q : Int) := by rw [show (T2 : Int) - (T1 : Int) = (Q : Int) by omega]; exact IntWalk.i64_in _ (by omega)
      have wT3 : wrap64 ((T2 : Int) - (T1 : Int)) = (Q : Int) := by rw [show (T2 : Int) - (T1 : Int) = (Q : Int) by omega]; exact IntWalk.wrap64_in _ (by omega)
      have wI : IntKind.i64.wrap ((i : Int) + 1) = (i : Int) + 1 := IntWalk.i64_in _ (by omega)
      have D1 : Hid (∀ W, Calls Try.prog 101 #[.int .i64 u, .int .i64 (Q : Int)] W fun e w' => e = .returned (.int .i64 (u / (Q : Int))) ∧ W = w') := fun W => Un.rdown_any u (Q : Int) (by omega) (by omega) (by omega) (by omega) W
      clear hR hT1 hT2 hQ hu0 hv0
      obtain ⟨R1, hR1⟩ : ∃ R1, u / (Q : Int) = R1 := ⟨_, rfl⟩
      rw [hR1] at D1 hla
      clear hR1
      have hkk := HMK.out
      rcases hkk with rfl | rfl | ⟨nk2, nk3⟩
      · rw [if_pos rfl] at hla
        obtain ⟨M, hM⟩ : ∃ M, (m : Int) * (Q : Int) = M := ⟨_, rfl⟩
        have hM1 : 1 ≤ M ∧ M ≤ 1024 := by
          rw [← hM]
          exact ⟨by have := Int.mul_le_mul (show 1 ≤ (m : Int) by omega) (show 1 ≤ (Q : Int) by omega) (by decide) (by omega); omega, by have := Int.mul_le_mul mi32 (show (Q : Int) ≤ 32 by omega) (by omega) (by decide); omega⟩
        obtain ⟨M1, M2⟩ := hM1
        have wM : IntKind.i64.wrap M = M := IntWalk.i64_in _ (by omega)
        rw [hM] at hla
        have D2 : Hid (∀ W, Calls Try.prog 101 #[.int .i64 v, .int .i64 M] W fun e w' => e = .returned (.int .i64 R) ∧ W = w') := fun W => by rw [hla]; exact Un.rdown_any v M (by omega) (by omega) (by omega) (by omega) W
        clear hla
        go_wp2_with fail
        go_quiet (fail)
        go_wp2_with (first
          | (go_at_call 101; (with_reducible refine (D1.out _).mono ?_); rintro e x1 ⟨rfl, rfl⟩)
          | (go_at_call 101; (with_reducible refine (D2.out _).mono ?_); rintro e x2 ⟨rfl, rfl⟩)
          | (at_builtin; refine wpList_append_lies _ (by rfl) _ _ 22 (by rfl) w6.heap.size 3 i0 _ 1 8 Try.underlying22 HI.out.1 HI.out.2.1 HI.out.2.2.1 HI.out.2.2.2 (by rfl) (by omega) u16 i (zs (L.take i)) (by rfl) ((own_bel HZ.out (by repeat (first | exact Bel.rf | (with_reducible refine Bel.drwN ?_ _) | (with_reducible refine Bel.drw ?_) | (with_reducible refine Bel.al ?_ _))))) ⟨wr.heap.size, 0, none⟩ 1 1 [.int .i64 R] (by rfl) (by rfl) (World.news_of_block (cs := #[.int .i64 R]) (t := 3) (fr := (0, 0)) (Bk.nw _ _ _)) (by simp [Value.oneCell']) (by omega) (by unfold maxLen; omega) (by omega) (by simp; omega) (wr.heap.size + 1) (by simp) ?_; intro g' cap' w5 hown4 hgrow hat hlt4; have hbw : Bel w6 w5 := Nr.bel_grown (by repeat (first | exact HR.out | (with_reducible refine Bel.drwN ?_ _) | (with_reducible refine Bel.drw ?_) | (with_reducible refine Bel.al ?_ _))) hgrow (Nr.own_base HZ.out); have HR4 := Lib.hid (And.intro hown4 hbw); clear hown4 hgrow hat hbw))
        go_roundw
        case rel => exact ⟨i + 1, _, _, rfl, rfl, by omega, by go_num, by rw [HN.out, zs_app]; exact HR4.out.1, HR4.out.2⟩
        case measure => simp [intOf]; omega
      · rw [if_neg (by decide), if_pos rfl] at hla
        obtain ⟨M, hM⟩ : ∃ M, (m : Int) * V = M := ⟨_, rfl⟩
        have hM1 : 0 ≤ M ∧ M ≤ 32768000000 := by
          rw [← hM]
          exact ⟨Int.mul_nonneg (by omega) V0, by have := Int.mul_le_mul mi32 V1 V0 (by decide); omega⟩
        obtain ⟨M1, M2⟩ := hM1
        have wM : IntKind.i64.wrap M = M := IntWalk.i64_in _ (by omega)
        have wv : IntKind.i64.wrap (64 * v) = 64 * v := IntWalk.i64_in _ (by omega)
        rw [hM] at hla
        have D2 : Hid (∀ W, Calls Try.prog 102 #[.int .i64 (64 * v), .int .i64 M] W fun e w' => ∃ x, e = .returned (.tuple #[.int .i64 R, .int .i64 x]) ∧ W = w') := fun W => by rw [hla]; exact rquot_any (64 * v) M W
        clear hla
        go_wp2_with fail
        go_quiet (fail)
        go_wp2_with (first
          | (go_at_call 101; refine (D1.out _).mono ?_; rintro e x1 ⟨rfl, rfl⟩)
          | (go_at_call 102; refine (D2.out _).mono ?_; rintro e x2 ⟨z9, rfl, rfl⟩)
          | (at_builtin; refine wpList_append_lies _ (by rfl) _ _ 22 (by rfl) w6.heap.size 3 i0 _ 1 8 Try.underlying22 HI.out.1 HI.out.2.1 HI.out.2.2.1 HI.out.2.2.2 (by rfl) (by omega) u16 i (zs (L.take i)) (by rfl) ((own_bel HZ.out (by repeat (first | exact Bel.rf | (with_reducible refine Bel.drwN ?_ _) | (with_reducible refine Bel.drw ?_) | (with_reducible refine Bel.al ?_ _))))) ⟨wr.heap.size, 0, none⟩ 1 1 [.int .i64 R] (by rfl) (by rfl) (World.news_of_block (cs := #[.int .i64 R]) (t := 3) (fr := (0, 0)) (Bk.nw _ _ _)) (by simp [Value.oneCell']) (by omega) (by unfold maxLen; omega) (by omega) (by simp; omega) (wr.heap.size + 1) (by simp) ?_; intro g' cap' w5 hown4 hgrow hat hlt4; have hbw : Bel w6 w5 := Nr.bel_grown (by repeat (first | exact HR.out | (with_reducible refine Bel.drwN ?_ _) | (with_reducible refine Bel.drw ?_) | (with_reducible refine Bel.al ?_ _))) hgrow (Nr.own_base HZ.out); have HR4 := Lib.hid (And.intro hown4 hbw); clear hown4 hgrow hat hbw))
        go_roundw
        case rel => exact ⟨i + 1, _, _, rfl, rfl, by omega, by go_num, by rw [HN.out, zs_app]; exact HR4.out.1, HR4.out.2⟩
        case measure => simp [intOf]; omega
      · rw [if_neg nk2, if_neg nk3] at hla
        obtain rfl : R = R1 := hla
        have dk2 : decide (k = 2) = false := decide_eq_false nk2
        have dk3 : decide (k = 3) = false := decide_eq_false nk3
        have ek2 : (k == 2) = false := by simpa using nk2
        have ek3 : (k == 3) = false := by simpa using nk3
        go_wp2_with fail
        go_quiet (fail)
        go_wp2_with (first
          | (go_at_call 101; refine (D1.out _).mono ?_; rintro e x1 ⟨rfl, rfl⟩)
          | (at_builtin; refine wpList_append_lies _ (by rfl) _ _ 22 (by rfl) w6.heap.size 3 i0 _ 1 8 Try.underlying22 HI.out.1 HI.out.2.1 HI.out.2.2.1 HI.out.2.2.2 (by rfl) (by omega) u16 i (zs (L.take i)) (by rfl) ((own_bel HZ.out (by repeat (first | exact Bel.rf | (with_reducible refine Bel.drwN ?_ _) | (with_reducible refine Bel.drw ?_) | (with_reducible refine Bel.al ?_ _))))) ⟨wr.heap.size, 0, none⟩ 1 1 [.int .i64 R] (by rfl) (by rfl) (World.news_of_block (cs := #[.int .i64 R]) (t := 3) (fr := (0, 0)) (Bk.nw _ _ _)) (by simp [Value.oneCell']) (by omega) (by unfold maxLen; omega) (by omega) (by simp; omega) (wr.heap.size + 1) (by simp) ?_; intro g' cap' w5 hown4 hgrow hat hlt4; have hbw : Bel w6 w5 := Nr.bel_grown (by repeat (first | exact HR.out | (with_reducible refine Bel.drwN ?_ _) | (with_reducible refine Bel.drw ?_) | (with_reducible refine Bel.al ?_ _))) hgrow (Nr.own_base HZ.out); have HR4 := Lib.hid (And.intro hown4 hbw); clear hown4 hgrow hat hbw))
        go_roundw
        case rel => exact ⟨i + 1, _, _, rfl, rfl, by omega, by go_num, by rw [HN.out, zs_app]; exact HR4.out.1, HR4.out.2⟩
        case measure => simp [intOf]; omega
    · obtain rfl : i = n := by omega
      have hz := HZ.out
      rw [List.take_of_length_le (by rw [HLL.out]; omega)] at hz
      obtain ⟨h, c', rfl, hcc, hbase⟩ := row_form hz (by omega)
      have ZF := Lib.hid (own_zi hz HLL.out)
      have HG := Lib.hid (Nat.le_trans HW6.out.size hbase)
      clear hz hbase
      go_wp2
      go_ret2
      exact ⟨h, c', rfl, ZF.out.bel (by repeat (first | exact Bel.rf | (with_reducible refine Bel.drwN ?_ _) | (with_reducible refine Bel.drw ?_) | (with_reducible refine Bel.al ?_ _))), HG.out, (by repeat (first | exact HW6.out.tr HR.out | (with_reducible refine Bel.drwN ?_ _) | (with_reducible refine Bel.drw ?_) | (with_reducible refine Bel.al ?_ _)))⟩
end Go.Proofs.Ytmgdoglnckkobaa.R18
namespace Go.Proofs.Ytmgdoglnckkobaa.Wd
open List (setIfInBounds_toArray set_cons_zero set_cons_succ)
open Go.ChangeShapes Go.WideShapes Go.RowKit Wo Sr Wi Ms Pc Nr Rt
set_option linter.unusedVariables false
set_option linter.unusedSimpArgs false
/-- how many of the first cuts are at most c -/
def cn (C : List Int) (c : Int) : Nat → Nat
  | 0 => 0
  | j + 1 => if C.getD j 0 ≤ c then cn C c j + 1 else cn C c j
theorem cn_min {C : List Int} (h : Cv C) (c : Int) : ∀ j, j ≤ C.length → cn C c j = min j (sym C c)
  | 0, _ => by simp [cn]
  | j + 1, hj => by
    have ih := cn_min h c j (by omega)
    have hi := sym_iff h c j (by omega)
    unfold cn
    split
    · rename_i q
      have := hi.1 q
      omega
    · rename_i q
      have : ¬ j < sym C c := fun x => q (hi.2 x)
      omega
theorem cn_all {C : List Int} (h : Cv C) (c : Int) : cn C c C.length = sym C c := by
  rw [cn_min h c _ (Nat.le_refl _)]
  have := sym_le C c
  omega
theorem cn_le (C : List Int) (c : Int) : ∀ j, cn C c j ≤ j
  | 0 => Nat.le_refl _
  | j + 1 => by
    have := cn_le C c j
    unfold cn
    split <;> omega
/-- the two rows of a word that grow, with no reader -/
structure W2 (base : Nat) (w V : World) (u v : Value) (nu nv : Nat) (S B : List Int) : Prop where
  ou : V.ownsRow base 3 1 u nu (zs S)
  ov : V.ownsRow base 3 1 v nv (zs B)
  ap : ∀ b, u.ownBlock = some b → v.ownBlock ≠ some b
  ch : Bel w V
  sz : base ≤ V.heap.size
  wb : w.heap.size ≤ base
theorem W2.sx {base : Nat} {w V : World} {u v : Value} {nu nv : Nat} {S B : List Int} (h : W2 base w V u v nu nv S B) : W2 base w V v u nv nu B S :=
  ⟨h.ov, h.ou, fun b e e2 => h.ap b e2 e, h.ch, h.sz, h.wb⟩
theorem W2.up {base : Nat} {w V V' : World} {u v : Value} {nu nv : Nat} {S B : List Int} (h : W2 base w V u v nu nv S B) (hb : Bel V V') : W2 base w V' u v nu nv S B :=
  ⟨own_bel h.ou hb, own_bel h.ov hb, h.ap, h.ch.tr hb, Nat.le_trans h.sz hb.size, h.wb⟩
theorem W2.ax {base : Nat} {w V V' : World} {u v u' : Value} {nu nv : Nat} {S B : List Int} {s : Int} (h : W2 base w V u v nu nv S B)
    (h1 : V'.ownsRow base 3 1 u' (nu + 1) (zs (S ++ [s]))) (hg : V.grownBy V' u.ownBlock) (hat : u'.ownBlock = u.ownBlock ∨ u'.ownBlock = some V.heap.size) : W2 base w V' u' v (nu + 1) nv (S ++ [s]) B := by
  refine ⟨h1, h.ov.kept hg (Classical.or_iff_not_imp_left.2 fun hn e => ?_), fun b e e2 => ?_, Nr.bel_grown h.ch hg (fun b e => ?_), Nat.le_trans h.sz hg.size, h.wb⟩
  · rcases hx : u.ownBlock with _ | q
    · rw [hx] at e; exact hn e
    · rw [hx] at e; exact h.ap q hx e
  · rcases hat with hat | hat
    · rw [hat] at e; exact h.ap b e e2
    · rw [hat] at e; cases e
      have := (h.ov.lt _ e2).2
      omega
  · have := (h.ou.lt b e).1; have := h.wb; omega
theorem W2.st {base : Nat} {w V : World} {u v : Value} {nu nv r : Nat} {S B : List Int} (h : W2 base w V u v nu nv S B) (h1 : w.heap.size ≤ r) (h2 : r < base) (o : Nat) (x : Value) : W2 base w (V.setCell ⟨r, o, none⟩ x) u v nu nv S B :=
  ⟨own_ch h.ou ((Ch.rf (g := r)).st o x) h2, own_ch h.ov ((Ch.rf (g := r)).st o x) h2, h.ap, Bel.st2 h1 h.ch _, by have := h.sz; simpa [World.setCell] using this, h.wb⟩
theorem rep4_snoc (i : Nat) : List.replicate (i + 1) (4 : Int) = List.replicate i 4 ++ [4] := by rw [List.replicate_succ']
def opO : Oper := ⟨none, .store 22 (.tmp 55) (.tmp 50), 0, "ref.go:78", #[⟨9, .data⟩, ⟨4, .data⟩, ⟨8, .chain⟩, ⟨0, .phase⟩, ⟨1, .phase⟩, ⟨2, .phase⟩, ⟨3, .phase⟩, ⟨4, .phase⟩, ⟨5, .phase⟩, ⟨6, .phase⟩, ⟨7, .textOnly Departure.lateStores⟩, ⟨8, .textOnly Departure.lateStoresUnsure⟩], none⟩
set_option maxHeartbeats 8000000 in
set_option maxRecDepth 100000 in
theorem rof_ok (k b g : Int) (m n : Nat) (A : Option Addr) (nc cc : Nat) (C : List Int) (hx c : Nat) (X : List Int) (hs : Sv k b g m n C) (hX : Sam X) (w : World) (hz : Zi w A nc C) (hzx : Zi w (some ⟨hx, 0, none⟩) m X) :
    Calls Try.prog 36 #[Sx k b g m n A nc cc, .slice (some ⟨hx, 0, none⟩) m c] w (SomeOf n (sys k C X m n) w) := by
  obtain ⟨i0, hi0, hz0, hz1, hz2⟩ := info_parts info_int
  have HI := Lib.hid (And.intro hi0 (And.intro hz0 (And.intro hz1 hz2)))
  clear hi0 hz0 hz1 hz2
  have CO : Hid (∀ W, Bel w W → Calls Try.prog 72 #[.agg #[.int .i64 k, .int .i64 b, .int .i64 g, .int .i64 (m : Int), .int .i64 (n : Int), .slice A nc cc], .slice (some ⟨hx, 0, none⟩) m c] W fun e w' => ∃ h c, e = .returned (.tuple #[.slice (some ⟨h, 0, none⟩) n c, .int .i64 0]) ∧ Zi w' (some ⟨h, 0, none⟩) n (cds k X m n) ∧ W.heap.size ≤ h ∧ Bel W w') := fun W hW => R18.rcoords_ok k b g m n A nc cc C hx c X hs hX W (hz.bel hW) (hzx.bel hW)
  have hcl : C.length = nc := hz.1
  have HCV := Lib.hid hs.cv
  have HZ := Lib.hid hz
  have n1 := hs.n1
  have n8 := hs.n8
  have ni : (n : Int) ≤ 8 := by omega
  have c15 : (nc : Int) ≤ 15 := by have := hs.cv.1; omega
  have HB0 : Hid (Bk ((w.alloc (.cells #[.int .i64 k, .int .i64 b, .int .i64 g, .int .i64 (m : Int), .int .i64 (n : Int), .slice A nc cc] 56)).alloc (.cells #[.slice none 0 0, .slice none 0 0] 59)) w.heap.size 56 #[.int .i64 k, .int .i64 b, .int .i64 g, .int .i64 (m : Int), .int .i64 (n : Int), .slice A nc cc]) := (Bk.nw _ _ _).al _
  have HR0 : Hid (Bk ((w.alloc (.cells #[.int .i64 k, .int .i64 b, .int .i64 g, .int .i64 (m : Int), .int .i64 (n : Int), .slice A nc cc] 56)).alloc (.cells #[.slice none 0 0, .slice none 0 0] 59)) (w.heap.size + 1) 59 #[.slice none 0 0, .slice none 0 0]) := Bk.nq _ _ _ (by simp)
  have HW0 : Hid (Bel w ((w.alloc (.cells #[.int .i64 k, .int .i64 b, .int .i64 g, .int .i64 (m : Int), .int .i64 (n : Int), .slice A nc cc] 56)).alloc (.cells #[.slice none 0 0, .slice none 0 0] 59))) := (Bel.rf.al _).al _
  obtain ⟨L, hL⟩ : ∃ L, cds k X m n = L := ⟨_, rfl⟩
  obtain ⟨F, hF⟩ : ∃ F, sys k C X m n = F := ⟨_, rfl⟩
  have HLL : Hid (L.length = n) := by show _ = _; rw [← hL]; exact cds_len _ _ _ _
  have HFL : Hid (F.length = n) := by show _ = _; rw [← hF]; exact sys_len _ _ _ _ _
  have HFA : Hid (∀ p, p < n → F.getD p 0 = (sym C (L.getD p 0) : Int)) := fun p hp => by rw [← hF, ← hL, sys_at _ _ _ _ _ _ hp, cds_at _ _ _ _ _ hp]
  have HWV : Hid (∀ p, p < n → 0 ≤ F.getD p 0 ∧ F.getD p 0 < 16) := fun p hp => by
    rw [HFA.out p hp]; have := sym_le C (L.getD p 0); have := hs.cv.1; omega
  rw [hL] at CO
  rw [hF]
  have HCL := Lib.hid hcl
  clear hs hX hz hzx hL hF hcl
  unfold Sx
  go_enter Try.func36, Try.ntmps36
  go_wp2_with fail
  go_at_call 72
  refine (CO.out _ (by repeat (first | exact Bel.rf | with_reducible refine Bel.drwN ?_ _ | with_reducible refine Bel.drw ?_ | with_reducible refine Bel.al ?_ _))).mono ?_
  rintro e w1 ⟨hco, cco, rfl, hck, hc0, hb1⟩
  have HW1 : Hid (Bel w w1) := HW0.out.tr (Bel.tr (by repeat (first | exact Bel.rf | with_reducible refine Bel.drwN ?_ _ | with_reducible refine Bel.drw ?_ | with_reducible refine Bel.al ?_ _)) hb1)
  have HK1 := Lib.hid ((HB0.out.bel (by repeat (first | exact Bel.rf | with_reducible refine Bel.drwN ?_ _ | with_reducible refine Bel.drw ?_ | with_reducible refine Bel.al ?_ _))).bel hb1)
  have HR1 := Lib.hid ((HR0.out.bel (by repeat (first | exact Bel.rf | with_reducible refine Bel.drwN ?_ _ | with_reducible refine Bel.drw ?_ | with_reducible refine Bel.al ?_ _))).bel hb1)
  have HC1 := Lib.hid hck
  have HG1 : Hid (w.heap.size + 1 < w1.heap.size) := HR1.out.lt
  clear hb1 hck hc0
  have HQ0 : Hid (Bk (w1.alloc (.cells #[.slice none 0 0, .slice none 0 0] 59)) w1.heap.size 59 #[.slice none 0 0, .slice none 0 0]) := Bk.nw _ _ _
  have HQB : Hid (Bel w1 (w1.alloc (.cells #[.slice none 0 0, .slice none 0 0] 59))) := Bel.rf.al _
  go_wp2_with fail
  go_loopw [24] (fun s24 wr => ∃ (i : Nat) (u v : Value) (V : World), V = wr ∧ s24 = .int .i64 (i : Int) ∧ i ≤ n ∧ W2 (w1.heap.size + 1) w1 wr u v i i (F.take i) (List.replicate i 4) ∧ Bk wr w1.heap.size 59 #[u, v]) (fun s24 _ => n - (intOf s24).toNat)
  case atStart => exact ⟨0, _, _, _, rfl, rfl, by omega, ⟨World.ownsRow_nil _ _ _ _, World.ownsRow_nil _ _ _ _, fun b e => (by cases e), HQB.out.tr (by repeat (first | exact Bel.rf | with_reducible refine Bel.drwN ?_ _ | with_reducible refine Bel.drw ?_ | with_reducible refine Bel.al ?_ _)), (by first | exact Nat.le_refl _ | (simp; done) | (simp; omega)), by omega⟩, HQ0.out.bel (by repeat (first | exact Bel.rf | with_reducible refine Bel.drwN ?_ _ | with_reducible refine Bel.drw ?_ | with_reducible refine Bel.al ?_ _))⟩
  case round =>
    obtain ⟨i, u, v, wr, hwr, rfl, hi, hq, hk⟩ := hrel
    subst hwr
    have HQ := Lib.hid hq
    have HK := Lib.hid hk
    clear hq hk
    rcases Nat.lt_or_ge i n with hlt | hge
    · have HX0 := HK1.out.bel HQ.out.ch
      have r5 := HX0.cell 5
      simp only [List.getElem?_toArray, List.getElem?_cons_zero, List.getElem?_cons_succ] at r5
      have hla := HFA.out i hlt
      obtain ⟨x, hx⟩ : ∃ x, L.getD i 0 = x := ⟨_, rfl⟩
      rw [hx] at hla
      have HCX : Hid (∀ V, Bel w1 V → V.cell? (⟨hco, i, none⟩ : Addr) = some (.int .i64 x)) := fun V hV => by rw [← hx]; exact (HC1.out.bel hV).at i hlt
      have HLA := Lib.hid hla
      have ii : (i : Int) < (n : Int) := by omega
      have ip0 : (0 : Int) ≤ (i : Int) := by omega
      clear HX0 hla hx
      go_wp2_with fail
      go_loopw [30, 10] (fun s30 s10 wq => ∃ (j : Nat) (V : World), V = wq ∧ j ≤ nc ∧ s30 = .int .i64 (j : Int) ∧ s10 = .int .i64 ((cn C x j : Nat) : Int) ∧ Bel wr wq) (fun s30 _ _ => nc - (intOf s30).toNat)
      case atStart => exact ⟨0, _, rfl, by omega, rfl, rfl, (by repeat (first | exact Bel.rf | with_reducible refine Bel.drwN ?_ _ | with_reducible refine Bel.drw ?_ | with_reducible refine Bel.al ?_ _))⟩
      case round =>
        obtain ⟨j, wq, hwq, hj, rfl, rfl, hbq⟩ := hrel
        subst hwq
        have HBQ := Lib.hid hbq
        clear r5 hbq
        rcases Nat.lt_or_ge j nc with hjl | hjg
        · obtain ⟨ad, e, _, hcc⟩ := (HZ.out.bel (HW1.out.tr (HQ.out.ch.tr HBQ.out))).2 (by omega)
          subst e
          have c1 := hcc j hjl
          have r5 := (HK1.out.bel (HQ.out.ch.tr HBQ.out)).cell 5
          simp only [List.getElem?_toArray, List.getElem?_cons_zero, List.getElem?_cons_succ] at r5
          have c2 := HCX.out wq (HQ.out.ch.tr HBQ.out)
          obtain ⟨y, hy⟩ : ∃ x, C.getD j 0 = x := ⟨_, rfl⟩
          rw [hy] at c1
          have jj : (j : Int) < (nc : Int) := by omega
          have jp0 : (0 : Int) ≤ (j : Int) := by omega
          have hcn : cn C x (j + 1) = if y ≤ x then cn C x j + 1 else cn C x j := by rw [← hy]; rfl
          have hcl := cn_le C x j
          obtain ⟨N, hN⟩ : ∃ N, cn C x j = N := ⟨_, rfl⟩
          rw [hN] at hcn hcl
          rw [hN]
          clear hcc hy hN
          have wN : IntKind.i64.wrap ((N : Int) + 1) = (N : Int) + 1 := IntWalk.i64_in _ (by omega)
          by_cases hyx : y ≤ x
          · rw [if_pos hyx] at hcn
            have dy : decide (y ≤ x) = true := decide_eq_true hyx
            have HCN := Lib.hid hcn
            clear hcn
            go_wp2_with fail
            go_quiet (fail)
            go_wp2
            go_roundw
            case rel => exact ⟨j + 1, _, rfl, by omega, by go_num, by rw [HCN.out]; go_num, (by repeat (first | exact HBQ.out | with_reducible refine Bel.drwN ?_ _ | with_reducible refine Bel.drw ?_ | with_reducible refine Bel.al ?_ _))⟩
            case measure => simp [intOf]; omega
          · rw [if_neg hyx] at hcn
            have dy : decide (y ≤ x) = false := decide_eq_false hyx
            have HCN := Lib.hid hcn
            clear hcn
            go_wp2_with fail
            go_quiet (fail)
            go_wp2
            go_roundw
            case rel => exact ⟨j + 1, _, rfl, by omega, by go_num, by rw [HCN.out], (by repeat (first | exact HBQ.out | with_reducible refine Bel.drwN ?_ _ | with_reducible refine Bel.drw ?_ | with_reducible refine Bel.al ?_ _))⟩
            case measure => simp [intOf]; omega
        · obtain rfl : j = nc := by omega
          obtain ⟨s, hs⟩ : ∃ s : Nat, cn C x j = s := ⟨_, rfl⟩
          have hsy : s = sym C x := by rw [← hs, ← HCL.out]; exact cn_all HCV.out x
          have hs2 : F.getD i 0 = (s : Int) := by rw [HLA.out, hsy]
          have HN : Hid (F.take (i + 1) = F.take i ++ [(s : Int)]) := by show _ = _; rw [take_snoc _ i (by rw [HFL.out]; exact hlt), hs2]
          rw [hs]
          have HQ6 : Hid (W2 (w1.heap.size + 1) w1 wq u v i i (F.take i) (List.replicate i 4)) := HQ.out.up HBQ.out
          have HK6 : Hid (Bk wq w1.heap.size 59 #[u, v]) := HK.out.bel HBQ.out
          have KS : Hid (∀ W, Bk W w1.heap.size 59 #[u, v] → W.cell? (⟨w1.heap.size, 0, none⟩ : Addr) = some u ∧ W.cell? (⟨w1.heap.size, 1, none⟩ : Addr) = some v) := fun W h => by
            have u0 := h.cell 0
            have u1 := h.cell 1
            simp only [List.getElem?_toArray, List.getElem?_cons_zero, List.getElem?_cons_succ] at u0 u1
            exact ⟨u0, u1⟩
          have HI1 : Hid (i + 1 ≤ 1000000) := (by omega : _ ≤ _)
          have HB6 : Hid (∀ r, u.ownBlock = some r → r < wq.heap.size) := fun r e => (HQ6.out.ou.lt r e).2
          clear hs hsy hs2
          go_wp2_with fail
          refine wp_region_noPanic ?_
          refine Rb.wp_region_till (S := fun W => W.cell? (⟨w1.heap.size, 0, none⟩ : Addr) = some u ∧ W.cell? (⟨w1.heap.size, 1, none⟩ : Addr) = some v) 10 (by kernel_rfl) ?_ (fun hH0 => ?_)
          · (try dsimp only); exact KS.out _ (HK6.out.bel (by repeat (first | exact Bel.rf | with_reducible refine Bel.drwN ?_ _ | with_reducible refine Bel.drw ?_ | with_reducible refine Bel.al ?_ _)))
          refine Rb.till_take (i := 0) (oi := ⟨some 46, .fieldAddr 59 (.tmp 8) 0, 0, "ref.go:78", #[], none⟩) (v := ?_) rfl (by kernel_rfl) (by kernel_rfl) (by kernel_rfl) (fun _ _ _ h => h) (by decide) opO rfl (by kernel_rfl) (by kernel_rfl) (Or.inl ⟨by kernel_rfl, ?_⟩) (by assumption) ?_
          rotate_left
          · (intro w hSw; (try dsimp only at hSw); obtain ⟨d1, d2⟩ := hSw; go_simp; try with_reducible rfl)
          try simp only [Act.put, setIfInBounds_toArray, set_cons_zero, set_cons_succ]
          refine Rb.till_take (i := 1) (oi := ⟨some 47, .load 22 (.tmp 46), 22, "ref.go:78", #[⟨0, .data⟩], none⟩) (v := ?_) rfl (by kernel_rfl) (by kernel_rfl) (by kernel_rfl) (fun _ _ _ h => h) (by decide) opO rfl (by kernel_rfl) (by kernel_rfl) (Or.inl ⟨by kernel_rfl, ?_⟩) (by assumption) ?_
          rotate_left
          · (intro w hSw; (try dsimp only at hSw); obtain ⟨d1, d2⟩ := hSw; go_simp; try with_reducible rfl)
          try simp only [Act.put, setIfInBounds_toArray, set_cons_zero, set_cons_succ]
          refine Rb.till_take (i := 2) (oi := ⟨some 48, .move (.tmp 10), 3, "ref.go:78", #[], none⟩) (v := ?_) rfl (by kernel_rfl) (by kernel_rfl) (by kernel_rfl) (fun _ _ _ h => h) (by decide) opO rfl (by kernel_rfl) (by kernel_rfl) (Or.inl ⟨by kernel_rfl, ?_⟩) (by assumption) ?_
          rotate_left
          · (intro w hSw; (try dsimp only at hSw); obtain ⟨d1, d2⟩ := hSw; go_simp; try with_reducible rfl)
          try simp only [Act.put, setIfInBounds_toArray, set_cons_zero, set_cons_succ]
          refine Rb.till_take (i := 5) (oi := ⟨some 51, .fieldAddr 59 (.tmp 8) 1, 0, "ref.go:78", #[], none⟩) (v := ?_) rfl (by kernel_rfl) (by kernel_rfl) (by kernel_rfl) (fun _ _ _ h => h) (by decide) opO rfl (by kernel_rfl) (by kernel_rfl) (Or.inl ⟨by kernel_rfl, ?_⟩) (by assumption) ?_
          rotate_left
          · (intro w hSw; (try dsimp only at hSw); obtain ⟨d1, d2⟩ := hSw; go_simp; try with_reducible rfl)
          try simp only [Act.put, setIfInBounds_toArray, set_cons_zero, set_cons_succ]
          refine Rb.till_take (i := 6) (oi := ⟨some 52, .load 22 (.tmp 51), 22, "ref.go:78", #[⟨5, .data⟩], none⟩) (v := ?_) rfl (by kernel_rfl) (by kernel_rfl) (by kernel_rfl) (fun _ _ _ h => h) (by decide) opO rfl (by kernel_rfl) (by kernel_rfl) (Or.inl ⟨by kernel_rfl, ?_⟩) (by assumption) ?_
          rotate_left
          · (intro w hSw; (try dsimp only at hSw); obtain ⟨d1, d2⟩ := hSw; go_simp; try with_reducible rfl)
          try simp only [Act.put, setIfInBounds_toArray, set_cons_zero, set_cons_succ]
          refine Rb.till_ready (rs := [3, 7]) (by kernel_rfl) (by simp) ?_
          refine Rb.AllT.cons (o := ⟨some 49, .buildSlice 22 1 #[(0, .tmp 48)], 22, "ref.go:78", #[⟨2, .data⟩], none⟩) rfl (fun K hK => ?_) (Rb.AllT.cons (o := ⟨some 53, .buildSlice 22 1 #[(0, .const (.int IntKind.i64 4))], 22, "ref.go:78", #[], none⟩) rfl (fun K hK => ?_) (Rb.AllT.nil))
          · go_simp
            try go_wp2_with fail
            refine hK.out _ _ ?_ (fun hH1 => ?_)
            · (try dsimp only); exact KS.out _ (HK6.out.bel (by repeat (first | exact Bel.rf | with_reducible refine Bel.drwN ?_ _ | with_reducible refine Bel.drw ?_ | with_reducible refine Bel.al ?_ _)))
            clear hK K hH0
            try simp only [Act.put, setIfInBounds_toArray, set_cons_zero, set_cons_succ]
            refine Rb.till_ready (rs := [4, 7]) (by kernel_rfl) (by simp) ?_
            refine Rb.AllT.cons (o := ⟨some 50, .call { callee := Callee.builtin Builtin.append, args := #[.tmp 47, .tmp 49], argTypes := #[22, 22] }, 22, "ref.go:78", #[⟨1, .data⟩, ⟨3, .data⟩], none⟩) rfl (fun K hK => ?_) (Rb.AllT.cons (o := ⟨some 53, .buildSlice 22 1 #[(0, .const (.int IntKind.i64 4))], 22, "ref.go:78", #[], none⟩) rfl (fun K hK => ?_) (Rb.AllT.nil))
            · refine Nr.step_app _ rfl (.tmp 47) (.tmp 49) rfl (w1.heap.size + 1) u i (F.take i) rfl (own_bel HQ6.out.ou (by repeat (first | exact Bel.rf | with_reducible refine Bel.drwN ?_ _ | with_reducible refine Bel.drw ?_ | with_reducible refine Bel.al ?_ _))) ⟨wq.heap.size, 0, none⟩ 1 1 [(s : Int)] rfl (zi_bk (L := [(s : Int)]) ((by repeat (first | (refine Bk.nq _ _ _ ?_; simp; done) | with_reducible refine Bk.drwN ?_ _ | with_reducible refine Bk.drw ?_ | with_reducible refine Bk.al ?_ _)) : Bk _ wq.heap.size 3 (zs [(s : Int)]).toArray) 1 rfl) HI1.out (by have := HQ6.out.sz; simp; omega) ?_; intro v7 x7 h7 hg7 ha7; obtain ⟨A7, c7, hv7, _⟩ := own_any h7; subst hv7; have HQ7 : Hid (W2 (w1.heap.size + 1) w1 x7 (.slice A7 (i + 1) c7) v (i + 1) i (F.take i ++ [(s : Int)]) (List.replicate i 4) ∧ Bk x7 w1.heap.size 59 #[u, v]) := ⟨(HQ6.out.up (by repeat (first | exact Bel.rf | with_reducible refine Bel.drwN ?_ _ | with_reducible refine Bel.drw ?_ | with_reducible refine Bel.al ?_ _))).ax h7 hg7 ha7, bk_grw (HK6.out.bel (by repeat (first | exact Bel.rf | with_reducible refine Bel.drwN ?_ _ | with_reducible refine Bel.drw ?_ | with_reducible refine Bel.al ?_ _))) hg7 (fun e => by have := (HQ6.out.ou.lt _ e).1; omega)⟩; clear h7 hg7 ha7
              try go_wp2_with fail
              refine hK.out _ _ ?_ (fun hH2 => ?_)
              · (try dsimp only); exact KS.out _ (HQ7.out.2.bel (by repeat (first | exact Bel.rf | with_reducible refine Bel.drwN ?_ _ | with_reducible refine Bel.drw ?_ | with_reducible refine Bel.al ?_ _)))
              clear hK K hH1
              try simp only [Act.put, setIfInBounds_toArray, set_cons_zero, set_cons_succ]
              refine Rb.till_take (i := 9) (oi := ⟨some 55, .fieldAddr 59 (.tmp 8) 0, 0, "ref.go:78", #[⟨0, .phase⟩, ⟨1, .phase⟩, ⟨2, .phase⟩, ⟨3, .phase⟩, ⟨4, .phase⟩, ⟨5, .phase⟩, ⟨6, .phase⟩, ⟨7, .textOnly Departure.lateStores⟩, ⟨8, .textOnly Departure.lateStoresUnsure⟩], none⟩) (v := ?_) rfl (by kernel_rfl) (by kernel_rfl) (by kernel_rfl) (fun _ _ _ h => h) (by decide) opO rfl (by kernel_rfl) (by kernel_rfl) (Or.inl ⟨by kernel_rfl, ?_⟩) (by assumption) ?_
              rotate_left
              · (intro w hSw; (try dsimp only at hSw); obtain ⟨d1, d2⟩ := hSw; go_simp; try with_reducible rfl)
              try simp only [Act.put, setIfInBounds_toArray, set_cons_zero, set_cons_succ]
              refine Rb.till_ready (rs := [7]) (by kernel_rfl) (by simp) ?_
              refine Rb.AllT.cons (o := ⟨some 53, .buildSlice 22 1 #[(0, .const (.int IntKind.i64 4))], 22, "ref.go:78", #[], none⟩) rfl (fun K hK => ?_) (Rb.AllT.nil)
              · go_simp
                try go_wp2_with fail
                refine hK.out _ _ ?_ (fun hH3 => ?_)
                · (try dsimp only); exact KS.out _ (HQ7.out.2.bel (by repeat (first | exact Bel.rf | with_reducible refine Bel.drwN ?_ _ | with_reducible refine Bel.drw ?_ | with_reducible refine Bel.al ?_ _)))
                clear hK K hH2
                try simp only [Act.put, setIfInBounds_toArray, set_cons_zero, set_cons_succ]
                refine Rb.till_ready (rs := [8]) (by kernel_rfl) (by simp) ?_
                refine Rb.AllT.cons (o := ⟨some 54, .call { callee := Callee.builtin Builtin.append, args := #[.tmp 52, .tmp 53], argTypes := #[22, 22] }, 22, "ref.go:78", #[⟨6, .data⟩, ⟨7, .data⟩, ⟨4, .chain⟩], none⟩) rfl (fun K hK => ?_) (Rb.AllT.nil)
                · refine Nr.step_app _ rfl (.tmp 52) (.tmp 53) rfl (w1.heap.size + 1) v i (List.replicate i 4) rfl (own_bel HQ7.out.1.ov (by repeat (first | exact Bel.rf | with_reducible refine Bel.drwN ?_ _ | with_reducible refine Bel.drw ?_ | with_reducible refine Bel.al ?_ _))) ⟨x7.heap.size, 0, none⟩ 1 1 [4] rfl (zi_bk (L := [4]) ((by repeat (first | (refine Bk.nq _ _ _ ?_; simp; done) | with_reducible refine Bk.drwN ?_ _ | with_reducible refine Bk.drw ?_ | with_reducible refine Bk.al ?_ _)) : Bk _ x7.heap.size 3 (zs [4]).toArray) 1 rfl) HI1.out (by have := HQ7.out.1.sz; simp; omega) ?_; intro v12 x12 h12 hg12 ha12; obtain ⟨A12, c12, hv12, _⟩ := own_any h12; subst hv12; have HQ12 : Hid (W2 (w1.heap.size + 1) w1 x12 (.slice A7 (i + 1) c7) (.slice A12 (i + 1) c12) (i + 1) (i + 1) (F.take i ++ [(s : Int)]) (List.replicate i 4 ++ [4]) ∧ Bk x12 w1.heap.size 59 #[u, v]) := ⟨((HQ7.out.1.up (by repeat (first | exact Bel.rf | with_reducible refine Bel.drwN ?_ _ | with_reducible refine Bel.drw ?_ | with_reducible refine Bel.al ?_ _))).sx.ax h12 hg12 ha12).sx, bk_grw (HQ7.out.2.bel (by repeat (first | exact Bel.rf | with_reducible refine Bel.drwN ?_ _ | with_reducible refine Bel.drw ?_ | with_reducible refine Bel.al ?_ _))) hg12 (fun e => by have := (HQ7.out.1.ov.lt _ e).1; omega)⟩; have y0 := HQ12.out.2.cell 0; have y1 := HQ12.out.2.cell 1; have z0 := HQ12.out.2.fr 0; have z1 := HQ12.out.2.fr 1; simp only [List.getElem?_toArray, List.getElem?_cons_zero, List.getElem?_cons_succ] at y0 y1; clear h12 hg12 ha12
                  try go_wp2_with fail
                  refine hK.out _ _ ?_ (fun hH4 => ?_)
                  · (try dsimp only); exact KS.out _ (HQ12.out.2.bel (by repeat (first | exact Bel.rf | with_reducible refine Bel.drwN ?_ _ | with_reducible refine Bel.drw ?_ | with_reducible refine Bel.al ?_ _)))
                  clear hK K hH3
                  try simp only [Act.put, setIfInBounds_toArray, set_cons_zero, set_cons_succ]
                  refine Rb.till_ready (rs := [10]) (by kernel_rfl) (by simp) ?_
                  refine Rb.AllT.past (o := ⟨none, .store 22 (.tmp 55) (.tmp 50), 0, "ref.go:78", #[⟨9, .data⟩, ⟨4, .data⟩, ⟨8, .chain⟩, ⟨0, .phase⟩, ⟨1, .phase⟩, ⟨2, .phase⟩, ⟨3, .phase⟩, ⟨4, .phase⟩, ⟨5, .phase⟩, ⟨6, .phase⟩, ⟨7, .textOnly Departure.lateStores⟩, ⟨8, .textOnly Departure.lateStoresUnsure⟩], none⟩) rfl (by kernel_rfl) (fun K hK => ?_) (Rb.AllT.nil)
                  · go_simp
                    try go_wp2_with fail
                    refine hK.out _ _ trivial (fun hH5 => ?_)
                    clear hK K hH4
                    try simp only [Act.put, setIfInBounds_toArray, set_cons_zero, set_cons_succ]
                    refine Rb.till_free (i := 11) (oi := ⟨some 56, .fieldAddr 59 (.tmp 8) 1, 0, "ref.go:78", #[⟨0, .phase⟩, ⟨1, .phase⟩, ⟨2, .phase⟩, ⟨3, .phase⟩, ⟨4, .phase⟩, ⟨5, .phase⟩, ⟨6, .phase⟩, ⟨7, .phase⟩, ⟨8, .phase⟩, ⟨9, .phase⟩, ⟨10, .phase⟩], none⟩) (v := ?_) rfl (by kernel_rfl) (by kernel_rfl) (by kernel_rfl) (fun _ _ _ h => h) (by decide) (Or.inl ⟨by kernel_rfl, ?_⟩) (fun h => absurd h (by decide)) ?_
                    rotate_left
                    · (intro w hSw; clear hSw; go_simp; try with_reducible rfl)
                    try simp only [Act.put, setIfInBounds_toArray, set_cons_zero, set_cons_succ]
                    refine Rb.till_ready (rs := [12]) (by kernel_rfl) (by simp) ?_
                    refine Rb.AllT.past (o := ⟨none, .store 22 (.tmp 56) (.tmp 54), 0, "ref.go:78", #[⟨11, .data⟩, ⟨8, .data⟩, ⟨10, .chain⟩, ⟨0, .phase⟩, ⟨1, .phase⟩, ⟨2, .phase⟩, ⟨3, .phase⟩, ⟨4, .phase⟩, ⟨5, .phase⟩, ⟨6, .phase⟩, ⟨7, .phase⟩, ⟨8, .phase⟩, ⟨9, .phase⟩, ⟨10, .phase⟩], none⟩) rfl (by kernel_rfl) (fun K hK => ?_) (Rb.AllT.nil)
                    · go_simp
                      try go_wp2_with fail
                      refine hK.out _ _ trivial (fun hH6 => ?_)
                      clear hK K hH5
                      try simp only [Act.put, setIfInBounds_toArray, set_cons_zero, set_cons_succ]
                      refine Rb.till_done (by kernel_rfl) ?_ _
                      refine NoPanic.normal ?_
                      have HFL2 : Hid (W2 (w1.heap.size + 1) w1 ((x12.setCell ⟨w1.heap.size, 0, none⟩ (.slice A7 (i + 1) c7)).setCell ⟨w1.heap.size, 1, none⟩ (.slice A12 (i + 1) c12)) (.slice A7 (i + 1) c7) (.slice A12 (i + 1) c12) (i + 1) (i + 1) (F.take (i + 1)) (List.replicate (i + 1) 4) ∧ Bk ((x12.setCell ⟨w1.heap.size, 0, none⟩ (.slice A7 (i + 1) c7)).setCell ⟨w1.heap.size, 1, none⟩ (.slice A12 (i + 1) c12)) w1.heap.size 59 #[.slice A7 (i + 1) c7, .slice A12 (i + 1) c12]) := ⟨by rw [HN.out, rep4_snoc]; exact (HQ12.out.1.st (Nat.le_refl _) (by omega) _ _).st (Nat.le_refl _) (by omega) _ _, (HQ12.out.2.st 0 _).st 1 _⟩
                      go_wp2_with fail
                      go_roundw
                      case rel => exact ⟨i + 1, _, _, _, rfl, by go_num, by omega, HFL2.out.1.up (by repeat (first | exact Bel.rf | with_reducible refine Bel.drwN ?_ _ | with_reducible refine Bel.drw ?_ | with_reducible refine Bel.al ?_ _)), HFL2.out.2.bel (by repeat (first | exact Bel.rf | with_reducible refine Bel.drwN ?_ _ | with_reducible refine Bel.drw ?_ | with_reducible refine Bel.al ?_ _))⟩
                      case measure => simp [intOf]; omega
            · go_simp
              try go_wp2_with fail
              refine hK.out _ _ ?_ (fun hH2 => ?_)
              · (try dsimp only); exact KS.out _ (HK6.out.bel (by repeat (first | exact Bel.rf | with_reducible refine Bel.drwN ?_ _ | with_reducible refine Bel.drw ?_ | with_reducible refine Bel.al ?_ _)))
              clear hK K hH1
              try simp only [Act.put, setIfInBounds_toArray, set_cons_zero, set_cons_succ]
              refine Rb.till_ready (rs := [4]) (by kernel_rfl) (by simp) ?_
              refine Rb.AllT.cons (o := ⟨some 50, .call { callee := Callee.builtin Builtin.append, args := #[.tmp 47, .tmp 49], argTypes := #[22, 22] }, 22, "ref.go:78", #[⟨1, .data⟩, ⟨3, .data⟩], none⟩) rfl (fun K hK => ?_) (Rb.AllT.nil)
              · refine Nr.step_app _ rfl (.tmp 47) (.tmp 49) rfl (w1.heap.size + 1) u i (F.take i) rfl (own_bel HQ6.out.ou (by repeat (first | exact Bel.rf | with_reducible refine Bel.drwN ?_ _ | with_reducible refine Bel.drw ?_ | with_reducible refine Bel.al ?_ _))) ⟨wq.heap.size, 0, none⟩ 1 1 [(s : Int)] rfl (zi_bk (L := [(s : Int)]) ((by repeat (first | (refine Bk.nq _ _ _ ?_; simp; done) | with_reducible refine Bk.drwN ?_ _ | with_reducible refine Bk.drw ?_ | with_reducible refine Bk.al ?_ _)) : Bk _ wq.heap.size 3 (zs [(s : Int)]).toArray) 1 rfl) HI1.out (by have := HQ6.out.sz; simp; omega) ?_; intro v7 x7 h7 hg7 ha7; obtain ⟨A7, c7, hv7, _⟩ := own_any h7; subst hv7; have HQ7 : Hid (W2 (w1.heap.size + 1) w1 x7 (.slice A7 (i + 1) c7) v (i + 1) i (F.take i ++ [(s : Int)]) (List.replicate i 4) ∧ Bk x7 w1.heap.size 59 #[u, v]) := ⟨(HQ6.out.up (by repeat (first | exact Bel.rf | with_reducible refine Bel.drwN ?_ _ | with_reducible refine Bel.drw ?_ | with_reducible refine Bel.al ?_ _))).ax h7 hg7 ha7, bk_grw (HK6.out.bel (by repeat (first | exact Bel.rf | with_reducible refine Bel.drwN ?_ _ | with_reducible refine Bel.drw ?_ | with_reducible refine Bel.al ?_ _))) hg7 (fun e => by have := (HQ6.out.ou.lt _ e).1; omega)⟩; have HX7 : Hid (Bk x7 (wq.heap.size + 1) 3 (zs [4]).toArray) := bk_grw ((by repeat (first | (refine Bk.nq _ _ _ ?_; simp; done) | with_reducible refine Bk.drwN ?_ _ | with_reducible refine Bk.drw ?_ | with_reducible refine Bk.al ?_ _)) : Bk _ (wq.heap.size + 1) 3 (zs [4]).toArray) hg7 (fun e => by have := HB6.out _ e; omega); clear h7 hg7 ha7
                try go_wp2_with fail
                refine hK.out _ _ ?_ (fun hH3 => ?_)
                · (try dsimp only); exact KS.out _ (HQ7.out.2.bel (by repeat (first | exact Bel.rf | with_reducible refine Bel.drwN ?_ _ | with_reducible refine Bel.drw ?_ | with_reducible refine Bel.al ?_ _)))
                clear hK K hH2
                try simp only [Act.put, setIfInBounds_toArray, set_cons_zero, set_cons_succ]
                refine Rb.till_take (i := 9) (oi := ⟨some 55, .fieldAddr 59 (.tmp 8) 0, 0, "ref.go:78", #[⟨0, .phase⟩, ⟨1, .phase⟩, ⟨2, .phase⟩, ⟨3, .phase⟩, ⟨4, .phase⟩, ⟨5, .phase⟩, ⟨6, .phase⟩, ⟨7, .textOnly Departure.lateStores⟩, ⟨8, .textOnly Departure.lateStoresUnsure⟩], none⟩) (v := ?_) rfl (by kernel_rfl) (by kernel_rfl) (by kernel_rfl) (fun _ _ _ h => h) (by decide) opO rfl (by kernel_rfl) (by kernel_rfl) (Or.inl ⟨by kernel_rfl, ?_⟩) (by assumption) ?_
                rotate_left
                · (intro w hSw; (try dsimp only at hSw); obtain ⟨d1, d2⟩ := hSw; go_simp; try with_reducible rfl)
                try simp only [Act.put, setIfInBounds_toArray, set_cons_zero, set_cons_succ]
                refine Rb.till_ready (rs := [8]) (by kernel_rfl) (by simp) ?_
                refine Rb.AllT.cons (o := ⟨some 54, .call { callee := Callee.builtin Builtin.append, args := #[.tmp 52, .tmp 53], argTypes := #[22, 22] }, 22, "ref.go:78", #[⟨6, .data⟩, ⟨7, .data⟩, ⟨4, .chain⟩], none⟩) rfl (fun K hK => ?_) (Rb.AllT.nil)
                · refine Nr.step_app _ rfl (.tmp 52) (.tmp 53) rfl (w1.heap.size + 1) v i (List.replicate i 4) rfl (own_bel HQ7.out.1.ov (by repeat (first | exact Bel.rf | with_reducible refine Bel.drwN ?_ _ | with_reducible refine Bel.drw ?_ | with_reducible refine Bel.al ?_ _))) ⟨wq.heap.size + 1, 0, none⟩ 1 1 [4] rfl (zi_bk (L := [4]) (HX7.out.bel (by repeat (first | exact Bel.rf | with_reducible refine Bel.drwN ?_ _ | with_reducible refine Bel.drw ?_ | with_reducible refine Bel.al ?_ _))) 1 rfl) HI1.out (by have := HQ7.out.1.sz; simp; omega) ?_; intro v12 x12 h12 hg12 ha12; obtain ⟨A12, c12, hv12, _⟩ := own_any h12; subst hv12; have HQ12 : Hid (W2 (w1.heap.size + 1) w1 x12 (.slice A7 (i + 1) c7) (.slice A12 (i + 1) c12) (i + 1) (i + 1) (F.take i ++ [(s : Int)]) (List.replicate i 4 ++ [4]) ∧ Bk x12 w1.heap.size 59 #[u, v]) := ⟨((HQ7.out.1.up (by repeat (first | exact Bel.rf | with_reducible refine Bel.drwN ?_ _ | with_reducible refine Bel.drw ?_ | with_reducible refine Bel.al ?_ _))).sx.ax h12 hg12 ha12).sx, bk_grw (HQ7.out.2.bel (by repeat (first | exact Bel.rf | with_reducible refine Bel.drwN ?_ _ | with_reducible refine Bel.drw ?_ | with_reducible refine Bel.al ?_ _))) hg12 (fun e => by have := (HQ7.out.1.ov.lt _ e).1; omega)⟩; have y0 := HQ12.out.2.cell 0; have y1 := HQ12.out.2.cell 1; have z0 := HQ12.out.2.fr 0; have z1 := HQ12.out.2.fr 1; simp only [List.getElem?_toArray, List.getElem?_cons_zero, List.getElem?_cons_succ] at y0 y1; clear h12 hg12 ha12
                  try go_wp2_with fail
                  refine hK.out _ _ ?_ (fun hH4 => ?_)
                  · (try dsimp only); exact KS.out _ (HQ12.out.2.bel (by repeat (first | exact Bel.rf | with_reducible refine Bel.drwN ?_ _ | with_reducible refine Bel.drw ?_ | with_reducible refine Bel.al ?_ _)))
                  clear hK K hH3
                  try simp only [Act.put, setIfInBounds_toArray, set_cons_zero, set_cons_succ]
                  refine Rb.till_ready (rs := [10]) (by kernel_rfl) (by simp) ?_
                  refine Rb.AllT.past (o := ⟨none, .store 22 (.tmp 55) (.tmp 50), 0, "ref.go:78", #[⟨9, .data⟩, ⟨4, .data⟩, ⟨8, .chain⟩, ⟨0, .phase⟩, ⟨1, .phase⟩, ⟨2, .phase⟩, ⟨3, .phase⟩, ⟨4, .phase⟩, ⟨5, .phase⟩, ⟨6, .phase⟩, ⟨7, .textOnly Departure.lateStores⟩, ⟨8, .textOnly Departure.lateStoresUnsure⟩], none⟩) rfl (by kernel_rfl) (fun K hK => ?_) (Rb.AllT.nil)
                  · go_simp
                    try go_wp2_with fail
                    refine hK.out _ _ trivial (fun hH5 => ?_)
                    clear hK K hH4
                    try simp only [Act.put, setIfInBounds_toArray, set_cons_zero, set_cons_succ]
                    refine Rb.till_free (i := 11) (oi := ⟨some 56, .fieldAddr 59 (.tmp 8) 1, 0, "ref.go:78", #[⟨0, .phase⟩, ⟨1, .phase⟩, ⟨2, .phase⟩, ⟨3, .phase⟩, ⟨4, .phase⟩, ⟨5, .phase⟩, ⟨6, .phase⟩, ⟨7, .phase⟩, ⟨8, .phase⟩, ⟨9, .phase⟩, ⟨10, .phase⟩], none⟩) (v := ?_) rfl (by kernel_rfl) (by kernel_rfl) (by kernel_rfl) (fun _ _ _ h => h) (by decide) (Or.inl ⟨by kernel_rfl, ?_⟩) (fun h => absurd h (by decide)) ?_
                    rotate_left
                    · (intro w hSw; clear hSw; go_simp; try with_reducible rfl)
                    try simp only [Act.put, setIfInBounds_toArray, set_cons_zero, set_cons_succ]
                    refine Rb.till_ready (rs := [12]) (by kernel_rfl) (by simp) ?_
                    refine Rb.AllT.past (o := ⟨none, .store 22 (.tmp 56) (.tmp 54), 0, "ref.go:78", #[⟨11, .data⟩, ⟨8, .data⟩, ⟨10, .chain⟩, ⟨0, .phase⟩, ⟨1, .phase⟩, ⟨2, .phase⟩, ⟨3, .phase⟩, ⟨4, .phase⟩, ⟨5, .phase⟩, ⟨6, .phase⟩, ⟨7, .phase⟩, ⟨8, .phase⟩, ⟨9, .phase⟩, ⟨10, .phase⟩], none⟩) rfl (by kernel_rfl) (fun K hK => ?_) (Rb.AllT.nil)
                    · go_simp
                      try go_wp2_with fail
                      refine hK.out _ _ trivial (fun hH6 => ?_)
                      clear hK K hH5
                      try simp only [Act.put, setIfInBounds_toArray, set_cons_zero, set_cons_succ]
                      refine Rb.till_done (by kernel_rfl) ?_ _
                      refine NoPanic.normal ?_
                      have HFL2 : Hid (W2 (w1.heap.size + 1) w1 ((x12.setCell ⟨w1.heap.size, 0, none⟩ (.slice A7 (i + 1) c7)).setCell ⟨w1.heap.size, 1, none⟩ (.slice A12 (i + 1) c12)) (.slice A7 (i + 1) c7) (.slice A12 (i + 1) c12) (i + 1) (i + 1) (F.take (i + 1)) (List.replicate (i + 1) 4) ∧ Bk ((x12.setCell ⟨w1.heap.size, 0, none⟩ (.slice A7 (i + 1) c7)).setCell ⟨w1.heap.size, 1, none⟩ (.slice A12 (i + 1) c12)) w1.heap.size 59 #[.slice A7 (i + 1) c7, .slice A12 (i + 1) c12]) := ⟨by rw [HN.out, rep4_snoc]; exact (HQ12.out.1.st (Nat.le_refl _) (by omega) _ _).st (Nat.le_refl _) (by omega) _ _, (HQ12.out.2.st 0 _).st 1 _⟩
                      go_wp2_with fail
                      go_roundw
                      case rel => exact ⟨i + 1, _, _, _, rfl, by go_num, by omega, HFL2.out.1.up (by repeat (first | exact Bel.rf | with_reducible refine Bel.drwN ?_ _ | with_reducible refine Bel.drw ?_ | with_reducible refine Bel.al ?_ _)), HFL2.out.2.bel (by repeat (first | exact Bel.rf | with_reducible refine Bel.drwN ?_ _ | with_reducible refine Bel.drw ?_ | with_reducible refine Bel.al ?_ _))⟩
                      case measure => simp [intOf]; omega
          · go_simp
            try go_wp2_with fail
            refine hK.out _ _ ?_ (fun hH1 => ?_)
            · (try dsimp only); exact KS.out _ (HK6.out.bel (by repeat (first | exact Bel.rf | with_reducible refine Bel.drwN ?_ _ | with_reducible refine Bel.drw ?_ | with_reducible refine Bel.al ?_ _)))
            clear hK K hH0
            try simp only [Act.put, setIfInBounds_toArray, set_cons_zero, set_cons_succ]
            refine Rb.till_ready (rs := [3]) (by kernel_rfl) (by simp) ?_
            refine Rb.AllT.cons (o := ⟨some 49, .buildSlice 22 1 #[(0, .tmp 48)], 22, "ref.go:78", #[⟨2, .data⟩], none⟩) rfl (fun K hK => ?_) (Rb.AllT.nil)
            · go_simp
              try go_wp2_with fail
              refine hK.out _ _ ?_ (fun hH2 => ?_)
              · (try dsimp only); exact KS.out _ (HK6.out.bel (by repeat (first | exact Bel.rf | with_reducible refine Bel.drwN ?_ _ | with_reducible refine Bel.drw ?_ | with_reducible refine Bel.al ?_ _)))
              clear hK K hH1
              try simp only [Act.put, setIfInBounds_toArray, set_cons_zero, set_cons_succ]
              refine Rb.till_ready (rs := [4]) (by kernel_rfl) (by simp) ?_
              refine Rb.AllT.cons (o := ⟨some 50, .call { callee := Callee.builtin Builtin.append, args := #[.tmp 47, .tmp 49], argTypes := #[22, 22] }, 22, "ref.go:78", #[⟨1, .data⟩, ⟨3, .data⟩], none⟩) rfl (fun K hK => ?_) (Rb.AllT.nil)
              · refine Nr.step_app _ rfl (.tmp 47) (.tmp 49) rfl (w1.heap.size + 1) u i (F.take i) rfl (own_bel HQ6.out.ou (by repeat (first | exact Bel.rf | with_reducible refine Bel.drwN ?_ _ | with_reducible refine Bel.drw ?_ | with_reducible refine Bel.al ?_ _))) ⟨wq.heap.size + 1, 0, none⟩ 1 1 [(s : Int)] rfl (zi_bk (L := [(s : Int)]) ((by repeat (first | (refine Bk.nq _ _ _ ?_; simp; done) | with_reducible refine Bk.drwN ?_ _ | with_reducible refine Bk.drw ?_ | with_reducible refine Bk.al ?_ _)) : Bk _ (wq.heap.size + 1) 3 (zs [(s : Int)]).toArray) 1 rfl) HI1.out (by have := HQ6.out.sz; simp; omega) ?_; intro v7 x7 h7 hg7 ha7; obtain ⟨A7, c7, hv7, _⟩ := own_any h7; subst hv7; have HQ7 : Hid (W2 (w1.heap.size + 1) w1 x7 (.slice A7 (i + 1) c7) v (i + 1) i (F.take i ++ [(s : Int)]) (List.replicate i 4) ∧ Bk x7 w1.heap.size 59 #[u, v]) := ⟨(HQ6.out.up (by repeat (first | exact Bel.rf | with_reducible refine Bel.drwN ?_ _ | with_reducible refine Bel.drw ?_ | with_reducible refine Bel.al ?_ _))).ax h7 hg7 ha7, bk_grw (HK6.out.bel (by repeat (first | exact Bel.rf | with_reducible refine Bel.drwN ?_ _ | with_reducible refine Bel.drw ?_ | with_reducible refine Bel.al ?_ _))) hg7 (fun e => by have := (HQ6.out.ou.lt _ e).1; omega)⟩; have HX7 : Hid (Bk x7 wq.heap.size 3 (zs [4]).toArray) := bk_grw ((by repeat (first | (refine Bk.nq _ _ _ ?_; simp; done) | with_reducible refine Bk.drwN ?_ _ | with_reducible refine Bk.drw ?_ | with_reducible refine Bk.al ?_ _)) : Bk _ wq.heap.size 3 (zs [4]).toArray) hg7 (fun e => by have := HB6.out _ e; omega); clear h7 hg7 ha7
                try go_wp2_with fail
                refine hK.out _ _ ?_ (fun hH3 => ?_)
                · (try dsimp only); exact KS.out _ (HQ7.out.2.bel (by repeat (first | exact Bel.rf | with_reducible refine Bel.drwN ?_ _ | with_reducible refine Bel.drw ?_ | with_reducible refine Bel.al ?_ _)))
                clear hK K hH2
                try simp only [Act.put, setIfInBounds_toArray, set_cons_zero, set_cons_succ]
                refine Rb.till_take (i := 9) (oi := ⟨some 55, .fieldAddr 59 (.tmp 8) 0, 0, "ref.go:78", #[⟨0, .phase⟩, ⟨1, .phase⟩, ⟨2, .phase⟩, ⟨3, .phase⟩, ⟨4, .phase⟩, ⟨5, .phase⟩, ⟨6, .phase⟩, ⟨7, .textOnly Departure.lateStores⟩, ⟨8, .textOnly Departure.lateStoresUnsure⟩], none⟩) (v := ?_) rfl (by kernel_rfl) (by kernel_rfl) (by kernel_rfl) (fun _ _ _ h => h) (by decide) opO rfl (by kernel_rfl) (by kernel_rfl) (Or.inl ⟨by kernel_rfl, ?_⟩) (by assumption) ?_
                rotate_left
                · (intro w hSw; (try dsimp only at hSw); obtain ⟨d1, d2⟩ := hSw; go_simp; try with_reducible rfl)
                try simp only [Act.put, setIfInBounds_toArray, set_cons_zero, set_cons_succ]
                refine Rb.till_ready (rs := [8]) (by kernel_rfl) (by simp) ?_
                refine Rb.AllT.cons (o := ⟨some 54, .call { callee := Callee.builtin Builtin.append, args := #[.tmp 52, .tmp 53], argTypes := #[22, 22] }, 22, "ref.go:78", #[⟨6, .data⟩, ⟨7, .data⟩, ⟨4, .chain⟩], none⟩) rfl (fun K hK => ?_) (Rb.AllT.nil)
                · refine Nr.step_app _ rfl (.tmp 52) (.tmp 53) rfl (w1.heap.size + 1) v i (List.replicate i 4) rfl (own_bel HQ7.out.1.ov (by repeat (first | exact Bel.rf | with_reducible refine Bel.drwN ?_ _ | with_reducible refine Bel.drw ?_ | with_reducible refine Bel.al ?_ _))) ⟨wq.heap.size, 0, none⟩ 1 1 [4] rfl (zi_bk (L := [4]) (HX7.out.bel (by repeat (first | exact Bel.rf | with_reducible refine Bel.drwN ?_ _ | with_reducible refine Bel.drw ?_ | with_reducible refine Bel.al ?_ _))) 1 rfl) HI1.out (by have := HQ7.out.1.sz; simp; omega) ?_; intro v12 x12 h12 hg12 ha12; obtain ⟨A12, c12, hv12, _⟩ := own_any h12; subst hv12; have HQ12 : Hid (W2 (w1.heap.size + 1) w1 x12 (.slice A7 (i + 1) c7) (.slice A12 (i + 1) c12) (i + 1) (i + 1) (F.take i ++ [(s : Int)]) (List.replicate i 4 ++ [4]) ∧ Bk x12 w1.heap.size 59 #[u, v]) := ⟨((HQ7.out.1.up (by repeat (first | exact Bel.rf | with_reducible refine Bel.drwN ?_ _ | with_reducible refine Bel.drw ?_ | with_reducible refine Bel.al ?_ _))).sx.ax h12 hg12 ha12).sx, bk_grw (HQ7.out.2.bel (by repeat (first | exact Bel.rf | with_reducible refine Bel.drwN ?_ _ | with_reducible refine Bel.drw ?_ | with_reducible refine Bel.al ?_ _))) hg12 (fun e => by have := (HQ7.out.1.ov.lt _ e).1; omega)⟩; have y0 := HQ12.out.2.cell 0; have y1 := HQ12.out.2.cell 1; have z0 := HQ12.out.2.fr 0; have z1 := HQ12.out.2.fr 1; simp only [List.getElem?_toArray, List.getElem?_cons_zero, List.getElem?_cons_succ] at y0 y1; clear h12 hg12 ha12
                  try go_wp2_with fail
                  refine hK.out _ _ ?_ (fun hH4 => ?_)
                  · (try dsimp only); exact KS.out _ (HQ12.out.2.bel (by repeat (first | exact Bel.rf | with_reducible refine Bel.drwN ?_ _ | with_reducible refine Bel.drw ?_ | with_reducible refine Bel.al ?_ _)))
                  clear hK K hH3
                  try simp only [Act.put, setIfInBounds_toArray, set_cons_zero, set_cons_succ]
                  refine Rb.till_ready (rs := [10]) (by kernel_rfl) (by simp) ?_
                  refine Rb.AllT.past (o := ⟨none, .store 22 (.tmp 55) (.tmp 50), 0, "ref.go:78", #[⟨9, .data⟩, ⟨4, .data⟩, ⟨8, .chain⟩, ⟨0, .phase⟩, ⟨1, .phase⟩, ⟨2, .phase⟩, ⟨3, .phase⟩, ⟨4, .phase⟩, ⟨5, .phase⟩, ⟨6, .phase⟩, ⟨7, .textOnly Departure.lateStores⟩, ⟨8, .textOnly Departure.lateStoresUnsure⟩], none⟩) rfl (by kernel_rfl) (fun K hK => ?_) (Rb.AllT.nil)
                  · go_simp
                    try go_wp2_with fail
                    refine hK.out _ _ trivial (fun hH5 => ?_)
                    clear hK K hH4
                    try simp only [Act.put, setIfInBounds_toArray, set_cons_zero, set_cons_succ]
                    refine Rb.till_free (i := 11) (oi := ⟨some 56, .fieldAddr 59 (.tmp 8) 1, 0, "ref.go:78", #[⟨0, .phase⟩, ⟨1, .phase⟩, ⟨2, .phase⟩, ⟨3, .phase⟩, ⟨4, .phase⟩, ⟨5, .phase⟩, ⟨6, .phase⟩, ⟨7, .phase⟩, ⟨8, .phase⟩, ⟨9, .phase⟩, ⟨10, .phase⟩], none⟩) (v := ?_) rfl (by kernel_rfl) (by kernel_rfl) (by kernel_rfl) (fun _ _ _ h => h) (by decide) (Or.inl ⟨by kernel_rfl, ?_⟩) (fun h => absurd h (by decide)) ?_
                    rotate_left
                    · (intro w hSw; clear hSw; go_simp; try with_reducible rfl)
                    try simp only [Act.put, setIfInBounds_toArray, set_cons_zero, set_cons_succ]
                    refine Rb.till_ready (rs := [12]) (by kernel_rfl) (by simp) ?_
                    refine Rb.AllT.past (o := ⟨none, .store 22 (.tmp 56) (.tmp 54), 0, "ref.go:78", #[⟨11, .data⟩, ⟨8, .data⟩, ⟨10, .chain⟩, ⟨0, .phase⟩, ⟨1, .phase⟩, ⟨2, .phase⟩, ⟨3, .phase⟩, ⟨4, .phase⟩, ⟨5, .phase⟩, ⟨6, .phase⟩, ⟨7, .phase⟩, ⟨8, .phase⟩, ⟨9, .phase⟩, ⟨10, .phase⟩], none⟩) rfl (by kernel_rfl) (fun K hK => ?_) (Rb.AllT.nil)
                    · go_simp
                      try go_wp2_with fail
                      refine hK.out _ _ trivial (fun hH6 => ?_)
                      clear hK K hH5
                      try simp only [Act.put, setIfInBounds_toArray, set_cons_zero, set_cons_succ]
                      refine Rb.till_done (by kernel_rfl) ?_ _
                      refine NoPanic.normal ?_
                      have HFL2 : Hid (W2 (w1.heap.size + 1) w1 ((x12.setCell ⟨w1.heap.size, 0, none⟩ (.slice A7 (i + 1) c7)).setCell ⟨w1.heap.size, 1, none⟩ (.slice A12 (i + 1) c12)) (.slice A7 (i + 1) c7) (.slice A12 (i + 1) c12) (i + 1) (i + 1) (F.take (i + 1)) (List.replicate (i + 1) 4) ∧ Bk ((x12.setCell ⟨w1.heap.size, 0, none⟩ (.slice A7 (i + 1) c7)).setCell ⟨w1.heap.size, 1, none⟩ (.slice A12 (i + 1) c12)) w1.heap.size 59 #[.slice A7 (i + 1) c7, .slice A12 (i + 1) c12]) := ⟨by rw [HN.out, rep4_snoc]; exact (HQ12.out.1.st (Nat.le_refl _) (by omega) _ _).st (Nat.le_refl _) (by omega) _ _, (HQ12.out.2.st 0 _).st 1 _⟩
                      go_wp2_with fail
                      go_roundw
                      case rel => exact ⟨i + 1, _, _, _, rfl, by go_num, by omega, HFL2.out.1.up (by repeat (first | exact Bel.rf | with_reducible refine Bel.drwN ?_ _ | with_reducible refine Bel.drw ?_ | with_reducible refine Bel.al ?_ _)), HFL2.out.2.bel (by repeat (first | exact Bel.rf | with_reducible refine Bel.drwN ?_ _ | with_reducible refine Bel.drw ?_ | with_reducible refine Bel.al ?_ _))⟩
                      case measure => simp [intOf]; omega
    · obtain rfl : i = n := by omega
      have hq := HQ.out
      rw [List.take_of_length_le (by rw [HFL.out]; omega)] at hq
      have HQ9 := Lib.hid hq
      clear hq
      obtain ⟨A1, c1, hu, z1⟩ := own_zx HQ9.out.ou HFL.out
      obtain ⟨A2, c2, hv, z2⟩ := own_zx HQ9.out.ov (by simp)
      subst hu
      subst hv
      have u0 := HK.out.cell 0
      have u1 := HK.out.cell 1
      have hR := HR1.out.bel HQ9.out.ch
      have r0 := hR.cell 0
      have r1 := hR.cell 1
      have e0 := hR.fr 0
      have e1 := hR.fr 1
      simp only [List.getElem?_toArray, List.getElem?_cons_zero, List.getElem?_cons_succ] at r0 r1 u0 u1
      have HF : Hid (Bk ((wr.setCell ⟨w.heap.size + 1, 0, none⟩ (.slice A1 i c1)).setCell ⟨w.heap.size + 1, 1, none⟩ (.slice A2 i c2)) (w.heap.size + 1) 59 #[.slice A1 i c1, .slice A2 i c2]) := (hR.st 0 _).st 1 _
      have HSW : Hid (Bel w wr) := HW1.out.tr HQ9.out.ch
      have HE : Hid (Bel w ((wr.setCell ⟨w.heap.size + 1, 0, none⟩ (.slice A1 i c1)).setCell ⟨w.heap.size + 1, 1, none⟩ (.slice A2 i c2))) := Bel.st2 (by simp) (Bel.st2 (by simp) HSW.out _) _
      have HO1 : Hid (((wr.setCell ⟨w.heap.size + 1, 0, none⟩ (.slice A1 i c1)).setCell ⟨w.heap.size + 1, 1, none⟩ (.slice A2 i c2)).ownsRow (w1.heap.size + 1) 3 1 (.slice A1 i c1) i (zs F)) := own_ch (own_ch HQ9.out.ou ((Ch.rf (g := w.heap.size + 1)).st 0 _) (by have := HG1.out; omega)) ((Ch.rf (g := w.heap.size + 1)).st 1 _) (by have := HG1.out; omega)
      have HO2 : Hid (((wr.setCell ⟨w.heap.size + 1, 0, none⟩ (.slice A1 i c1)).setCell ⟨w.heap.size + 1, 1, none⟩ (.slice A2 i c2)).ownsRow (w1.heap.size + 1) 3 1 (.slice A2 i c2) i (zs (List.replicate i 4))) := own_ch (own_ch HQ9.out.ov ((Ch.rf (g := w.heap.size + 1)).st 0 _) (by have := HG1.out; omega)) ((Ch.rf (g := w.heap.size + 1)).st 1 _) (by have := HG1.out; omega)
      obtain ⟨A3, c3, hu3, z3⟩ := own_zx HO1.out HFL.out
      obtain ⟨A4, c4, hv4, z4⟩ := own_zx HO2.out (by simp)
      cases hu3
      cases hv4
      have HZ3 := Lib.hid (And.intro z3 z4)
      clear z1 z2 z3 z4 hR
      go_wp2
      exact bodyPost_ret (v := .tuple #[Wx i A1 A2 c1 c2, .int .i64 0]) (results_wt Try.results36 _ _ (w.heap.size + 1) _ _ _ rfl rfl (HF.out.bel (by repeat (first | exact Bel.rf | with_reducible refine Bel.drwN ?_ _ | with_reducible refine Bel.drw ?_ | with_reducible refine Bel.al ?_ _)))) rfl ⟨A1, A2, c1, c2, rfl, HZ3.out.1.bel (by repeat (first | exact Bel.rf | with_reducible refine Bel.drwN ?_ _ | with_reducible refine Bel.drw ?_ | with_reducible refine Bel.al ?_ _)), HZ3.out.2.bel (by repeat (first | exact Bel.rf | with_reducible refine Bel.drwN ?_ _ | with_reducible refine Bel.drw ?_ | with_reducible refine Bel.al ?_ _)), HE.out.tr (by repeat (first | exact Bel.rf | with_reducible refine Bel.drwN ?_ _ | with_reducible refine Bel.drw ?_ | with_reducible refine Bel.al ?_ _)), own_fz HQ9.out.ou (by have := HG1.out; omega), own_fz HQ9.out.ov (by have := HG1.out; omega)⟩
end Go.Proofs.Ytmgdoglnckkobaa.Wd
namespace Go.Proofs.Ytmgdoglnckkobaa.Wd
open Go.ChangeShapes Go.WideShapes Go.RowKit Wo Sr Wi Ms Pc Nr Rt
set_option linter.unusedVariables false
set_option linter.unusedSimpArgs false
set_option maxHeartbeats 8000000 in
set_option maxRecDepth 100000 in
theorem rvalid_ok (k b g : Int) (m n : Nat) (A sA bA : Option Addr) (nc cc sc bc : Nat) (C S B : List Int) (hs : Sv k b g m n C) (hv : Wv n S B) (w : World) (hz : Zi w A nc C) (hS : Zi w sA n S) (hB : Zi w bA n B) :
    Calls Try.prog 73 #[Sx k b g m n A nc cc, Wx n sA bA sc bc] w fun e w' => e = .returned (.bool true) ∧ Bel w w' := by
  have CK : Hid (∀ W, Bel w W → Calls Try.prog 103 #[.agg #[.int .i64 k, .int .i64 b, .int .i64 g, .int .i64 (m : Int), .int .i64 (n : Int), .slice A nc cc]] W fun e w' => e = .returned (.int .i64 0) ∧ Bel W w') := fun W hW => R18.rsc_any k b g m n A nc cc C hs W (hz.bel hW)
  have HV := Lib.hid hv.2.2
  have HS := Lib.hid hS
  have HB := Lib.hid hB
  have n1 := hs.n1
  have n8 := hs.n8
  have ni : (n : Int) ≤ 8 := by omega
  have HB0 : Hid (Bk ((w.alloc (.cells #[.int .i64 k, .int .i64 b, .int .i64 g, .int .i64 (m : Int), .int .i64 (n : Int), .slice A nc cc] 56)).alloc (.cells #[.slice sA n sc, .slice bA n bc] 59)) w.heap.size 56 #[.int .i64 k, .int .i64 b, .int .i64 g, .int .i64 (m : Int), .int .i64 (n : Int), .slice A nc cc]) := (Bk.nw _ _ _).al _
  have HB1 : Hid (Bk ((w.alloc (.cells #[.int .i64 k, .int .i64 b, .int .i64 g, .int .i64 (m : Int), .int .i64 (n : Int), .slice A nc cc] 56)).alloc (.cells #[.slice sA n sc, .slice bA n bc] 59)) (w.heap.size + 1) 59 #[.slice sA n sc, .slice bA n bc]) := Bk.nq _ _ _ (by simp)
  have HB2 : Hid (Bel w ((w.alloc (.cells #[.int .i64 k, .int .i64 b, .int .i64 g, .int .i64 (m : Int), .int .i64 (n : Int), .slice A nc cc] 56)).alloc (.cells #[.slice sA n sc, .slice bA n bc] 59))) := (Bel.rf.al _).al _
  have nn := ne_self (n : Int)
  clear hs hv hz hS hB
  unfold Sx Wx
  go_enter Try.func73, Try.ntmps73
  go_wp2_with (go_at_call 103; refine (CK.out _ (by repeat (first | exact Bel.rf | (with_reducible refine Bel.drwN ?_ _) | (with_reducible refine Bel.drw ?_) | (with_reducible refine Bel.al ?_ _)))).mono ?_; rintro e w1 ⟨rfl, hb1⟩; have HK1 := Lib.hid ((HB0.out.bel (by repeat (first | exact Bel.rf | (with_reducible refine Bel.drwN ?_ _) | (with_reducible refine Bel.drw ?_) | (with_reducible refine Bel.al ?_ _)))).bel hb1); have HK2 := Lib.hid ((HB1.out.bel (by repeat (first | exact Bel.rf | (with_reducible refine Bel.drwN ?_ _) | (with_reducible refine Bel.drw ?_) | (with_reducible refine Bel.al ?_ _)))).bel hb1); have HW1 : Hid (Bel w w1) := HB2.out.tr (Bel.tr (by repeat (first | exact Bel.rf | (with_reducible refine Bel.drwN ?_ _) | (with_reducible refine Bel.drw ?_) | (with_reducible refine Bel.al ?_ _))) hb1); have q2 := HK1.out.cell 4; have q0 := HK2.out.cell 0; have q1 := HK2.out.cell 1; simp only [List.getElem?_toArray, List.getElem?_cons_zero, List.getElem?_cons_succ] at q0 q1 q2; clear hb1)
  go_loopw [28] (fun s28 wr => ∃ (i : Nat) (V : World), V = wr ∧ i ≤ n ∧ s28 = .int .i64 (i : Int) ∧ Bel w1 wr) (fun s28 _ => n - (intOf s28).toNat)
  case atStart => exact ⟨0, _, rfl, by omega, rfl, (by repeat (first | exact Bel.rf | (with_reducible refine Bel.drwN ?_ _) | (with_reducible refine Bel.drw ?_) | (with_reducible refine Bel.al ?_ _)))⟩
  case round =>
    obtain ⟨i, wr, hwr, hi, rfl, hb⟩ := hrel
    subst hwr
    have HR := Lib.hid hb
    have r0 := hb.kp q0
    have r1 := hb.kp q1
    clear q0 q1 q2 hb
    rcases Nat.lt_or_ge i n with hlt | hge
    · obtain ⟨sad, e, _, hc⟩ := (HS.out.bel (HW1.out.tr HR.out)).2 (by omega)
      subst e
      have c1 := hc i hlt
      obtain ⟨bad, e, _, hd⟩ := (HB.out.bel (HW1.out.tr HR.out)).2 (by omega)
      subst e
      have d1 := hd i hlt
      obtain ⟨b0, b4, s0, s1⟩ := HV.out i hlt
      obtain ⟨s, hs⟩ : ∃ x, S.getD i 0 = x := ⟨_, rfl⟩
      obtain ⟨y, hy⟩ : ∃ x, B.getD i 0 = x := ⟨_, rfl⟩
      rw [hs] at c1 s0 s1
      rw [hy] at d1 b0 b4 s1
      have ii : (i : Int) < (n : Int) := by omega
      have ip0 : (0 : Int) ≤ (i : Int) := by omega
      have ns : ¬ s < 0 := by omega
      have dns : decide (s < 0) = false := decide_eq_false ns
      clear hc hd hs hy
      have hb5 : y = 0 ∨ y = 1 ∨ y = 2 ∨ y = 3 ∨ y = 4 := by omega
      have HY := Lib.hid hb5
      clear hb5 b0 b4
      rcases HY.out with rfl | rfl | rfl | rfl | rfl
      · have s2 : s < 1 := s1
        have ns2 : ¬ 1 ≤ s := by omega
        have dn2 : decide (1 ≤ s) = false := decide_eq_false ns2
        have wv1 : IntKind.i64.wrap 1 = 1 := by decide
        have wv2 : IntKind.i64.wrap (2 ^ 0) = 1 := by decide
        have dy1 : decide ((0 : Int) < 0) = false := by decide
        have dy2 : decide ((4 : Int) < 0) = false := by decide
        clear s1 HY
        go_wp2_with fail
        go_quiet (fail)
        go_wp2
        go_roundw
        case rel => exact ⟨i + 1, _, rfl, by omega, by go_num, (by repeat (first | exact HR.out | (with_reducible refine Bel.drwN ?_ _) | (with_reducible refine Bel.drw ?_) | (with_reducible refine Bel.al ?_ _)))⟩
        case measure => simp [intOf]; omega
      · have s2 : s < 2 := s1
        have ns2 : ¬ 2 ≤ s := by omega
        have dn2 : decide (2 ≤ s) = false := decide_eq_false ns2
        have wv1 : IntKind.i64.wrap 2 = 2 := by decide
        have wv2 : IntKind.i64.wrap (2 ^ 1) = 2 := by decide
        have dy1 : decide ((1 : Int) < 0) = false := by decide
        have dy2 : decide ((4 : Int) < 1) = false := by decide
        clear s1 HY
        go_wp2_with fail
        go_quiet (fail)
        go_wp2
        go_roundw
        case rel => exact ⟨i + 1, _, rfl, by omega, by go_num, (by repeat (first | exact HR.out | (with_reducible refine Bel.drwN ?_ _) | (with_reducible refine Bel.drw ?_) | (with_reducible refine Bel.al ?_ _)))⟩
        case measure => simp [intOf]; omega
      · have s2 : s < 4 := s1
        have ns2 : ¬ 4 ≤ s := by omega
        have dn2 : decide (4 ≤ s) = false := decide_eq_false ns2
        have wv1 : IntKind.i64.wrap 4 = 4 := by decide
        have wv2 : IntKind.i64.wrap (2 ^ 2) = 4 := by decide
        have dy1 : decide ((2 : Int) < 0) = false := by decide
        have dy2 : decide ((4 : Int) < 2) = false := by decide
        clear s1 HY
        go_wp2_with fail
        go_quiet (fail)
        go_wp2
        go_roundw
        case rel => exact ⟨i + 1, _, rfl, by omega, by go_num, (by repeat (first | exact HR.out | (with_reducible refine Bel.drwN ?_ _) | (with_reducible refine Bel.drw ?_) | (with_reducible refine Bel.al ?_ _)))⟩
        case measure => simp [intOf]; omega
      · have s2 : s < 8 := s1
        have ns2 : ¬ 8 ≤ s := by omega
        have dn2 : decide (8 ≤ s) = false := decide_eq_false ns2
        have wv1 : IntKind.i64.wrap 8 = 8 := by decide
        have wv2 : IntKind.i64.wrap (2 ^ 3) = 8 := by decide
        have dy1 : decide ((3 : Int) < 0) = false := by decide
        have dy2 : decide ((4 : Int) < 3) = false := by decide
        clear s1 HY
        go_wp2_with fail
        go_quiet (fail)
        go_wp2
        go_roundw
        case rel => exact ⟨i + 1, _, rfl, by omega, by go_num, (by repeat (first | exact HR.out | (with_reducible refine Bel.drwN ?_ _) | (with_reducible refine Bel.drw ?_) | (with_reducible refine Bel.al ?_ _)))⟩
        case measure => simp [intOf]; omega
      · have s2 : s < 16 := s1
        have ns2 : ¬ 16 ≤ s := by omega
        have dn2 : decide (16 ≤ s) = false := decide_eq_false ns2
        have wv1 : IntKind.i64.wrap 16 = 16 := by decide
        have wv2 : IntKind.i64.wrap (2 ^ 4) = 16 := by decide
        have dy1 : decide ((4 : Int) < 0) = false := by decide
        have dy2 : decide ((4 : Int) < 4) = false := by decide
        clear s1 HY
        go_wp2_with fail
        go_quiet (fail)
        go_wp2
        go_roundw
        case rel => exact ⟨i + 1, _, rfl, by omega, by go_num, (by repeat (first | exact HR.out | (with_reducible refine Bel.drwN ?_ _) | (with_reducible refine Bel.drw ?_) | (with_reducible refine Bel.al ?_ _)))⟩
        case measure => simp [intOf]; omega
    · obtain rfl : i = n := by omega
      go_wp2
      go_ret
      exact ⟨rfl, (by repeat (first | exact HW1.out.tr HR.out | (with_reducible refine Bel.drwN ?_ _) | (with_reducible refine Bel.drw ?_) | (with_reducible refine Bel.al ?_ _)))⟩
end Go.Proofs.Ytmgdoglnckkobaa.Wd
namespace Go.Proofs.Ytmgdoglnckkobaa.Wd
open Go.ChangeShapes Go.WideShapes Go.RowKit Wo Sr Wi Ms Pc Nr Rt
set_option linter.unusedVariables false
set_option linter.unusedSimpArgs false
theorem own_ivl {w : World} {base n : Nat} {v : Value} {L : List Rp} (h : w.ownsRow base 98 2 v n (rs L)) (hn : 0 < n) : ∃ g c, v = .slice (some ⟨g, 0, none⟩) n c ∧ base ≤ g := by
  obtain ⟨A, c, rfl, hp⟩ := own_any h
  obtain ⟨r, rfl⟩ := hp hn
  exact ⟨r, c, rfl, (h.lt r rfl).1⟩
set_option maxHeartbeats 8000000 in
set_option maxRecDepth 100000 in
theorem rregion_ok (k b g : Int) (m n : Nat) (A sA bA : Option Addr) (nc cc sc bc : Nat) (C S B : List Int) (hs : Sv k b g m n C) (hv : Wv n S B) (w : World) (hz : Zi w A nc C) (hS : Zi w sA n S) (hB : Zi w bA n B) :
    Calls Try.prog 37 #[Sx k b g m n A nc cc, Wx n sA bA sc bc] w fun e w' => ∃ h c, e = .returned (.tuple #[.slice (some ⟨h, 0, none⟩) n c, .int .i64 0]) ∧ Sk.Zv w' h n (rgn n C S B) ∧ w.heap.size ≤ h ∧ Bel w w' := by
  have CK : Hid (∀ W, Bel w W → Calls Try.prog 73 #[.agg #[.int .i64 k, .int .i64 b, .int .i64 g, .int .i64 (m : Int), .int .i64 (n : Int), .slice A nc cc], .agg #[.slice sA n sc, .slice bA n bc]] W fun e w' => e = .returned (.bool true) ∧ Bel W w') := fun W hW => rvalid_ok k b g m n A sA bA nc cc sc bc C S B hs hv W (hz.bel hW) (hS.bel hW) (hB.bel hW)
  have HV := Lib.hid hv.2.2
  have HS := Lib.hid hS
  have HB := Lib.hid hB
  have HZC := Lib.hid hz
  have HCB : Hid (∀ j, j < nc → -2000 ≤ C.getD j 0 ∧ C.getD j 0 ≤ 2000) := fun j hj => hs.cv.2.1 j (by rw [hz.1]; exact hj)
  have n1 := hs.n1
  have n8 := hs.n8
  have ni : (n : Int) ≤ 8 := by omega
  have c15 : (nc : Int) ≤ 15 := by have := hs.cv.1; have := hz.1; omega
  have HB0 : Hid (Bk ((w.alloc (.cells #[.int .i64 k, .int .i64 b, .int .i64 g, .int .i64 (m : Int), .int .i64 (n : Int), .slice A nc cc] 56)).alloc (.cells #[.slice sA n sc, .slice bA n bc] 59)) w.heap.size 56 #[.int .i64 k, .int .i64 b, .int .i64 g, .int .i64 (m : Int), .int .i64 (n : Int), .slice A nc cc]) := (Bk.nw _ _ _).al _
  have HB1 : Hid (Bk ((w.alloc (.cells #[.int .i64 k, .int .i64 b, .int .i64 g, .int .i64 (m : Int), .int .i64 (n : Int), .slice A nc cc] 56)).alloc (.cells #[.slice sA n sc, .slice bA n bc] 59)) (w.heap.size + 1) 59 #[.slice sA n sc, .slice bA n bc]) := Bk.nq _ _ _ (by simp)
  have HB2 : Hid (Bel w ((w.alloc (.cells #[.int .i64 k, .int .i64 b, .int .i64 g, .int .i64 (m : Int), .int .i64 (n : Int), .slice A nc cc] 56)).alloc (.cells #[.slice sA n sc, .slice bA n bc] 59))) := (Bel.rf.al _).al _
  obtain ⟨L, hL⟩ : ∃ L, rgn n C S B = L := ⟨_, rfl⟩
  have HLL : Hid (L.length = n) := by show _ = _; rw [← hL]; exact rgn_len _ _ _ _
  have HLA : Hid (∀ p, p < n → L.getD p (0, 0) = ivl C (fst (S.getD p 0) (B.getD p 0).toNat) (lst (S.getD p 0) (B.getD p 0).toNat)) := fun p hp => by rw [← hL]; exact rgn_at _ _ _ _ p hp
  have HCL : Hid (C.length = nc) := hz.1
  rw [hL]
  clear hs hv hz hS hB hL
  unfold Sx Wx
  go_enter Try.func37, Try.ntmps37
  go_wp2_with fail
  go_at_call 73
  refine (CK.out _ (by repeat (first | exact Bel.rf | (with_reducible refine Bel.drwN ?_ _) | (with_reducible refine Bel.drw ?_) | (with_reducible refine Bel.al ?_ _)))).mono ?_
  rintro e w1 ⟨rfl, hb1⟩
  have HK1 := Lib.hid ((HB0.out.bel (by repeat (first | exact Bel.rf | (with_reducible refine Bel.drwN ?_ _) | (with_reducible refine Bel.drw ?_) | (with_reducible refine Bel.al ?_ _)))).bel hb1)
  have HK2 := Lib.hid ((HB1.out.bel (by repeat (first | exact Bel.rf | (with_reducible refine Bel.drwN ?_ _) | (with_reducible refine Bel.drw ?_) | (with_reducible refine Bel.al ?_ _)))).bel hb1)
  have HW1 : Hid (Bel w w1) := HB2.out.tr (Bel.tr (by repeat (first | exact Bel.rf | (with_reducible refine Bel.drwN ?_ _) | (with_reducible refine Bel.drw ?_) | (with_reducible refine Bel.al ?_ _))) hb1)
  have q1 := HK2.out.cell 1
  simp only [List.getElem?_toArray, List.getElem?_cons_zero, List.getElem?_cons_succ] at q1
  clear hb1
  go_wp2_with fail
  go_loopw [6, 18] (fun s6 s18 wr => ∃ (i : Nat) (V : World) (u : Value), V = wr ∧ u = s6 ∧ i ≤ n ∧ s18 = .int .i64 (i : Int) ∧ wr.ownsRow w1.heap.size 98 2 s6 i (rs (L.take i)) ∧ Bel w1 wr) (fun _ s18 _ => n - (intOf s18).toNat)
  case atStart => exact ⟨0, _, _, rfl, rfl, by omega, rfl, World.ownsRow_nil _ _ _ _, (by repeat (first | exact Bel.rf | (with_reducible refine Bel.drwN ?_ _) | (with_reducible refine Bel.drw ?_) | (with_reducible refine Bel.al ?_ _)))⟩
  case round =>
    obtain ⟨i, wr, u6, hwr, hu, hi, rfl, hz, hb⟩ := hrel
    subst hwr hu
    have HZ := Lib.hid hz
    have HR := Lib.hid hb
    have hsz := hb.size
    clear q1 hz hb
    rcases Nat.lt_or_ge i n with hlt | hge
    · have HX0 := HK1.out.bel HR.out
      have HX1 := HK2.out.bel HR.out
      have lt0 := HX0.lt
      have lt1 := HX1.lt
      have r5 := HX0.cell 5
      have r0 := HX1.cell 0
      have r1 := HX1.cell 1
      simp only [List.getElem?_toArray, List.getElem?_cons_zero, List.getElem?_cons_succ] at r0 r1 r5
      obtain ⟨sad, e, sl, hc⟩ := (HS.out.bel (HW1.out.tr HR.out)).2 (by omega)
      subst e
      have c1 := hc i hlt
      obtain ⟨bad, e, bl, hd⟩ := (HB.out.bel (HW1.out.tr HR.out)).2 (by omega)
      subst e
      have d1 := hd i hlt
      obtain ⟨b0, b4, s0, s1⟩ := HV.out i hlt
      have hla := HLA.out i hlt
      obtain ⟨s, hs⟩ : ∃ x, S.getD i 0 = x := ⟨_, rfl⟩
      obtain ⟨y, hy⟩ : ∃ x, B.getD i 0 = x := ⟨_, rfl⟩
      rw [hs] at c1 s0 s1 hla
      rw [hy] at d1 b0 b4 s1 hla
      have HQ1 : Hid (i + 1 ≤ 1000000) := (by omega : _ ≤ _)
      have HTN : Hid (L.take (i + 1) = L.take i ++ [L.getD i (0, 0)]) := by
        show _ = _
        rw [List.take_add_one, List.getElem?_eq_getElem (by rw [HLL.out]; exact hlt), List.getD_eq_getElem?_getD, List.getElem?_eq_getElem (by rw [HLL.out]; exact hlt)]; rfl
      have ii : (i : Int) < (n : Int) := by omega
      have ip0 : (0 : Int) ≤ (i : Int) := by omega
      clear hc hd hs hy HX0 HX1
      obtain ⟨F, hF⟩ : ∃ F, fst s y.toNat = F := ⟨_, rfl⟩
      obtain ⟨T, hT⟩ : ∃ T, lst s y.toNat = T := ⟨_, rfl⟩
      rw [hF, hT] at hla
      obtain ⟨lo, hlo⟩ : ∃ z, (L.getD i (0, 0)).1 = z := ⟨_, rfl⟩
      obtain ⟨hi', hhi⟩ : ∃ z, (L.getD i (0, 0)).2 = z := ⟨_, rfl⟩
      have hlh : (lo, hi') = ivl C F T := by rw [← hlo, ← hhi, ← hla]
      have HTN2 : Hid (L.take (i + 1) = L.take i ++ [(lo, hi')]) := by show _ = _; rw [HTN.out, ← hlo, ← hhi]
      have hd4 : ∃ d P : Nat, d ≤ 4 ∧ (4 : Int) - y = (d : Int) ∧ Hid (s * 2 ^ d = (F : Int)) ∧ Hid ((2 : Int) ^ d = (P : Int)) ∧ F + P = T + 1 ∧ P ≤ 16 ∧ F ≤ 15 ∧ T ≤ 15 := by
        refine ⟨4 - y.toNat, 2 ^ (4 - y.toNat), by omega, by omega, ?_, (by show (2 : Int) ^ (4 - y.toNat) = ((2 ^ (4 - y.toNat) : Nat) : Int); simp), ?_, ?_, ?_, ?_⟩
        · show s * 2 ^ (4 - y.toNat) = (F : Int)
          rw [← hF]
          obtain ⟨s', rfl⟩ := Int.eq_ofNat_of_zero_le s0
          unfold fst
          simp
        · rw [← hF, ← hT]
          unfold lst
          have : 0 < 2 ^ (4 - y.toNat) := Nat.two_pow_pos _
          omega
        all_goals
          obtain ⟨s', rfl⟩ := Int.eq_ofNat_of_zero_le s0
          (try rw [← hF])
          (try rw [← hT])
          (try unfold lst)
          (try unfold fst)
          rcases (by omega : y = 0 ∨ y = 1 ∨ y = 2 ∨ y = 3 ∨ y = 4) with rfl | rfl | rfl | rfl | rfl
          all_goals (have s1' : (s' : Int) < _ := s1; simp at s1' ⊢; try omega)
      obtain ⟨d, P, d4, hdy, hsF, h2P, hFT, P16, F15, T15⟩ := hd4
      have HLH := Lib.hid hlh
      have HH := Lib.hid (And.intro hdy (And.intro hFT (And.intro d4 (And.intro F15 T15))))
      have HB5 : Hid (y = 0 ∨ y = 1 ∨ y = 2 ∨ y = 3 ∨ y = 4) := (by omega : _ ∨ _)
      clear hF hT hla hlo hhi hlh s0 s1 b0 b4 P16
      have wy : Hid (IntKind.i64.wrap (4 - y) = (d : Int)) := by show _ = _; rw [hdy]; exact IntWalk.i64_in _ (by omega)
      have wy3 : Hid (wrap64 (4 - y) = (d : Int)) := by show _ = _; rw [hdy]; exact IntWalk.wrap64_in _ (by omega)
      have wT : Hid (IntKind.i64.wrap ((F : Int) + (P : Int)) = (T : Int) + 1) := by show _ = _; rw [show (F : Int) + (P : Int) = (T : Int) + 1 by omega]; exact IntWalk.i64_in _ (by omega)
      have wT3 : Hid (wrap64 ((F : Int) + (P : Int)) = (T : Int) + 1) := by show _ = _; rw [show (F : Int) + (P : Int) = (T : Int) + 1 by omega]; exact IntWalk.wrap64_in _ (by omega)
      have wT4 : Hid (IntKind.i64.wrap (T : Int) = (T : Int)) := IntWalk.i64_in _ (by omega)
      have wT5 : Hid (wrap64 (T : Int) = (T : Int)) := IntWalk.wrap64_in _ (by omega)
      have hFi : (F : Int) ≤ 15 := by omega
      have hTi : (T : Int) ≤ 15 := by omega
      have d64 : (d : Int) < 64 := by omega
      have d0 : ¬ (d : Int) < 0 := by omega
      have wF : Hid (IntKind.i64.wrap (s * 2 ^ d) = (F : Int)) := by show _ = _; rw [hsF.out]; exact IntWalk.i64_in _ (by omega)
      have wF3 : Hid (wrap64 (s * 2 ^ d) = (F : Int)) := by show _ = _; rw [hsF.out]; exact IntWalk.wrap64_in _ (by omega)
      have wP : Hid (IntKind.i64.wrap (2 ^ d) = (P : Int)) := by show _ = _; rw [h2P.out]; exact IntWalk.i64_in _ (by omega)
      have wP3 : Hid (wrap64 (2 ^ d) = (P : Int)) := by show _ = _; rw [h2P.out]; exact IntWalk.wrap64_in _ (by omega)
      go_upto_region 7 with fail
      have wF' := wF.out
      have wy' := wy.out
      go_quiet (fail)
      clear wF' wy' wF wF3 wP wP3 wT wT3 wT4 wT5 wy wy3 hsF d64 d0 c1 r0
      go_upto_region 8 with fail
      go_cut [9] from 20 to 82 (fun s9 wx => ∃ V : World, V = wx ∧ s9 = .int .i64 (T : Int) ∧ Bel wr V)
      case first =>
        have hb5 := HB5.out
        rcases hb5 with rfl | rfl | rfl | rfl | rfl
        · obtain rfl : d = 4 := by omega
          have hP : P = 16 := by have := h2P.out; omega
          subst hP
          have hT2 : (F : Int) + 16 - 1 = (T : Int) := by omega
          clear hFT hdy
          go_wp2_with fail
          go_meet
          case rel => exact ⟨_, rfl, by first | rfl | (congr 1; done) | (rw [hT2]) | go_num, (by repeat (first | exact Bel.rf | (with_reducible refine Bel.drwN ?_ _) | (with_reducible refine Bel.drw ?_) | (with_reducible refine Bel.al ?_ _)))⟩
        · obtain rfl : d = 3 := by omega
          have hP : P = 8 := by have := h2P.out; omega
          subst hP
          have hT2 : (F : Int) + 8 - 1 = (T : Int) := by omega
          clear hFT hdy
          go_wp2_with fail
          go_meet
          case rel => exact ⟨_, rfl, by first | rfl | (congr 1; done) | (rw [hT2]) | go_num, (by repeat (first | exact Bel.rf | (with_reducible refine Bel.drwN ?_ _) | (with_reducible refine Bel.drw ?_) | (with_reducible refine Bel.al ?_ _)))⟩
        · obtain rfl : d = 2 := by omega
          have hP : P = 4 := by have := h2P.out; omega
          subst hP
          have hT2 : (F : Int) + 4 - 1 = (T : Int) := by omega
          clear hFT hdy
          go_wp2_with fail
          go_meet
          case rel => exact ⟨_, rfl, by first | rfl | (congr 1; done) | (rw [hT2]) | go_num, (by repeat (first | exact Bel.rf | (with_reducible refine Bel.drwN ?_ _) | (with_reducible refine Bel.drw ?_) | (with_reducible refine Bel.al ?_ _)))⟩
        · obtain rfl : d = 1 := by omega
          have hP : P = 2 := by have := h2P.out; omega
          subst hP
          have hT2 : (F : Int) + 2 - 1 = (T : Int) := by omega
          clear hFT hdy
          go_wp2_with fail
          go_meet
          case rel => exact ⟨_, rfl, by first | rfl | (congr 1; done) | (rw [hT2]) | go_num, (by repeat (first | exact Bel.rf | (with_reducible refine Bel.drwN ?_ _) | (with_reducible refine Bel.drw ?_) | (with_reducible refine Bel.al ?_ _)))⟩
        · obtain rfl : d = 0 := by omega
          have hP : P = 1 := by have := h2P.out; omega
          subst hP
          have hT2 : (F : Int) + 1 - 1 = (T : Int) := by omega
          clear hFT hdy
          go_wp2_with fail
          go_meet
          case rel => exact ⟨_, rfl, by first | rfl | (congr 1; done) | (rw [hT2]) | go_num, (by repeat (first | exact Bel.rf | (with_reducible refine Bel.drwN ?_ _) | (with_reducible refine Bel.drw ?_) | (with_reducible refine Bel.al ?_ _)))⟩
      case rest =>
      obtain ⟨wv, hwv, rfl, hbv⟩ := hcut
      subst hwv
      have HBV := Lib.hid hbv
      have HR := Lib.hid (HR.out.tr hbv)
      have HZ := Lib.hid (own_bel HZ.out hbv)
      have hsz := Nat.le_trans hsz hbv.size
      have lt0 := Nat.lt_of_lt_of_le lt0 hbv.size
      have r5 := hbv.kp r5
      clear hbv d1 r1 sl bl h2P lt1
      have HHT := Lib.hid HH.out
      rcases (by omega : (F = 0 ∧ T < nc) ∨ (F = 0 ∧ ¬ T < nc) ∨ (0 < F ∧ F ≤ nc ∧ T < nc) ∨ (0 < F ∧ F ≤ nc ∧ ¬ T < nc) ∨ nc < F) with ⟨f0, tn⟩ | ⟨f0, tn⟩ | ⟨f0, fn, tn⟩ | ⟨f0, fn, tn⟩ | fn
      · subst f0
        obtain ⟨ad, e, al, hc⟩ := (HZC.out.bel (HW1.out.tr HR.out)).2 (by omega)
        subst e
        have e2 := hc T tn
        obtain ⟨z2, hz2⟩ : ∃ z, C.getD T 0 = z := ⟨_, rfl⟩
        have hzb2 := HCB.out T tn
        rw [hz2] at e2 hzb2
        have e2k := fun o => (Bel.rf.al o).kp e2
        have w9 : IntKind.i64.wrap (z2 - 1) = z2 - 1 := IntWalk.i64_in _ (by omega)
        have hv : (lo, hi') = ((-1099511627776), (z2 - 1)) := by rw [HLH.out]; unfold ivl; rw [if_neg (by rw [HCL.out]; omega), if_neg (by omega), if_pos (by rw [HCL.out]; omega)]; rw [hz2]
        have hTK : L.take (i + 1) = L.take i ++ [((-1099511627776), (z2 - 1))] := by rw [HTN2.out, hv]
        have HTK := Lib.hid hTK
        clear hv hTK
        have dt1 : decide (T < nc) = true := decide_eq_true tn
        have dt2 : (T : Int) < (nc : Int) := by omega
        have dt3 : (0 : Int) ≤ (T : Int) := by omega
        clear HH HHT
        go_wp2_with (at_builtin; refine Sk.list_appg _ rfl _ _ 62 98 (.agg #[.int .i64 0, .int .i64 0]) 2 16 Try.underlying62 Sk.info_ivl rfl (by decide) rfl w1.heap.size u6 i (rs (L.take i)) rfl (own_bel HZ.out (by repeat (first | exact Bel.rf | (with_reducible refine Bel.drwN ?_ _) | (with_reducible refine Bel.drw ?_) | (with_reducible refine Bel.al ?_ _)))) ⟨wv.heap.size + 1, 0, none⟩ 1 1 [.int .i64 (-1099511627776), .int .i64 (z2 - 1)] rfl rfl (World.news_of_block (cs := #[.int .i64 (-1099511627776), .int .i64 (z2 - 1)]) (t := 98) (fr := (0, 0)) ((by first | exact Bk.nw _ _ _ | exact Bk.nq _ _ _ (by simp)) : Bk _ (wv.heap.size + 1) 98 #[.int .i64 (-1099511627776), .int .i64 (z2 - 1)])) (by simp [Value.oneCell']) HQ1.out (by decide) (by have := hsz; simp; omega) ?_; intro v7 x7 h7 hg7 ha7; have HR4 : Hid (x7.ownsRow w1.heap.size 98 2 v7 (i + 1) (rs (L.take i ++ [((-1099511627776), (z2 - 1))])) ∧ Bel w1 x7) := ⟨by rw [Sk.rs_snoc]; exact h7, Nr.bel_grown ((by repeat (first | exact HR.out | (with_reducible refine Bel.drwN ?_ _) | (with_reducible refine Bel.drw ?_) | (with_reducible refine Bel.al ?_ _)))) hg7 (Nr.own_base HZ.out)⟩; clear h7 hg7 ha7)
        go_roundw
        case rel => exact ⟨i + 1, _, _, rfl, rfl, by omega, by go_num, by rw [HTK.out]; exact HR4.out.1, HR4.out.2⟩
        case measure => simp [intOf]; omega
      · subst f0
        have hv : (lo, hi') = ((-1099511627776), 1099511627776) := by rw [HLH.out]; unfold ivl; rw [if_neg (by rw [HCL.out]; omega), if_neg (by omega), if_neg (by rw [HCL.out]; omega)]
        have hTK : L.take (i + 1) = L.take i ++ [((-1099511627776), 1099511627776)] := by rw [HTN2.out, hv]
        have HTK := Lib.hid hTK
        clear hv hTK
        have dt1 : decide (T < nc) = false := decide_eq_false tn
        clear HH HHT
        go_wp2_with (at_builtin; refine Sk.list_appg _ rfl _ _ 62 98 (.agg #[.int .i64 0, .int .i64 0]) 2 16 Try.underlying62 Sk.info_ivl rfl (by decide) rfl w1.heap.size u6 i (rs (L.take i)) rfl (own_bel HZ.out (by repeat (first | exact Bel.rf | (with_reducible refine Bel.drwN ?_ _) | (with_reducible refine Bel.drw ?_) | (with_reducible refine Bel.al ?_ _)))) ⟨wv.heap.size + 1, 0, none⟩ 1 1 [.int .i64 (-1099511627776), .int .i64 1099511627776] rfl rfl (World.news_of_block (cs := #[.int .i64 (-1099511627776), .int .i64 1099511627776]) (t := 98) (fr := (0, 0)) ((by first | exact Bk.nw _ _ _ | exact Bk.nq _ _ _ (by simp)) : Bk _ (wv.heap.size + 1) 98 #[.int .i64 (-1099511627776), .int .i64 1099511627776])) (by simp [Value.oneCell']) HQ1.out (by decide) (by have := hsz; simp; omega) ?_; intro v7 x7 h7 hg7 ha7; have HR4 : Hid (x7.ownsRow w1.heap.size 98 2 v7 (i + 1) (rs (L.take i ++ [((-1099511627776), 1099511627776)])) ∧ Bel w1 x7) := ⟨by rw [Sk.rs_snoc]; exact h7, Nr.bel_grown ((by repeat (first | exact HR.out | (with_reducible refine Bel.drwN ?_ _) | (with_reducible refine Bel.drw ?_) | (with_reducible refine Bel.al ?_ _)))) hg7 (Nr.own_base HZ.out)⟩; clear h7 hg7 ha7)
        go_roundw
        case rel => exact ⟨i + 1, _, _, rfl, rfl, by omega, by go_num, by rw [HTK.out]; exact HR4.out.1, HR4.out.2⟩
        case measure => simp [intOf]; omega
      · obtain ⟨q, hq⟩ : ∃ q, F = q + 1 := ⟨F - 1, by omega⟩
        subst hq
        obtain ⟨ad, e, al, hc⟩ := (HZC.out.bel (HW1.out.tr HR.out)).2 (by omega)
        subst e
        have e1 := hc q (by omega)
        obtain ⟨z, hz⟩ : ∃ z, C.getD q 0 = z := ⟨_, rfl⟩
        have hzb := HCB.out q (by omega)
        rw [hz] at e1 hzb
        have e1k := fun o => (Bel.rf.al o).kp e1
        have e2 := hc T tn
        obtain ⟨z2, hz2⟩ : ∃ z, C.getD T 0 = z := ⟨_, rfl⟩
        have hzb2 := HCB.out T tn
        rw [hz2] at e2 hzb2
        have e2k := fun o => (Bel.rf.al o).kp e2
        have w9 : IntKind.i64.wrap (z2 - 1) = z2 - 1 := IntWalk.i64_in _ (by omega)
        have hv : (lo, hi') = (z, (z2 - 1)) := by rw [HLH.out]; unfold ivl; rw [if_neg (by rw [HCL.out]; omega), if_pos (by omega), if_pos (by rw [HCL.out]; omega)]; rw [show q + 1 - 1 = q from rfl, hz, hz2]
        have hTK : L.take (i + 1) = L.take i ++ [(z, (z2 - 1))] := by rw [HTN2.out, hv]
        have HTK := Lib.hid hTK
        clear hv hTK
        have df0 : decide ((0 : Int) < (q : Int) + 1) = true := decide_eq_true (by omega)
        have df1 : decide ((q : Int) + 1 > 0) = true := decide_eq_true (by omega)
        have dq : (q : Int) + 1 - 1 = (q : Int) := by omega
        have wq1 : IntKind.i64.wrap ((q : Int) + 1) = (q : Int) + 1 := IntWalk.i64_in _ (by omega)
        have wq2 : IntKind.i64.wrap (q : Int) = (q : Int) := IntWalk.i64_in _ (by omega)
        have dfn : decide ((q : Int) + 1 ≤ (nc : Int)) = true := decide_eq_true (by omega)
        have dfn2 : decide (q + 1 ≤ nc) = true := decide_eq_true (by omega)
        have dfn3 : ¬ nc < q + 1 := by omega
        have dfn4 : decide (nc < q + 1) = false := decide_eq_false (by omega)
        have dfn5 : decide ((nc : Int) < (q : Int) + 1) = false := decide_eq_false (by omega)
        have qn : (q : Int) < (nc : Int) := by omega
        have q0 : (0 : Int) ≤ (q : Int) := by omega
        have dt1 : decide (T < nc) = true := decide_eq_true tn
        have dt2 : (T : Int) < (nc : Int) := by omega
        have dt3 : (0 : Int) ≤ (T : Int) := by omega
        clear HH HHT
        go_wp2_with (at_builtin; refine Sk.list_appg _ rfl _ _ 62 98 (.agg #[.int .i64 0, .int .i64 0]) 2 16 Try.underlying62 Sk.info_ivl rfl (by decide) rfl w1.heap.size u6 i (rs (L.take i)) rfl (own_bel HZ.out (by repeat (first | exact Bel.rf | (with_reducible refine Bel.drwN ?_ _) | (with_reducible refine Bel.drw ?_) | (with_reducible refine Bel.al ?_ _)))) ⟨wv.heap.size + 1, 0, none⟩ 1 1 [.int .i64 z, .int .i64 (z2 - 1)] rfl rfl (World.news_of_block (cs := #[.int .i64 z, .int .i64 (z2 - 1)]) (t := 98) (fr := (0, 0)) ((by first | exact Bk.nw _ _ _ | exact Bk.nq _ _ _ (by simp)) : Bk _ (wv.heap.size + 1) 98 #[.int .i64 z, .int .i64 (z2 - 1)])) (by simp [Value.oneCell']) HQ1.out (by decide) (by have := hsz; simp; omega) ?_; intro v7 x7 h7 hg7 ha7; have HR4 : Hid (x7.ownsRow w1.heap.size 98 2 v7 (i + 1) (rs (L.take i ++ [(z, (z2 - 1))])) ∧ Bel w1 x7) := ⟨by rw [Sk.rs_snoc]; exact h7, Nr.bel_grown ((by repeat (first | exact HR.out | (with_reducible refine Bel.drwN ?_ _) | (with_reducible refine Bel.drw ?_) | (with_reducible refine Bel.al ?_ _)))) hg7 (Nr.own_base HZ.out)⟩; clear h7 hg7 ha7)
        go_roundw
        case rel => exact ⟨i + 1, _, _, rfl, rfl, by omega, by go_num, by rw [HTK.out]; exact HR4.out.1, HR4.out.2⟩
        case measure => simp [intOf]; omega
      · obtain ⟨q, hq⟩ : ∃ q, F = q + 1 := ⟨F - 1, by omega⟩
        subst hq
        obtain ⟨ad, e, al, hc⟩ := (HZC.out.bel (HW1.out.tr HR.out)).2 (by omega)
        subst e
        have e1 := hc q (by omega)
        obtain ⟨z, hz⟩ : ∃ z, C.getD q 0 = z := ⟨_, rfl⟩
        have hzb := HCB.out q (by omega)
        rw [hz] at e1 hzb
        have e1k := fun o => (Bel.rf.al o).kp e1
        have hv : (lo, hi') = (z, 1099511627776) := by rw [HLH.out]; unfold ivl; rw [if_neg (by rw [HCL.out]; omega), if_pos (by omega), if_neg (by rw [HCL.out]; omega)]; rw [show q + 1 - 1 = q from rfl, hz]
        have hTK : L.take (i + 1) = L.take i ++ [(z, 1099511627776)] := by rw [HTN2.out, hv]
        have HTK := Lib.hid hTK
        clear hv hTK
        have df0 : decide ((0 : Int) < (q : Int) + 1) = true := decide_eq_true (by omega)
        have df1 : decide ((q : Int) + 1 > 0) = true := decide_eq_true (by omega)
        have dq : (q : Int) + 1 - 1 = (q : Int) := by omega
        have wq1 : IntKind.i64.wrap ((q : Int) + 1) = (q : Int) + 1 := IntWalk.i64_in _ (by omega)
        have wq2 : IntKind.i64.wrap (q : Int) = (q : Int) := IntWalk.i64_in _ (by omega)
        have dfn : decide ((q : Int) + 1 ≤ (nc : Int)) = true := decide_eq_true (by omega)
        have dfn2 : decide (q + 1 ≤ nc) = true := decide_eq_true (by omega)
        have dfn3 : ¬ nc < q + 1 := by omega
        have dfn4 : decide (nc < q + 1) = false := decide_eq_false (by omega)
        have dfn5 : decide ((nc : Int) < (q : Int) + 1) = false := decide_eq_false (by omega)
        have qn : (q : Int) < (nc : Int) := by omega
        have q0 : (0 : Int) ≤ (q : Int) := by omega
        have dt1 : decide (T < nc) = false := decide_eq_false tn
        clear HH HHT
        go_wp2_with (at_builtin; refine Sk.list_appg _ rfl _ _ 62 98 (.agg #[.int .i64 0, .int .i64 0]) 2 16 Try.underlying62 Sk.info_ivl rfl (by decide) rfl w1.heap.size u6 i (rs (L.take i)) rfl (own_bel HZ.out (by repeat (first | exact Bel.rf | (with_reducible refine Bel.drwN ?_ _) | (with_reducible refine Bel.drw ?_) | (with_reducible refine Bel.al ?_ _)))) ⟨wv.heap.size + 1, 0, none⟩ 1 1 [.int .i64 z, .int .i64 1099511627776] rfl rfl (World.news_of_block (cs := #[.int .i64 z, .int .i64 1099511627776]) (t := 98) (fr := (0, 0)) ((by first | exact Bk.nw _ _ _ | exact Bk.nq _ _ _ (by simp)) : Bk _ (wv.heap.size + 1) 98 #[.int .i64 z, .int .i64 1099511627776])) (by simp [Value.oneCell']) HQ1.out (by decide) (by have := hsz; simp; omega) ?_; intro v7 x7 h7 hg7 ha7; have HR4 : Hid (x7.ownsRow w1.heap.size 98 2 v7 (i + 1) (rs (L.take i ++ [(z, 1099511627776)])) ∧ Bel w1 x7) := ⟨by rw [Sk.rs_snoc]; exact h7, Nr.bel_grown ((by repeat (first | exact HR.out | (with_reducible refine Bel.drwN ?_ _) | (with_reducible refine Bel.drw ?_) | (with_reducible refine Bel.al ?_ _)))) hg7 (Nr.own_base HZ.out)⟩; clear h7 hg7 ha7)
        go_roundw
        case rel => exact ⟨i + 1, _, _, rfl, rfl, by omega, by go_num, by rw [HTK.out]; exact HR4.out.1, HR4.out.2⟩
        case measure => simp [intOf]; omega
      · obtain ⟨q, hq⟩ : ∃ q, F = q + 1 := ⟨F - 1, by omega⟩
        subst hq
        have tn : ¬ T < nc := by have := HHT.out; omega
        have hv : (lo, hi') = (1, 0) := by rw [HLH.out]; unfold ivl; rw [if_pos (by rw [HCL.out]; omega)]
        have hTK : L.take (i + 1) = L.take i ++ [(1, 0)] := by rw [HTN2.out, hv]
        have HTK := Lib.hid hTK
        clear hv hTK
        have df0 : decide ((0 : Int) < (q : Int) + 1) = true := decide_eq_true (by omega)
        have df1 : decide ((q : Int) + 1 > 0) = true := decide_eq_true (by omega)
        have dq : (q : Int) + 1 - 1 = (q : Int) := by omega
        have wq1 : IntKind.i64.wrap ((q : Int) + 1) = (q : Int) + 1 := IntWalk.i64_in _ (by omega)
        have wq2 : IntKind.i64.wrap (q : Int) = (q : Int) := IntWalk.i64_in _ (by omega)
        have dfn : decide ((q : Int) + 1 ≤ (nc : Int)) = false := decide_eq_false (by omega)
        have dfn2 : decide (q + 1 ≤ nc) = false := decide_eq_false (by omega)
        have dfn4 : decide (nc < q + 1) = true := decide_eq_true (by omega)
        have dfn5 : decide ((nc : Int) < (q : Int) + 1) = true := decide_eq_true (by omega)
        have dt1 : decide (T < nc) = false := decide_eq_false tn
        clear HH HHT
        go_wp2_with (at_builtin; refine Sk.list_appg _ rfl _ _ 62 98 (.agg #[.int .i64 0, .int .i64 0]) 2 16 Try.underlying62 Sk.info_ivl rfl (by decide) rfl w1.heap.size u6 i (rs (L.take i)) rfl (own_bel HZ.out (by repeat (first | exact Bel.rf | (with_reducible refine Bel.drwN ?_ _) | (with_reducible refine Bel.drw ?_) | (with_reducible refine Bel.al ?_ _)))) ⟨wv.heap.size + 1, 0, none⟩ 1 1 [.int .i64 1, .int .i64 0] rfl rfl (World.news_of_block (cs := #[.int .i64 1, .int .i64 0]) (t := 98) (fr := (0, 0)) ((by first | exact Bk.nw _ _ _ | exact Bk.nq _ _ _ (by simp)) : Bk _ (wv.heap.size + 1) 98 #[.int .i64 1, .int .i64 0])) (by simp [Value.oneCell']) HQ1.out (by decide) (by have := hsz; simp; omega) ?_; intro v7 x7 h7 hg7 ha7; have HR4 : Hid (x7.ownsRow w1.heap.size 98 2 v7 (i + 1) (rs (L.take i ++ [(1, 0)])) ∧ Bel w1 x7) := ⟨by rw [Sk.rs_snoc]; exact h7, Nr.bel_grown ((by repeat (first | exact HR.out | (with_reducible refine Bel.drwN ?_ _) | (with_reducible refine Bel.drw ?_) | (with_reducible refine Bel.al ?_ _)))) hg7 (Nr.own_base HZ.out)⟩; clear h7 hg7 ha7)
        go_roundw
        case rel => exact ⟨i + 1, _, _, rfl, rfl, by omega, by go_num, by rw [HTK.out]; exact HR4.out.1, HR4.out.2⟩
        case measure => simp [intOf]; omega
    · obtain rfl : i = n := by omega
      have hz := HZ.out
      rw [List.take_of_length_le (by rw [HLL.out]; omega)] at hz
      obtain ⟨h, c', rfl, hbase⟩ := own_ivl hz (by omega)
      have ZF := Lib.hid (Sk.row_zv hz HLL.out)
      have HG := Lib.hid (Nat.le_trans HW1.out.size hbase)
      clear hz hbase
      go_wp2
      go_ret2
      exact ⟨h, c', rfl, ZF.out.bel (by repeat (first | exact Bel.rf | (with_reducible refine Bel.drwN ?_ _) | (with_reducible refine Bel.drw ?_) | (with_reducible refine Bel.al ?_ _))), HG.out, (by repeat (first | exact HW1.out.tr HR.out | (with_reducible refine Bel.drwN ?_ _) | (with_reducible refine Bel.drw ?_) | (with_reducible refine Bel.al ?_ _)))⟩
end Go.Proofs.Ytmgdoglnckkobaa.Wd
