/- The contracts of the reference of layer 18: Starts, Fold, differences, Squares and Lower. -/
import Derived.Test.YtkonknkoggfeaaaEnv3
import Derived.Test.YtkonknkoggfeaaaRefMke
import Derived.Test.YtkonknkoggfeaaaAppW
namespace Go.Proofs.Ytkonknkoggfeaaa.R18
open Go.ChangeShapes Go.WideShapes Go.RowKit Wo Sr Wi Eu Pc Ra Ev
set_option linter.unusedVariables false
theorem grow_bel {w wr w5 : World} {u : Value} {base k : Nat} {xs : List Value} {L : List Int} (hb : Bel w wr) (hown : wr.ownsRow base 3 1 u k (zs L)) (hw : w.heap.size ≤ base) (o : Obj) (hg : (wr.alloc o).grownBy w5 u.ownBlock) : Bel w w5 :=
  Below.grown (hb.al o) hg (hb.al o).size (fun q e => by have := (hown.lt q e).1; omega)
set_option maxHeartbeats 2000000 in
set_option maxRecDepth 100000 in
theorem starts_ok (m n : Nat) (m1 : 2 ≤ m) (m2 : m ≤ 32) (n1 : 1 ≤ n) (n8 : n ≤ 8) (nm : n ≤ m) (w : World) :
    Calls Try.prog 36 #[.int .i64 (m : Int), .int .i64 (n : Int)] w fun e w' => ∃ h c, e = .returned (.tuple #[.slice (some ⟨h, 0, none⟩) (n + 1) c, .int .i64 0]) ∧ w'.ownsRow w.heap.size 3 1 (.slice (some ⟨h, 0, none⟩) (n + 1) c) (n + 1) (zs (sts m n)) ∧ Bel w w' := by
  obtain ⟨i0, hi0, hz0, hz1, hz2⟩ := info_parts info_int
  have HI := Lib.hid (And.intro hi0 (And.intro hz0 (And.intro hz1 hz2)))
  clear hi0 hz0 hz1 hz2
  have a1 : 2 ≤ (m : Int) := by omega
  have a2 : (m : Int) ≤ 32 := by omega
  have a3 : 1 ≤ (n : Int) := by omega
  have a4 : (n : Int) ≤ 8 := by omega
  have a5 : (n : Int) ≤ (m : Int) := by omega
  have a6 : ¬ m < n := by omega
  have a7 : decide (m < n) = false := by simpa using nm
  go_enter Try.func36, Try.ntmps36
  go_wp2
  go_loopw [6, 7] (fun s6 s7 wr => ∃ (t : Nat) (V : World) (u : Value), V = wr ∧ u = s6 ∧ t ≤ n + 1 ∧ s7 = .int .i64 (t : Int) ∧ wr.ownsRow w.heap.size 3 1 s6 t (zs ((sts m n).take t)) ∧ Bel w wr) (fun _ s7 _ => n + 1 - (intOf s7).toNat)
  case atStart => exact ⟨0, _, _, rfl, rfl, by omega, rfl, World.ownsRow_nil _ _ _ _, Bel.rf⟩
  case round =>
    obtain ⟨t, wr, u6, hwr, hu, ht, rfl, hz, hb⟩ := hrel
    subst hwr hu
    have HZ := Lib.hid hz
    have HB := Lib.hid hb
    have hsz := hb.size
    clear hz hb
    rcases Nat.lt_or_ge n t with hlt | hge
    · obtain rfl : t = n + 1 := by omega
      have d1 : ¬ ((n + 1 : Nat) : Int) ≤ (n : Int) := by omega
      have d2 : ¬ (n : Int) + 1 ≤ (n : Int) := by omega
      have hz := HZ.out
      rw [List.take_of_length_le (by rw [sts_len]; exact Nat.le_refl _)] at hz
      obtain ⟨h, c, rfl, hc, hh⟩ := row_form hz (by omega)
      have HZ2 := Lib.hid hz
      clear hz
      go_wp2
      go_ret2
      exact ⟨h, c, rfl, HZ2.out, HB.out⟩
    · have ti : (t : Int) ≤ (n : Int) := by omega
      have hst := sts_at m n t (by omega) hge
      have hbd := st_le m n t (by omega) hge
      obtain ⟨K, hK⟩ : ∃ K : Nat, t * m = K := ⟨_, rfl⟩
      have hKi : (t : Int) * (m : Int) = (K : Int) := by rw [← hK, Int.natCast_mul]
      obtain ⟨s, hs⟩ : ∃ s : Nat, st m n t = s := ⟨_, rfl⟩
      have hs2 : K / n = s := by rw [← hs, ← hK]; rfl
      have hd : (K : Int).tdiv (n : Int) = (s : Int) := by rw [Int.tdiv_eq_ediv_of_nonneg (by omega), ← Int.natCast_ediv, hs2]
      have hK2 : K ≤ 8 * 32 := by rw [← hK]; exact Nat.mul_le_mul (by omega) m2
      have hKb : (K : Int) ≤ 256 := by omega
      have n0 : ¬ (n : Int) = 0 := by omega
      have n00 : ¬ n = 0 := by omega
      have sb : (s : Int) ≤ 32 := by omega
      have wK : IntKind.i64.wrap (K : Int) = (K : Int) := IntWalk.i64_in _ (by omega)
      have wK2 : wrap64 (K : Int) = (K : Int) := IntWalk.wrap64_in _ (by omega)
      have ws : IntKind.i64.wrap (s : Int) = (s : Int) := IntWalk.i64_in _ (by omega)
      have ws2 : wrap64 (s : Int) = (s : Int) := IntWalk.wrap64_in _ (by omega)
      have HN : Hid ((sts m n).take (t + 1) = (sts m n).take t ++ [(s : Int)]) := by show _ = _; rw [take_snoc _ t (by rw [sts_len]; omega), hst, hs]
      clear hst hbd hK hs hs2 hK2
      go_wp2_with (at_builtin; refine wpList_append_lies _ (by rfl) _ _ 22 (by rfl) w.heap.size 3 i0 _ 1 8 Try.underlying22 HI.out.1 HI.out.2.1 HI.out.2.2.1 HI.out.2.2.2 (by rfl) (by omega) u6 t (zs ((sts m n).take t)) (by rfl) (HZ.out.alloc _) ⟨wr.heap.size, 0, none⟩ 1 1 [.int .i64 (s : Int)] (by rfl) (by rfl) (World.news_of_block (cs := #[.int .i64 (s : Int)]) (t := 3) (fr := (0, 0)) (Bk.nw _ _ _)) (by simp [Value.oneCell']) (by omega) (by unfold maxLen; omega) (by omega) (by simp; omega) (wr.heap.size + 1) (by simp) ?_; intro g' cap' w5 hown4 hgrow hat hlt4)
      have hbw := grow_bel (xs := []) HB.out HZ.out (Nat.le_refl _) _ hgrow
      have HR := Lib.hid (And.intro hown4 hbw)
      clear hown4 hgrow hat hbw
      go_wp2
      go_roundw
      case rel => exact ⟨t + 1, _, _, rfl, rfl, by omega, by go_num, by rw [HN.out, zs_app]; exact HR.out.1, HR.out.2⟩
      case measure => simp [intOf]; omega
set_option maxHeartbeats 2000000 in
set_option maxRecDepth 100000 in
theorem fold_ok (hx : Addr) (ha c ca m n : Nat) (X : List Int) (m1 : 2 ≤ m) (m2 : m ≤ 32) (n1 : 1 ≤ n) (n8 : n ≤ 8) (hs : Sam X) (w : World) (h1 : Zi w (some hx) m X) (h2 : Zi w (some ⟨ha, 0, none⟩) (n + 1) (sts m n)) :
    Calls Try.prog 37 #[.slice (some hx) m c, .slice (some ⟨ha, 0, none⟩) (n + 1) ca] w fun e w' => ∃ h c, e = .returned (.slice (some ⟨h, 0, none⟩) n c) ∧ w'.ownsRow w.heap.size 3 1 (.slice (some ⟨h, 0, none⟩) n c) n (zs (pls X m n)) ∧ Bel w w' := by
  obtain ⟨i0, hi0, hz0, hz1, hz2⟩ := info_parts info_int
  have HI := Lib.hid (And.intro hi0 (And.intro hz0 (And.intro hz1 hz2)))
  clear hi0 hz0 hz1 hz2
  have H1 := Lib.hid h1
  have H2 := Lib.hid h2
  have HS := Lib.hid hs
  have HX : Hid (X.length = m) := h1.1
  have a1 : 2 ≤ (m : Int) := by omega
  have a2 : (m : Int) ≤ 32 := by omega
  have a3 : 1 ≤ (n : Int) := by omega
  have a4 : (n : Int) ≤ 8 := by omega
  clear h1 h2 hs
  go_enter Try.func37, Try.ntmps37
  go_wp2
  go_loopw [5, 6] (fun s5 s6 wr => ∃ (t : Nat) (V : World) (u : Value), V = wr ∧ u = s5 ∧ t ≤ n ∧ s6 = .int .i64 ((t : Int) + 1) ∧ wr.ownsRow w.heap.size 3 1 s5 t (zs ((pls X m n).take t)) ∧ Bel w wr) (fun _ s6 _ => n + 1 - (intOf s6).toNat)
  case atStart => exact ⟨0, _, _, rfl, rfl, by omega, rfl, World.ownsRow_nil _ _ _ _, Bel.rf⟩
  case round =>
    obtain ⟨t, wr, u5, hwr, hu, ht, rfl, hz, hb⟩ := hrel
    subst hwr hu
    have HZ := Lib.hid hz
    have HB := Lib.hid hb
    have hsz := hb.size
    clear hz hb
    rcases Nat.lt_or_ge t n with hlt | hge
    · have ti : (t : Int) < (n : Int) := by omega
      obtain ⟨t1, ht1⟩ : ∃ k, t + 1 = k := ⟨_, rfl⟩
      have hti : (t : Int) + 1 = (t1 : Int) := by omega
      have htm : (t1 : Int) - 1 = (t : Int) := by omega
      have ti1 : (t1 : Int) < ((n + 1 : Nat) : Int) := by omega
      have ti2 : (t1 : Int) < (n : Int) + 1 := by omega
      have ti3 : (t : Int) < ((n + 1 : Nat) : Int) := by omega
      have ti4 : (t : Int) < (n : Int) + 1 := by omega
      have c1 := (H2.out.bel HB.out).at t (by omega)
      rw [sts_at m n t (by omega) (by omega)] at c1
      have hm1 := st_mono m n t t1 (by omega)
      have hm2 := st_le m n t1 (by omega) (by omega)
      have hpl := pls_at X m n t hlt
      obtain ⟨p, hp⟩ : ∃ p, st m n t = p := ⟨_, rfl⟩
      obtain ⟨q, hq⟩ : ∃ p, st m n t1 = p := ⟨_, rfl⟩
      rw [ht1, hp, hq, pg_pre X p q (by omega)] at hpl
      rw [hp] at c1 hm1
      rw [hq] at hm1 hm2
      have C2 : Hid (∀ W, Bel wr W → W.cell? ⟨ha, t1, none⟩ = some (.int .i64 (q : Int))) := fun W hW => by
        have := (H2.out.bel (HB.out.tr hW)).at t1 (by omega)
        rwa [sts_at m n t1 (by omega) (by omega), hq] at this
      have HPL := Lib.hid hpl
      rw [hti]
      clear hp hq hpl hti
      go_wp2
      clear c1
      go_loopw [7, 8] (fun s7 s8 wq => ∃ (i : Nat) (V : World), V = wq ∧ p ≤ i ∧ i ≤ q ∧ s8 = .int .i64 (i : Int) ∧ s7 = .int .i64 (pre X i - pre X p) ∧ Bel wr wq) (fun _ s8 _ => q - (intOf s8).toNat)
      case atStart => exact ⟨p, _, rfl, Nat.le_refl _, hm1, rfl, by rw [Int.sub_self], Bel.rf⟩
      case round =>
        obtain ⟨i, wq, hwq, hpi, hiq, rfl, rfl, hbq⟩ := hrel
        subst hwq
        have HBQ := Lib.hid hbq
        have c2 := C2.out _ hbq
        have b1 := su_in (HS.out.take i)
        have b2 := su_in (HS.out.take p)
        have l1 := List.length_take_le i X
        have l2 := List.length_take_le p X
        have e1 : pre X i = su ix (X.take i) := su_ix _
        have e2 : pre X p = su ix (X.take p) := su_ix _
        rw [← e1] at b1
        rw [← e2] at b2
        obtain ⟨s, hs⟩ : ∃ s, pre X i - pre X p = s := ⟨_, rfl⟩
        rw [hs]
        obtain ⟨s0, s1⟩ : -64000 ≤ s ∧ s ≤ 64000 := by omega
        have HSS := Lib.hid hs
        clear b1 b2 l1 l2 e1 e2 hs
        rcases Nat.lt_or_ge i q with hlt2 | hge2
        · have c3 := (H1.out.bel (HB.out.tr hbq)).atg i (by omega)
          have px := HS.out.at i
          have hn := pre_next X i (by rw [HX.out]; omega)
          obtain ⟨x, hx⟩ : ∃ x, X.getD i 0 = x := ⟨_, rfl⟩
          rw [hx] at c3 px hn
          obtain ⟨x0, x1⟩ := px
          have HN : Hid (s + x = pre X (i + 1) - pre X p) := by show _ = _; rw [← HSS.out, hn]; omega
          have qi : (i : Int) < (q : Int) := by omega
          have im : (i : Int) < (m : Int) := by omega
          clear hbq hx hn
          go_wp2
          go_roundw
          case rel => exact ⟨i + 1, _, rfl, by omega, by omega, by go_num, by rw [HN.out], by first | exact HBQ.out | exact HBQ.out.drw | exact HBQ.out.drwN _⟩
          case measure => simp [intOf]; omega
        · obtain rfl : i = q := by omega
          have HZ := Lib.hid (own_bel HZ.out hbq)
          have HBB := Lib.hid (HB.out.tr hbq)
          have hs5 := HBB.out.size
          have HN : Hid ((pls X m n).take (t + 1) = (pls X m n).take t ++ [s]) := by show _ = _; rw [take_snoc _ t (by rw [pls_len]; exact hlt), HPL.out, HSS.out]
          clear hbq
          go_wp2_with (at_builtin; refine wpList_append_lies _ (by rfl) _ _ 22 (by rfl) w.heap.size 3 i0 _ 1 8 Try.underlying22 HI.out.1 HI.out.2.1 HI.out.2.2.1 HI.out.2.2.2 (by rfl) (by omega) u5 t (zs ((pls X m n).take t)) (by rfl) (HZ.out.alloc _) ⟨wq.heap.size, 0, none⟩ 1 1 [.int .i64 s] (by rfl) (by rfl) (World.news_of_block (cs := #[.int .i64 s]) (t := 3) (fr := (0, 0)) (Bk.nw _ _ _)) (by simp [Value.oneCell']) (by omega) (by unfold maxLen; omega) (by omega) (by simp; omega) (wq.heap.size + 1) (by simp) ?_; intro g' cap' w5 hown4 hgrow hat hlt4)
          have hbw := grow_bel (xs := []) HBB.out HZ.out (Nat.le_refl _) _ hgrow
          have HR := Lib.hid (And.intro hown4 hbw)
          clear hown4 hgrow hat hbw
          go_wp2
          go_roundw
          case rel => exact ⟨t + 1, _, _, rfl, rfl, by omega, by congr 1; omega, by rw [HN.out, zs_app]; have h := HR.out.1; simp only [ht1] at h ⊢; exact h, HR.out.2⟩
          case measure => simp [intOf]; omega
    · obtain rfl : t = n := by omega
      have d1 : ¬ (t : Int) + 1 < ((t + 1 : Nat) : Int) := by omega
      have d2 : ¬ (t : Int) + 1 < (t : Int) + 1 := by omega
      have hz := HZ.out
      rw [List.take_of_length_le (by rw [pls_len]; exact Nat.le_refl _)] at hz
      obtain ⟨h, c, rfl, hc, hh⟩ := row_form hz (by omega)
      have HZ2 := Lib.hid hz
      clear hz
      go_wp2
      go_ret
      exact ⟨h, c, rfl, HZ2.out, HB.out⟩
theorem zi_one {W : World} {g : Nat} {x : Int} (hb : Bk W g 3 #[.int .i64 x]) : Zi W (some ⟨g, 0, none⟩) 1 [x] := zi_bk (L := [x]) hb 1 rfl
end Go.Proofs.Ytkonknkoggfeaaa.R18
