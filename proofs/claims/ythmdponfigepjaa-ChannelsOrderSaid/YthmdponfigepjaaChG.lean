/- channels.Greatest of bundles that fit: the greatest gap of the channels. -/
import Derived.Test.YthmdponfigepjaaChEs
import Derived.Test.YthmdponfigepjaaRatioLessP
import Derived.Test.YthmdponfigepjaaNor
namespace Go.Proofs.Ythmdponfigepjaa.Ch
open Go.ChangeShapes Go.WideShapes Go.RowKit Wo Sr Wi Nr Ra Eu
set_option linter.unusedVariables false
/-- the gap of a channel -/
def gp (Ls Ms : Nat → List Int) (c : Nat) : Int × Int := (rN (vr (Ls c)) (vr (Ms c)) (pr (Ls c) (Ms c)), rD (vr (Ls c)) (vr (Ms c)) (pr (Ls c) (Ms c)))
/-- the greater of two ratios, the first if they are equal -/
def mxr (p r : Int × Int) : Int × Int := if p.1 * r.2 < r.1 * p.2 then r else p
/-- the greatest gap of the first channels -/
def gs (Ls Ms : Nat → List Int) : Nat → Int × Int
  | 0 => (0, 1)
  | c + 1 => mxr (gs Ls Ms c) (gp Ls Ms c)
def RP (p : Int × Int) : Prop := RV p.1 p.2
theorem mxr_rv {p r : Int × Int} (hp : RP p) (hr : RP r) : RP (mxr p r) := by unfold mxr; split <;> assumption
theorem gp_rv {Ls Ms : Nat → List Int} {n c : Nat} (n32 : n ≤ 32) (h : Sam (Ls c) ∧ Sam (Ms c) ∧ (Ls c).length = n ∧ (Ms c).length = n) : RP (gp Ls Ms c) :=
  (red_in (vr_le h.1 (by omega)).1 (vr_le h.2.1 (by omega)).1 (vr_le h.1 (by omega)).2 (vr_le h.2.1 (by omega)).2 (pr_cs (by omega))).1
theorem rp_zero : RP (0, 1) := ⟨⟨by decide, by decide, by decide, by decide⟩, gd_one 0⟩
theorem gs_rv {Ls Ms : Nat → List Int} {n : Nat} (n32 : n ≤ 32) : ∀ q, (∀ c, c < q → Sam (Ls c) ∧ Sam (Ms c) ∧ (Ls c).length = n ∧ (Ms c).length = n) → RP (gs Ls Ms q)
  | 0, _ => rp_zero
  | q + 1, h => mxr_rv (gs_rv n32 q (fun c hc => h c (by omega))) (gp_rv n32 (h q (by omega)))
theorem less_ok {p r : Int × Int} (hp : RP p) (hr : RP r) (w : World) :
    Calls Try.prog 48 #[.agg #[.int .i64 p.1, .int .i64 p.2], .agg #[.int .i64 r.1, .int .i64 r.2]] w fun e w' => e = .returned (.bool (decide (p.1 * r.2 < r.1 * p.2))) ∧ Bel w w' :=
  less_as p.1 p.2 r.1 r.2 _ _ rfl (by
    rcases rcmp_three hp hr with ⟨e1, e2⟩ | ⟨e1, e2⟩ | ⟨e1, e2⟩ <;> rw [e1]
    · simp [e2]
    · simp; omega
    · simp; omega) w
theorem mxr_ge (p r : Int × Int) : p.1 * (mxr p r).2 ≤ (mxr p r).1 * p.2 := by
  unfold mxr
  split
  · omega
  · exact Int.le_refl _
theorem cmpI_le {a b : Int} (h : a ≤ b) : cmpI a b ≤ 0 := by
  rcases Int.lt_or_eq_of_le h with h | h
  · rw [cmpI_lt h]; decide
  · rw [cmpI_eq h]; decide
set_option maxHeartbeats 8000000 in
set_option maxRecDepth 100000 in
theorem greatest_ok (g1 g2 q n c1 c2 : Nat) (As Bs : Nat → Option Addr) (cs ds : Nat → Nat) (Ls Ms : Nat → List Int) (q1 : 1 ≤ q) (q4 : q ≤ 4) (n2 : 2 ≤ n) (n32 : n ≤ 32) (w : World) (hX : Bun w g1 q n As cs Ls) (hY : Bun w g2 q n Bs ds Ms) :
    Calls Try.prog 24 #[.slice (some ⟨g1, 0, none⟩) q c1, .slice (some ⟨g2, 0, none⟩) q c2] w fun e w' => e = .returned (.tuple #[.agg #[.int .i64 (gs Ls Ms q).1, .int .i64 (gs Ls Ms q).2], .int .i64 0]) ∧ Bel w w' := by
  have HX := Lib.hid hX
  have HY := Lib.hid hY
  have i4 : (q : Int) ≤ 4 := by omega
  have HQ := Lib.hid (And.intro n2 n32)
  have HG : Hid (∀ t, t ≤ q → RP (gs Ls Ms t)) := fun t ht => gs_rv n32 t (fun c hc => ⟨(hX.2 c (by omega)).2.2, (hY.2 c (by omega)).2.2, (hX.2 c (by omega)).2.1.1, (hY.2 c (by omega)).2.1.1⟩)
  have HP : Hid (∀ t, t < q → RP (gp Ls Ms t)) := fun c hc => gp_rv n32 ⟨(hX.2 c hc).2.2, (hY.2 c hc).2.2, (hX.2 c hc).2.1.1, (hY.2 c hc).2.1.1⟩
  have CK : Hid (∀ W, Bel w W → Calls Try.prog 46 #[.slice (some ⟨g1, 0, none⟩) q c1, .slice (some ⟨g2, 0, none⟩) q c2, .int .i64 0] W fun e w' => e = .returned (.int .i64 0) ∧ Bel W w') := fun W h => check_ok g1 g2 q n n c1 c2 As Bs cs ds Ls Ms 0 q1 q4 n2 n32 n2 n32 (by omega) (by omega) W (hX.bel h) (hY.bel h)
  clear hX hY n2 n32
  go_enter Try.func24, Try.ntmps24
  go_wp2_with fail
  go_at_call 46
  refine (CK.out _ (Bel.rf.al _)).mono ?_
  rintro e w1 ⟨rfl, hb⟩
  have HB1 : Hid (Bel w w1) := (Bel.rf.al _).tr hb
  have HR1 : Hid (Bk w1 w.heap.size 28 #[.int .i64 0, .int .i64 0]) := (Bk.nw _ _ _).bel hb
  have hsz : w.heap.size < w1.heap.size := by have := hb.size; simp only [World.size_alloc] at this; omega
  have HSZ := Lib.hid hsz
  clear hb CK hsz
  go_wp2
  go_loopw [21] (fun s21 wr => ∃ (t : Nat) (V : World), V = wr ∧ t ≤ q ∧ s21 = .int .i64 (t : Int) ∧ Bk wr w.heap.size 28 #[.int .i64 0, .int .i64 0] ∧ Bk wr w1.heap.size 28 #[.int .i64 (gs Ls Ms t).1, .int .i64 (gs Ls Ms t).2] ∧ Bel w wr) (fun s21 _ => q - (intOf s21).toNat)
  case atStart => exact ⟨0, _, rfl, by omega, rfl, HR1.out.al _, Bk.nw _ _ _, HB1.out.al _⟩
  case round =>
    obtain ⟨t, wr, hwr, ht, rfl, hr, hg, hb⟩ := hrel
    subst hwr
    have HB := Lib.hid hb
    have HR := Lib.hid hr
    have HGR := Lib.hid hg
    clear hb hr hg
    rcases Nat.lt_or_ge t q with hlt | hge
    · have ti : (t : Int) < (q : Int) := by omega
      obtain ⟨k1, z1, s1⟩ := (HX.out.bel HB.out).2 t hlt
      obtain ⟨k2, z2, s2⟩ := (HY.out.bel HB.out).2 t hlt
      have DI : Hid (∀ W, Bel wr W → Calls Try.prog 11 #[.slice (As t) n (cs t), .slice (Bs t) n (ds t)] W fun e w' => e = .returned (.tuple #[.agg #[.int .i64 (gp Ls Ms t).1, .int .i64 (gp Ls Ms t).2], .int .i64 0]) ∧ Bel W w') := fun W h =>
        Gap_ok (As t) (Bs t) (cs t) (ds t) n (Ls t) (Ms t) HQ.out.1 HQ.out.2 s1 s2 W (z1.bel h) (z2.bel h)
      have LS : Hid (∀ W, Calls Try.prog 48 #[.agg #[.int .i64 (gs Ls Ms t).1, .int .i64 (gs Ls Ms t).2], .agg #[.int .i64 (gp Ls Ms t).1, .int .i64 (gp Ls Ms t).2]] W fun e w' => e = .returned (.bool (decide ((gs Ls Ms t).1 * (gp Ls Ms t).2 < (gp Ls Ms t).1 * (gs Ls Ms t).2))) ∧ Bel W w') := fun W => less_ok (HG.out t ht) (HP.out t hlt) W
      have HF : Hid (gs Ls Ms (t + 1) = if (gs Ls Ms t).1 * (gp Ls Ms t).2 < (gp Ls Ms t).1 * (gs Ls Ms t).2 then gp Ls Ms t else gs Ls Ms t) := rfl
      obtain ⟨G, hG⟩ : ∃ G, gs Ls Ms t = G := ⟨_, rfl⟩
      obtain ⟨P, hP⟩ : ∃ G, gp Ls Ms t = G := ⟨_, rfl⟩
      rw [hG] at HGR LS HF
      rw [hP] at DI LS HF
      obtain ⟨G1, G2⟩ := G
      obtain ⟨P1, P2⟩ := P
      have KS : Hid (∀ W', Bel wr W' → ((fun w' => w'.cell? ⟨g1, t, none⟩ = some (.slice (As t) n (cs t)) ∧ w'.cell? ⟨g2, t, none⟩ = some (.slice (Bs t) n (ds t))) W')) := fun W' h => ⟨h.kp k1, h.kp k2⟩
      clear k1 k2 z1 z2 s1 s2 hG hP
      go_upto_region 8 with fail
      go_cut [9, 10] (fun s9 s10 wx => ∃ (b : Nat) (W : World), W = wx ∧ s9 = .pointer (some ⟨b, 0, none⟩) ∧ s10 = .int .i64 0 ∧ wr.heap.size ≤ b ∧ Bk wx b 28 #[.int .i64 P1, .int .i64 P2] ∧ Bel wr wx)
      case first =>
        go_region_held3 (fun w' => w'.cell? ⟨g1, t, none⟩ = some (.slice (As t) n (cs t)) ∧ w'.cell? ⟨g2, t, none⟩ = some (.slice (Bs t) n (ds t)))
          (exact KS.out _ (by repeat (first | with_reducible exact Bel.rf | (with_reducible refine Bel.drwN ?_ _) | (with_reducible refine Bel.drw ?_) | (with_reducible refine Bel.al ?_ _) | ((with_reducible refine Bel.st2 ?_ ?_ _); (first | exact Nat.le_refl _ | exact hz4)) | (refine Bel.tr ?_ (by assumption)))))
          ((go_at_call 11; refine (DI.out _ (by repeat (first | with_reducible exact Bel.rf | (with_reducible refine Bel.drwN ?_ _) | (with_reducible refine Bel.drw ?_) | (with_reducible refine Bel.al ?_ _) | (refine Bel.tr ?_ (by assumption))))).mono ?_; rintro r s4 ⟨rfl, h4⟩; have hz4 : wr.heap.size ≤ s4.heap.size := (Bel.tr (by repeat (first | with_reducible exact Bel.rf | (with_reducible refine Bel.drwN ?_ _) | (with_reducible refine Bel.drw ?_) | (with_reducible refine Bel.al ?_ _) | (refine Bel.tr ?_ (by assumption)))) h4).size; first | (have B3 : Bk s4 wr.heap.size 28 #[.int .i64 0, .int .i64 0] := Bk.bel (Bk.nw wr 28 #[.int .i64 0, .int .i64 0]) h4; have q0 : s4.cell? ⟨wr.heap.size, 0, none⟩ = some (.int .i64 0) := B3.cell 0; have q1 : s4.cell? ⟨wr.heap.size, 1, none⟩ = some (.int .i64 0) := B3.cell 1; have q2 := B3.fr 0; have q3 := B3.fr 1; have HB3K := Lib.hid B3; clear B3) | (have B3 : Bk s4 wr.heap.size 28 #[.int .i64 0, .int .i64 0] := Bk.bel (Bk.drw (Bk.nw wr 28 #[.int .i64 0, .int .i64 0])) h4; have q0 : s4.cell? ⟨wr.heap.size, 0, none⟩ = some (.int .i64 0) := B3.cell 0; have q1 : s4.cell? ⟨wr.heap.size, 1, none⟩ = some (.int .i64 0) := B3.cell 1; have q2 := B3.fr 0; have q3 := B3.fr 1; have HB3K := Lib.hid B3; clear B3) | (have B3 : Bk s4 wr.heap.size 28 #[.int .i64 0, .int .i64 0] := Bk.bel (Bk.drwN (Bk.nw wr 28 #[.int .i64 0, .int .i64 0]) _) h4; have q0 : s4.cell? ⟨wr.heap.size, 0, none⟩ = some (.int .i64 0) := B3.cell 0; have q1 : s4.cell? ⟨wr.heap.size, 1, none⟩ = some (.int .i64 0) := B3.cell 1; have q2 := B3.fr 0; have q3 := B3.fr 1; have HB3K := Lib.hid B3; clear B3) | (have B3 : Bk s4 wr.heap.size 28 #[.int .i64 0, .int .i64 0] := Bk.bel (Bk.nw wr.drew 28 #[.int .i64 0, .int .i64 0]) h4; have q0 : s4.cell? ⟨wr.heap.size, 0, none⟩ = some (.int .i64 0) := B3.cell 0; have q1 : s4.cell? ⟨wr.heap.size, 1, none⟩ = some (.int .i64 0) := B3.cell 1; have q2 := B3.fr 0; have q3 := B3.fr 1; have HB3K := Lib.hid B3; clear B3) | (have B3 : Bk s4 wr.heap.size 28 #[.int .i64 0, .int .i64 0] := Bk.bel (Bk.drw (Bk.nw wr.drew 28 #[.int .i64 0, .int .i64 0])) h4; have q0 : s4.cell? ⟨wr.heap.size, 0, none⟩ = some (.int .i64 0) := B3.cell 0; have q1 : s4.cell? ⟨wr.heap.size, 1, none⟩ = some (.int .i64 0) := B3.cell 1; have q2 := B3.fr 0; have q3 := B3.fr 1; have HB3K := Lib.hid B3; clear B3) | (have B3 : Bk s4 wr.heap.size 28 #[.int .i64 0, .int .i64 0] := Bk.bel (Bk.nw (wr.drewN _) 28 #[.int .i64 0, .int .i64 0]) h4; have q0 : s4.cell? ⟨wr.heap.size, 0, none⟩ = some (.int .i64 0) := B3.cell 0; have q1 : s4.cell? ⟨wr.heap.size, 1, none⟩ = some (.int .i64 0) := B3.cell 1; have q2 := B3.fr 0; have q3 := B3.fr 1; have HB3K := Lib.hid B3; clear B3) | (have B3 : Bk s4 wr.heap.size 28 #[.int .i64 0, .int .i64 0] := Bk.bel (Bk.drwN (Bk.nw (wr.drewN _) 28 #[.int .i64 0, .int .i64 0]) _) h4; have q0 : s4.cell? ⟨wr.heap.size, 0, none⟩ = some (.int .i64 0) := B3.cell 0; have q1 : s4.cell? ⟨wr.heap.size, 1, none⟩ = some (.int .i64 0) := B3.cell 1; have q2 := B3.fr 0; have q3 := B3.fr 1; have HB3K := Lib.hid B3; clear B3) | (have B3 : Bk s4 wr.heap.size 28 #[.int .i64 0, .int .i64 0] := Bk.bel (Bk.drw (Bk.nw (wr.drewN _) 28 #[.int .i64 0, .int .i64 0])) h4; have q0 : s4.cell? ⟨wr.heap.size, 0, none⟩ = some (.int .i64 0) := B3.cell 0; have q1 : s4.cell? ⟨wr.heap.size, 1, none⟩ = some (.int .i64 0) := B3.cell 1; have q2 := B3.fr 0; have q3 := B3.fr 1; have HB3K := Lib.hid B3; clear B3) | skip))
        all_goals
          go_wp2_with fail
          go_meet
          first
            | exact ⟨_, _, rfl, rfl, rfl, hz4, (by repeat (first | exact Bk.nw _ _ _ | (with_reducible refine Bk.drwN ?_ _) | (with_reducible refine Bk.drw ?_))), (by repeat (first | with_reducible exact Bel.rf | (with_reducible refine Bel.drwN ?_ _) | (with_reducible refine Bel.drw ?_) | (with_reducible refine Bel.al ?_ _) | ((with_reducible refine Bel.st2 ?_ ?_ _); (first | exact Nat.le_refl _ | exact hz4)) | (refine Bel.tr ?_ (by assumption))))⟩
            | exact ⟨_, _, rfl, rfl, rfl, Nat.le_refl _, (HB3K.out.st 0 _).st 1 _, (by repeat (first | with_reducible exact Bel.rf | (with_reducible refine Bel.drwN ?_ _) | (with_reducible refine Bel.drw ?_) | (with_reducible refine Bel.al ?_ _) | ((with_reducible refine Bel.st2 ?_ ?_ _); (first | exact Nat.le_refl _ | exact hz4)) | (refine Bel.tr ?_ (by assumption))))⟩
            | sorry
      case rest =>
        obtain ⟨b, wx, hwx, rfl, rfl, hge, b5, hbx⟩ := hcut
        subst hwx
        have hGR := HGR.out.bel hbx
        have v0 : wx.cell? ⟨b, 0, none⟩ = some (.int .i64 P1) := b5.cell 0
        have v1 : wx.cell? ⟨b, 1, none⟩ = some (.int .i64 P2) := b5.cell 1
        have v2 : wx.cell? ⟨w1.heap.size, 0, none⟩ = some (.int .i64 G1) := hGR.cell 0
        have v3 : wx.cell? ⟨w1.heap.size, 1, none⟩ = some (.int .i64 G2) := hGR.cell 1
        have HBX := Lib.hid (HB.out.tr hbx)
        have HRX := Lib.hid (HR.out.bel hbx)
        have HGX := Lib.hid hGR
        have HPX := Lib.hid b5
        clear b5 hbx hGR
        go_wp2_with fail
        go_at_call 48
        refine (LS.out _).mono ?_
        rintro e w8 ⟨rfl, h8⟩
        have HB8 := Lib.hid (HBX.out.tr h8)
        have HR8 := Lib.hid (HRX.out.bel h8)
        have HG8 := Lib.hid (HGX.out.bel h8)
        have HP8 := Lib.hid (HPX.out.bel h8)
        clear h8
        rcases Int.lt_or_le (G1 * P2) (P1 * G2) with hl | hl
        · have hd : decide (G1 * P2 < P1 * G2) = true := decide_eq_true hl
          have HN : Hid (gs Ls Ms (t + 1) = (P1, P2)) := HF.out.trans (if_pos hl)
          rw [hd]
          have u0 : w8.cell? ⟨b, 0, none⟩ = some (.int .i64 P1) := HP8.out.cell 0
          have u1 : w8.cell? ⟨b, 1, none⟩ = some (.int .i64 P2) := HP8.out.cell 1
          have u2 : w8.cell? ⟨w1.heap.size, 0, none⟩ = some (.int .i64 G1) := HG8.out.cell 0
          have u3 : w8.cell? ⟨w1.heap.size, 1, none⟩ = some (.int .i64 G2) := HG8.out.cell 1
          have u4 := HG8.out.fr 0
          have u5 := HG8.out.fr 1
          clear hl hd v0 v1 v2 v3
          go_wp2
          go_roundw
          case rel => exact ⟨t + 1, _, rfl, by omega, by go_num, Bk.far (Bk.far HR8.out (by have := HSZ.out; show w.heap.size ≠ w1.heap.size; omega) _) (by have := HSZ.out; show w.heap.size ≠ w1.heap.size; omega) _, by rw [HN.out]; exact (HG8.out.st 0 _).st 1 _, (HB8.out.st (Nat.le_of_lt HSZ.out) _).st (Nat.le_of_lt HSZ.out) _⟩
          case measure => simp [intOf]; omega
        · have hd : decide (G1 * P2 < P1 * G2) = false := decide_eq_false (by omega)
          have HN : Hid (gs Ls Ms (t + 1) = (G1, G2)) := HF.out.trans (if_neg (by omega))
          rw [hd]
          clear hl hd v0 v1 v2 v3
          go_wp2
          go_roundw
          case rel => exact ⟨t + 1, _, rfl, by omega, by go_num, HR8.out, by rw [HN.out]; exact HG8.out, HB8.out⟩
          case measure => simp [intOf]; omega
    · obtain rfl : t = q := by omega
      have u2 : wr.cell? ⟨w1.heap.size, 0, none⟩ = some (.int .i64 (gs Ls Ms t).1) := HGR.out.cell 0
      have u3 : wr.cell? ⟨w1.heap.size, 1, none⟩ = some (.int .i64 (gs Ls Ms t).2) := HGR.out.cell 1
      have u0 : wr.cell? ⟨w.heap.size, 0, none⟩ = some (.int .i64 0) := HR.out.cell 0
      have u1 : wr.cell? ⟨w.heap.size, 1, none⟩ = some (.int .i64 0) := HR.out.cell 1
      have u4 := HR.out.fr 0
      have u5 := HR.out.fr 1
      go_wp2
      refine bodyPost_ret (v := .tuple #[.agg #[.int .i64 (gs Ls Ms t).1, .int .i64 (gs Ls Ms t).2], .int .i64 0]) (by simp [results, Try.results24, go_sem, u0, u1]) rfl ⟨rfl, ?_⟩
      exact (HB.out.st (Nat.le_refl _) _).st (Nat.le_refl _) _
end Go.Proofs.Ythmdponfigepjaa.Ch
