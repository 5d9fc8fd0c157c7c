/- pieces.bound with shapesearch/pieces.Centred. -/
import Derived.Test.YtekeclapbfjdiaaPie5
namespace Go.Proofs.Ytekeclapbfjdiaa.Pc
open Go.ChangeShapes Go.WideShapes Go.RowKit Wo Sr Wi Ra Nr Eu
set_option linter.unusedVariables false
set_option maxHeartbeats 8000000 in
set_option maxRecDepth 100000 in
theorem bound_cen (hx hy : Addr) (cx cy m n l : Nat) (X Y P Q : List Int) (sc C : Int) (m2 : 2 ≤ m) (m32 : m ≤ 32) (n1 : 1 ≤ n) (n8 : n ≤ 8) (nm : n ≤ m) (hsx : Sam X) (hsy : Sam Y) (lP : P.length = n) (lQ : Q.length = n) (hP : ∀ k, k < n → -2048000 ≤ P.getD k 0 ∧ P.getD k 0 ≤ 2048000) (hQ : ∀ k, k < n → -2048000 ≤ Q.getD k 0 ∧ Q.getD k 0 ≤ 2048000) (hl : m / n = l) (sc1 : 1 ≤ sc) (sc2 : sc ≤ 1024) (hC : sc * ((l : Int) * ((l : Int) + 1)) = C)
    (w : World) (h1 : Zi w (some hx) m X) (h2 : Zi w (some hy) m Y)
    (SX : ∀ W, Bel w W → Calls Try.prog 25 #[.slice (some hx) m cx, .int .i64 (n : Int)] W fun e w' => ∃ h c, e = .returned (.tuple #[.slice (some ⟨h, 0, none⟩) n c, .int .i64 0]) ∧ n ≤ c ∧ W.heap.size ≤ h ∧ w'.ownsRow W.heap.size 3 1 (.slice (some ⟨h, 0, none⟩) n c) n (zs P) ∧ Bel W w')
    (SY : ∀ W, Bel w W → Calls Try.prog 25 #[.slice (some hy) m cy, .int .i64 (n : Int)] W fun e w' => ∃ h c, e = .returned (.tuple #[.slice (some ⟨h, 0, none⟩) n c, .int .i64 0]) ∧ n ≤ c ∧ W.heap.size ≤ h ∧ w'.ownsRow W.heap.size 3 1 (.slice (some ⟨h, 0, none⟩) n c) n (zs Q) ∧ Bel W w') :
    Calls Try.prog 54 #[.slice (some hx) m cx, .slice (some hy) m cy, .int .i64 (n : Int), .int .i64 sc, .func (.func 25) #[] #[]] w fun e w' => ∃ t u, e = .returned (.tuple #[.agg #[.int .i64 t, .int .i64 u], .int .i64 0]) ∧ Vl t u (tq (fun k => (P.getD k 0 - Q.getD k 0) * (P.getD k 0 - Q.getD k 0) * wq l (st m n (k + 1) - st m n k)) n) C ∧ Bel w w' := by
  obtain ⟨i0, hi0, hz0, hz1, hz2⟩ := info_parts info_int
  have HI := Lib.hid (And.intro hi0 (And.intro hz0 (And.intro hz1 hz2)))
  clear hi0 hz0 hz1 hz2
  obtain ⟨D, hD⟩ : ∃ D : List Int, D = (List.range n).map (fun k => P.getD k 0 - Q.getD k 0) := ⟨_, rfl⟩
  have lD : D.length = n := by rw [hD]; simp
  have dat : ∀ k, k < n → D.getD k 0 = P.getD k 0 - Q.getD k 0 := fun k hk => by rw [hD]; simp [List.getD_eq_getElem?_getD, hk]
  have bD : ∀ k, k < n → -4096000 ≤ D.getD k 0 ∧ D.getD k 0 ≤ 4096000 := fun k hk => by
    rw [dat k hk]; have := hP k hk; have := hQ k hk; omega
  have hlp : 1 ≤ l := by rw [← hl]; exact (Nat.le_div_iff_mul_le (by omega)).2 (by omega)
  have hl32 : l ≤ 32 := by rw [← hl]; exact Nat.le_trans (Nat.div_le_self m n) m32
  have WK : Hid (∀ W, Bel w W → _) := fun W hW => windows_ok (some hx) (some hy) cx cy m X Y m2 m32 hsx hsy W (h1.bel hW) (h2.bel hW)
  have TK : Hid (∀ W, _) := fun W => starts_c m n n1 n8 m32 W
  have QK : Hid (∀ hd hs c c' W, Zi W (some ⟨hd, 0, none⟩) n D → Zi W (some ⟨hs, 0, none⟩) (n + 1) (sts m n) → _) := fun hd hs c c' W z1 z2 => sum_ok hd hs c c' n l D (sts m n) (st m n) sc C n8 hlp hl32 (fun k hk => by rw [← hl]; exact st_step m n k (by omega)) (fun k hk => ⟨sts_at m n k (by omega) hk, Nat.le_trans (st_le m n k (by omega) hk) m32⟩) bD sc1 sc2 hC W z1 z2
  have HTQ : Hid (tq (fun k => D.getD k 0 * D.getD k 0 * wq l (st m n (k + 1) - st m n k)) n = tq (fun k => (P.getD k 0 - Q.getD k 0) * (P.getD k 0 - Q.getD k 0) * wq l (st m n (k + 1) - st m n k)) n) := tq_cong (n := n) (fun k hk => by rw [dat k hk]) n (Nat.le_refl _)
  have HSX := Lib.hid SX
  have HSY := Lib.hid SY
  have HD := Lib.hid (And.intro dat (And.intro bD (And.intro lP (And.intro lQ (And.intro lD (And.intro hP hQ))))))
  have i8 : (n : Int) ≤ 8 := by omega
  have i1 : 1 ≤ (n : Int) := by omega
  clear SX SY dat bD lP lQ lD hP hQ hD h1 h2 hsx hsy hC
  go_enter Try.func54, Try.ntmps54
  have hB0 : Bel w (w.alloc (.cells #[.int .i64 0, .int .i64 0] 37)) := Bel.rf.al _
  have hR0 : Bk (w.alloc (.cells #[.int .i64 0, .int .i64 0] 37)) w.heap.size 37 #[.int .i64 0, .int .i64 0] := Bk.nw _ _ _
  have HB0 := Lib.hid hB0
  have HR0 := Lib.hid hR0
  clear hB0 hR0
  go_wp2_with fail
  go_at_call 39
  refine (WK.out _ HB0.out).mono ?_
  rintro e v1 ⟨rfl, hb⟩
  have HB1 := Lib.hid (HB0.out.tr hb)
  have HR1 := Lib.hid (HR0.out.bel hb)
  clear hb
  go_wp2_with fail
  go_at_call 25
  refine (HSX.out _ HB1.out).mono ?_
  rintro e v2 ⟨hp, cp, rfl, q1, q2, q3, hb⟩
  have HB2 := Lib.hid (HB1.out.tr hb)
  have HR2 := Lib.hid (HR1.out.bel hb)
  have HZP := Lib.hid (own_zi q3 HD.out.2.2.1)
  clear hb q1 q2 q3
  go_wp2_with fail
  go_at_call 25
  refine (HSY.out _ HB2.out).mono ?_
  rintro e v3 ⟨hq, cq, rfl, q1, q2, q3, hb⟩
  have HB3 := Lib.hid (HB2.out.tr hb)
  have HR3 := Lib.hid (HR2.out.bel hb)
  have HZQ := Lib.hid (own_zi q3 HD.out.2.2.2.1)
  have HZP3 := Lib.hid (HZP.out.bel hb)
  clear hb q1 q2 q3
  have HM0 : Hid (∃ (k : Nat) (V : World), V = v3.alloc (.cells (zs (List.replicate n 0)).toArray 3) ∧ k ≤ n ∧ (Value.int .i64 0) = .int .i64 (k : Int) ∧ Bk (v3.alloc (.cells (zs (List.replicate n 0)).toArray 3)) v3.heap.size 3 (zs (fil D k)).toArray ∧ Bel v3 (v3.alloc (.cells (zs (List.replicate n 0)).toArray 3))) :=
    ⟨0, _, rfl, by omega, rfl, by rw [fil_zero, HD.out.2.2.2.2.1]; exact Bk.nw _ _ _, Bel.rf.al _⟩
  go_wp2_with (refine wpList_make_any _ rfl (.tmp 47) (.tmp 47) 22 rfl 3 i0 (.int .i64 0) 1 Try.underlying22 HI.out.1 HI.out.2.1 HI.out.2.2.1 .i64 .i64 _ _ n n rfl rfl rfl rfl (by omega) (by rw [HI.out.2.2.2]; omega) (by omega) ?_; rw [made_i64])
  go_loopw [51] (fun s31 w2 => ∃ (k : Nat) (V : World), V = w2 ∧ k ≤ n ∧ s31 = .int .i64 (k : Int) ∧ Bk w2 v3.heap.size 3 (zs (fil D k)).toArray ∧ Bel v3 w2) (fun s31 _ => n - (intOf s31).toNat)
  case atStart => exact HM0.out
  case round =>
    clear HM0
    obtain ⟨k, w2, hwr, hk, rfl, hbk, hb⟩ := hrel
    subst hwr
    have HB4 := Lib.hid hb
    have HK := Lib.hid hbk
    rcases Nat.lt_or_ge k n with hlt | hge
    · have c1 := (HZP3.out.bel hb).at k hlt
      have c2 := (HZQ.out.bel hb).at k hlt
      have b1 := HD.out.2.2.2.2.2.1 k hlt
      have b2 := HD.out.2.2.2.2.2.2 k hlt
      have hat := HD.out.1 k hlt
      obtain ⟨x, hx'⟩ : ∃ x, P.getD k 0 = x := ⟨_, rfl⟩
      obtain ⟨y, hy'⟩ : ∃ y, Q.getD k 0 = y := ⟨_, rfl⟩
      rw [hx'] at c1 b1 hat
      rw [hy'] at c2 b2 hat
      have m2' : IntKind.i64.wrap (x - y) = x - y := IntWalk.i64_in _ (by omega)
      have e1 : w2.cell? ⟨v3.heap.size, k, none⟩ = some (.int .i64 ((fil D k).getD k 0)) := by
        rw [hbk.cell k]
        have : (zs (fil D k))[k]? = some (.int .i64 ((fil D k).getD k 0)) := zs_at (by rw [fil_len _ _ (by rw [HD.out.2.2.2.2.1]; omega), HD.out.2.2.2.2.1]; omega)
        simpa using this
      have f1 : w2.frozen? ⟨v3.heap.size, k, none⟩ = false := hbk.fr k
      generalize (fil D k).getD k 0 = q0 at e1
      have HAT := Lib.hid hat
      have ti : (k : Int) < (n : Int) := by omega
      have hsz := hb.size
      clear hb hbk hat hx' hy'
      go_wp2
      go_region_with fail
      all_goals
        go_wp2
        go_roundw
        case rel =>
          refine ⟨k + 1, _, rfl, by omega, by go_num, ?_, ?_⟩
          · have h4 := HK.out.st k (.int .i64 (x - y))
            rw [zs_set, show x - y = D.getD k 0 by rw [HAT.out], fil_set _ _ (by rw [HD.out.2.2.2.2.1]; omega)] at h4
            rw [show x - y = D.getD k 0 by rw [HAT.out]]
            exact h4
          · exact HB4.out.drw.st (p := ⟨v3.heap.size, k, none⟩) (by show _ ≤ _; exact Nat.le_refl _) _
        case measure => simp [intOf]; omega
    · obtain rfl : k = n := by omega
      have hbk2 := hbk
      rw [show fil D k = D by have := fil_all D; rwa [HD.out.2.2.2.2.1] at this] at hbk2
      have HKK := Lib.hid (zi_bk hbk2 k HD.out.2.2.2.2.1)
      have HBA := Lib.hid (HB3.out.tr hb)
      have HRA := Lib.hid (HR3.out.bel hb)
      clear hb hbk hbk2
      go_wp2_with fail
      go_at_call 59
      refine (TK.out _).mono ?_
      rintro e v5 ⟨hs, cs, rfl, q1, q2, q3, hb⟩
      have HB5 := Lib.hid (HBA.out.tr hb)
      have HR5 := Lib.hid (HRA.out.bel hb)
      have HZD := Lib.hid (HKK.out.bel hb)
      have HZS := Lib.hid (own_zi q3 (sts_len m k))
      clear hb q1 q2 q3
      go_wp2_with fail
      go_at_call 67
      refine (QK.out _ _ _ _ _ HZD.out HZS.out).mono ?_
      rintro e v6 ⟨t, u, rfl, hv, hb⟩
      have HB6 := Lib.hid (HB5.out.tr hb)
      have HR6 := Lib.hid (HR5.out.bel hb)
      have HV := Lib.hid hv
      have y2 := HR6.out.cell 0
      have y3 := HR6.out.cell 1
      have y4 := HR6.out.fr 0
      have y5 := HR6.out.fr 1
      clear hb hv
      go_wp2
      refine bodyPost_ret (v := .tuple #[.agg #[.int .i64 t, .int .i64 u], .int .i64 0]) (results_ct Try.results54 _ _ w.heap.size (.int .i64 t) (.int .i64 u) rfl ((HR6.out.st 0 _).st 1 _)) rfl ?_
      exact ⟨t, u, rfl, by rw [← HTQ.out]; exact HV.out, (HB6.out.st (by show w.heap.size ≤ w.heap.size; omega) _).st (by show w.heap.size ≤ w.heap.size; omega) _⟩
end Go.Proofs.Ytekeclapbfjdiaa.Pc
