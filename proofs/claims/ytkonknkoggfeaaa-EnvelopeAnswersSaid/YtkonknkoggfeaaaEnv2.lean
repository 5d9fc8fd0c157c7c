/- The contracts of envelope.envelope, Of, Keogh and Improved over valid windows. -/
import Derived.Test.YtkonknkoggfeaaaEnvG1
import Derived.Deep.RegionWith
namespace Go.Proofs.Ytkonknkoggfeaaa.Ev
open Go.ChangeShapes Go.WideShapes Go.RowKit Wo Sr Wi Eu
set_option linter.unusedVariables false
theorem mx_sam {X G : List Int} {b : Int} (hs : Sam X) (h : ∀ j, j < G.length → IsMx X b j (G.getD j 0)) : Sam G := sam_of_at (fun j hj => by
  obtain ⟨⟨i, _, _, e⟩, _⟩ := h j hj
  rw [← e]
  exact hs.at i)
set_option maxHeartbeats 1000000 in
theorem envelope_ok (hx : Addr) (c n m : Nat) (L : List Int) (b : Int) (n1 : 1 ≤ n) (n2 : n ≤ 32) (m1 : 1 ≤ m) (m2 : m ≤ 32) (b0 : 0 ≤ b) (b32 : b ≤ 32) (bm : (m : Int) - (n : Int) ≤ b) (hs : Sam L) (w : World) (h1 : Zi w (some hx) n L) :
    Calls Try.prog 25 #[.slice (some hx) n c, .int .i64 b, .int .i64 (m : Int)] w fun e w' => ∃ gu gl U Lo, e = .returned (.tuple #[.slice (some ⟨gu, 0, none⟩) m m, .slice (some ⟨gl, 0, none⟩) m m]) ∧ Env L b m U Lo ∧ Zi w' (some ⟨gu, 0, none⟩) m U ∧ Zi w' (some ⟨gl, 0, none⟩) m Lo ∧ Bel w w' := by
  have H1 := Lib.hid h1
  have HL : Hid (L.length = n) := h1.1
  have N1 := Lib.hid (negative_ok hx c n L n1 n2 hs w h1)
  have G2 : Hid (∀ W, Bel w W → _) := fun W hW => greatest_ok hx c n m L b n1 n2 m1 m2 b0 b32 bm W (h1.bel hW)
  clear h1
  go_enter Try.func25, Try.ntmps25
  go_wp2_with fail
  go_at_call 44
  refine N1.out.mono ?_
  rintro e w1 ⟨g1, rfl, hg1, hk1, hb1⟩
  have HB1 := Lib.hid hb1
  have GK := Lib.hid (greatest_ok ⟨g1, 0, none⟩ n n m (ng L) b n1 n2 m1 m2 b0 b32 bm w1 (zi_bk hk1 n (by rw [ng_len, HL.out])))
  clear hk1 hb1
  go_wp2_with fail
  go_at_call 45
  refine GK.out.mono ?_
  rintro e w2 ⟨g2, G, rfl, hg2, hk2, hG, hmx, hb2⟩
  have HB2 := Lib.hid (HB1.out.tr hb2)
  have sG : Sam G := mx_sam (ng_sam hs) (fun j hj => hmx j (by omega))
  have N2 := Lib.hid (negative_ok ⟨g2, 0, none⟩ m m G m1 m2 sG w2 (zi_bk hk2 m hG))
  have HMX := Lib.hid (And.intro hG hmx)
  clear hk2 hb2 hG hmx sG
  go_wp2_with fail
  go_at_call 44
  refine N2.out.mono ?_
  rintro e w3 ⟨g3, rfl, hg3, hk3, hb3⟩
  have HB3 := Lib.hid (HB2.out.tr hb3)
  have HK3 := Lib.hid (zi_bk hk3 m (by rw [ng_len, HMX.out.1]))
  clear hk3 hb3
  go_wp2_with fail
  go_at_call 45
  refine (G2.out _ HB3.out).mono ?_
  rintro e w4 ⟨g4, U, rfl, hg4, hk4, hU, hux, hb4⟩
  have HB4 := Lib.hid (HB3.out.tr hb4)
  have HK4 := Lib.hid (zi_bk hk4 m hU)
  have HK3' := Lib.hid (HK3.out.bel hb4)
  have HUX := Lib.hid (And.intro hU hux)
  clear hk4 hb4 hU hux
  go_wp2
  go_ret2
  refine ⟨g4, g3, U, ng G, rfl, ⟨HUX.out.1, by rw [ng_len, HMX.out.1], fun j hj => ⟨HUX.out.2 j hj, ?_⟩⟩, HK4.out, HK3'.out, HB4.out⟩
  rw [ng_at]
  exact mn_of_ng (HMX.out.2 j hj)
set_option maxHeartbeats 1000000 in
theorem of_ok (hx : Addr) (c n m : Nat) (L : List Int) (b : Int) (n1 : 2 ≤ n) (n2 : n ≤ 32) (m1 : 2 ≤ m) (m2 : m ≤ 32) (b0 : 0 ≤ b) (b32 : b ≤ 32) (bm : (m : Int) - (n : Int) ≤ b) (bn : (n : Int) - (m : Int) ≤ b) (hs : Sam L) (w : World) (h1 : Zi w (some hx) n L) :
    Calls Try.prog 9 #[.slice (some hx) n c, .int .i64 b, .int .i64 (m : Int)] w fun e w' => ∃ gu gl U Lo, e = .returned (.tuple #[.slice (some ⟨gu, 0, none⟩) m m, .slice (some ⟨gl, 0, none⟩) m m, .int .i64 0]) ∧ Env L b m U Lo ∧ Zi w' (some ⟨gu, 0, none⟩) m U ∧ Zi w' (some ⟨gl, 0, none⟩) m Lo ∧ Bel w w' := by
  have WK := Lib.hid (window_ok (some hx) c n L n1 n2 hs w h1)
  have LK : Hid (∀ W, _) := fun W => length_ok (m : Int) (by omega) (by omega) W
  have AK : Hid (∀ W, _) := fun W => abs_ok ((n : Int) - (m : Int)) (by omega) (by omega) W
  have EK : Hid (∀ W, Bel w W → _) := fun W hW => envelope_ok hx c n m L b (by omega) n2 (by omega) m2 b0 b32 bm hs W (h1.bel hW)
  have ab1 : ab ((n : Int) - (m : Int)) ≤ b := by unfold ab; split <;> omega
  have ab2 : -32 ≤ ab ((n : Int) - (m : Int)) := by unfold ab; split <;> omega
  obtain ⟨a, ha⟩ : ∃ a, ab ((n : Int) - (m : Int)) = a := ⟨_, rfl⟩
  rw [ha] at ab1 ab2 AK
  have i1 : 2 ≤ (n : Int) := by omega
  have i2 : (n : Int) ≤ 32 := by omega
  have i3 : 2 ≤ (m : Int) := by omega
  have i4 : (m : Int) ≤ 32 := by omega
  clear h1 ha
  go_enter Try.func9, Try.ntmps9
  go_wp2_with (go_at_call 22; refine WK.out.mono ?_; rintro e w1 ⟨rfl, hb1⟩)
  go_wp2_with (go_at_call 23; refine (LK.out _).mono ?_; rintro e w2 ⟨rfl, rfl⟩)
  go_wp2_with (go_at_call 24; refine (AK.out _).mono ?_; rintro e w3 ⟨rfl, rfl⟩)
  go_wp2_with (go_at_call 25; refine (EK.out _ (by assumption)).mono ?_; rintro e w4 ⟨gu, gl, U, Lo, rfl, he, hu, hl, hb4⟩)
  refine bodyPost_ret (v := .tuple #[.slice (some ⟨gu, 0, none⟩) m m, .slice (some ⟨gl, 0, none⟩) m m, .int .i64 0]) (by simp [results, Try.results9, go_sem]) rfl ?_
  exact ⟨gu, gl, U, Lo, rfl, he, hu, hl, hb1.tr hb4⟩
set_option maxHeartbeats 1000000 in
theorem keogh_ok (hx hy : Addr) (c c' n m : Nat) (L M : List Int) (b : Int) (n1 : 2 ≤ n) (n2 : n ≤ 32) (m1 : 2 ≤ m) (m2 : m ≤ 32) (b0 : 0 ≤ b) (b32 : b ≤ 32) (bn : (n : Int) - (m : Int) ≤ b) (bm : (m : Int) - (n : Int) ≤ b) (hs : Sam L) (ht : Sam M) (w : World) (h1 : Zi w (some hx) n L) (h2 : Zi w (some hy) m M) :
    Calls Try.prog 12 #[.slice (some hx) n c, .slice (some hy) m c', .int .i64 b] w fun e w' => ∃ U Lo, e = .returned (.tuple #[.int .i64 (kv M U Lo), .int .i64 0]) ∧ Env L b m U Lo ∧ Bel w w' := by
  have WK := Lib.hid (warped_ok (some hx) (some hy) c c' n m L M b n1 n2 m1 m2 b0 b32 bn bm hs ht w h1 h2)
  have EK : Hid (∀ W, Bel w W → _) := fun W hW => envelope_ok hx c n m L b (by omega) n2 (by omega) m2 b0 b32 bm hs W (h1.bel hW)
  have PK : Hid (∀ W gu gl U Lo, Bel w W → Sam U → Sam Lo → Zi W (some ⟨gu, 0, none⟩) m U → Zi W (some ⟨gl, 0, none⟩) m Lo → _) := fun W gu gl U Lo hW sU sL hu hl => passing_ok hy gu gl c' m m m M U Lo m2 ht sU sL W (h2.bel hW) hu hl
  clear h1 h2
  go_enter Try.func12, Try.ntmps12
  go_wp2_with fail
  go_at_call 28
  refine WK.out.mono ?_
  rintro e w1 ⟨rfl, hb1⟩
  have HB1 : Hid (Bel w w1) := hb1
  clear hb1
  go_wp2_with fail
  go_at_call 25
  refine (EK.out _ HB1.out).mono ?_
  rintro e w2 ⟨gu, gl, U, Lo, rfl, he, hu, hl, hb2⟩
  have HB2 := Lib.hid (HB1.out.tr hb2)
  have HE := Lib.hid (And.intro he (And.intro hu hl))
  clear he hu hl hb2
  go_wp2_with fail
  go_at_call 29
  refine (PK.out _ gu gl U Lo HB2.out (HE.out.1.sam hs).1 (HE.out.1.sam hs).2 HE.out.2.1 HE.out.2.2).mono ?_
  rintro e w3 ⟨rfl, hb3⟩
  have HB3 := Lib.hid (HB2.out.tr hb3)
  clear hb3
  go_wp2
  go_ret2
  exact ⟨U, Lo, rfl, HE.out.1, HB3.out⟩
set_option maxHeartbeats 2000000 in
set_option maxRecDepth 100000 in
theorem improved_ok (hx hy : Addr) (c c' n m : Nat) (L M : List Int) (b : Int) (n1 : 2 ≤ n) (n2 : n ≤ 32) (m1 : 2 ≤ m) (m2 : m ≤ 32) (b0 : 0 ≤ b) (b32 : b ≤ 32) (bn : (n : Int) - (m : Int) ≤ b) (bm : (m : Int) - (n : Int) ≤ b) (hs : Sam L) (ht : Sam M) (w : World) (h1 : Zi w (some hx) n L) (h2 : Zi w (some hy) m M) :
    Calls Try.prog 14 #[.slice (some hx) n c, .slice (some hy) m c', .int .i64 b] w fun e w' => ∃ U Lo A B, e = .returned (.tuple #[.int .i64 (kv M U Lo + kv L A B), .int .i64 0]) ∧ Env L b m U Lo ∧ Env (pj M U Lo) b n A B ∧ Bel w w' := by
  obtain ⟨i0, hi0, hz0, hz1, hz2⟩ := info_parts info_int
  have HI := Lib.hid (And.intro hi0 (And.intro hz0 (And.intro hz1 hz2)))
  clear hi0 hz0 hz1 hz2
  have HLM : Hid (L.length = n ∧ M.length = m) := ⟨h1.1, h2.1⟩
  have H2 := Lib.hid h2
  have WK := Lib.hid (warped_ok (some hx) (some hy) c c' n m L M b n1 n2 m1 m2 b0 b32 bn bm hs ht w h1 h2)
  have EK : Hid (∀ W, Bel w W → _) := fun W hW => envelope_ok hx c n m L b (by omega) n2 (by omega) m2 b0 b32 bm hs W (h1.bel hW)
  have EK2 : Hid (∀ W gh H, Sam H → Zi W (some ⟨gh, 0, none⟩) m H → _) := fun W gh H sH hh => envelope_ok ⟨gh, 0, none⟩ m m n H b (by omega) m2 (by omega) n2 b0 b32 bn sH W hh
  have PK : Hid (∀ W gu gl U Lo, Bel w W → Sam U → Sam Lo → Zi W (some ⟨gu, 0, none⟩) m U → Zi W (some ⟨gl, 0, none⟩) m Lo → _) := fun W gu gl U Lo hW sU sL hu hl => passing_ok hy gu gl c' m m m M U Lo m2 ht sU sL W (h2.bel hW) hu hl
  have PK2 : Hid (∀ W gu gl U Lo, Bel w W → Sam U → Sam Lo → Zi W (some ⟨gu, 0, none⟩) n U → Zi W (some ⟨gl, 0, none⟩) n Lo → _) := fun W gu gl U Lo hW sU sL hu hl => passing_ok hx gu gl c n n n L U Lo n2 hs sU sL W (h1.bel hW) hu hl
  have im1 : 2 ≤ (m : Int) := by omega
  have im2 : (m : Int) ≤ 32 := by omega
  have in1 : 2 ≤ (n : Int) := by omega
  have in2 : (n : Int) ≤ 32 := by omega
  clear h1 h2
  go_enter Try.func14, Try.ntmps14
  go_wp2_with fail
  go_at_call 28
  refine WK.out.mono ?_
  rintro e w1 ⟨rfl, hb1⟩
  have HB1 : Hid (Bel w w1) := hb1
  clear hb1
  go_wp2_with fail
  go_at_call 25
  refine (EK.out _ HB1.out).mono ?_
  rintro e w2 ⟨gu, gl, U, Lo, rfl, he, hu, hl, hb2⟩
  have HB2 := Lib.hid (HB1.out.tr hb2)
  have HE := Lib.hid (And.intro he (And.intro hu hl))
  have HSU := Lib.hid (he.sam hs)
  have HC : Hid ((pj M U Lo).length = m) := by show _ = _; rw [pj_len, HLM.out.2]
  clear he hu hl hb2
  have HR0 : Hid (∃ (k : Nat) (V : World), V = w2.alloc (.cells (zs (List.replicate m 0)).toArray 3) ∧ k ≤ m ∧ (Value.int .i64 0) = .int .i64 (k : Int) ∧ Bk (w2.alloc (.cells (zs (List.replicate m 0)).toArray 3)) w2.heap.size 3 (zs (fil (pj M U Lo) k)).toArray ∧ Bel w2 (w2.alloc (.cells (zs (List.replicate m 0)).toArray 3))) :=
    ⟨0, _, rfl, by omega, rfl, by rw [fil_zero, HC.out]; exact Bk.nw _ _ _, Bel.rf.al _⟩
  go_wp2_with (refine wpList_make_any _ rfl (.tmp 32) (.tmp 32) 22 rfl 3 i0 (.int .i64 0) 1 Try.underlying22 HI.out.1 HI.out.2.1 HI.out.2.2.1 .i64 .i64 _ _ m m rfl rfl rfl rfl (by omega) (by rw [HI.out.2.2.2]; omega) (by omega) ?_; rw [made_i64])
  go_loopw [36] (fun s36 wr => ∃ (k : Nat) (V : World), V = wr ∧ k ≤ m ∧ s36 = .int .i64 (k : Int) ∧ Bk wr w2.heap.size 3 (zs (fil (pj M U Lo) k)).toArray ∧ Bel w2 wr) (fun s36 _ => m - (intOf s36).toNat)
  case atStart => exact HR0.out
  case round =>
    clear HR0
    obtain ⟨k, wr, hwr, hk, rfl, hbk, hb⟩ := hrel
    subst hwr
    have HBR := Lib.hid hb
    have HK := Lib.hid hbk
    rcases Nat.lt_or_ge k m with hlt | hge
    · have c1 := (H2.out.bel (HB2.out.tr hb)).atg k hlt
      have c2 := (HE.out.2.1.bel hb).at k hlt
      have c3 := (HE.out.2.2.bel hb).at k hlt
      have hle := HE.out.1.le k hlt
      have hpj := pj_at M U Lo k (by rw [HLM.out.2]; exact hlt)
      obtain ⟨y, hy⟩ : ∃ x, M.getD k 0 = x := ⟨_, rfl⟩
      obtain ⟨u, hu⟩ : ∃ x, U.getD k 0 = x := ⟨_, rfl⟩
      obtain ⟨l, hl⟩ : ∃ x, Lo.getD k 0 = x := ⟨_, rfl⟩
      rw [hy] at c1 hpj
      rw [hu] at c2 hpj hle
      rw [hl] at c3 hpj hle
      have e1 := bk_at hbk k (by rw [fil_len _ _ (by rw [HC.out]; omega), HC.out]; omega)
      have f1 : wr.frozen? ⟨w2.heap.size, k, none⟩ = false := hbk.fr k
      generalize (fil (pj M U Lo) k).getD k 0 = q0 at e1
      have ti : (k : Int) < (m : Int) := by omega
      have hnl : ¬ u < l := by omega
      have dnl : decide (u < l) = false := by simpa using hle
      have key : ∀ z : Int, (pj M U Lo).getD k 0 = z → Bk ((wr.setCell ⟨w2.heap.size, k, none⟩ (.int .i64 z))) w2.heap.size 3 (zs (fil (pj M U Lo) (k + 1))).toArray := fun z hz => by
        have h4 := HK.out.st k (.int .i64 z)
        rwa [zs_set, ← hz, fil_set _ _ (by rw [HC.out]; omega), hz] at h4
      have HKEY := Lib.hid key
      clear hb hbk hy hu hl key
      rcases Int.lt_or_le y l with g1 | g1
      · have HP : Hid ((pj M U Lo).getD k 0 = l) := by show _ = _; rw [hpj]; omega
        have g2 : y < l := g1
        have g3 : decide (y < l) = true := by simpa using g1
        clear hpj
        go_wp2
        go_region
        all_goals
          go_wp2
          go_roundw
          case rel => exact ⟨k + 1, _, rfl, by omega, by go_num, by first | exact HKEY.out _ HP.out | exact (HKEY.out _ HP.out).drw | exact (HKEY.out _ HP.out).drwN _, by first | exact HBR.out.st (p := ⟨w2.heap.size, k, none⟩) (by show _ ≤ _; simp only []; omega) _ | exact (HBR.out.st (p := ⟨w2.heap.size, k, none⟩) (by show _ ≤ _; simp only []; omega) _).drw | exact (HBR.out.st (p := ⟨w2.heap.size, k, none⟩) (by show _ ≤ _; simp only []; omega) _).drwN _⟩
          case measure => simp [intOf]; omega
      · have g2 : ¬ y < l := by omega
        have g3 : decide (y < l) = false := by simpa using g1
        rcases Int.lt_or_le u y with g4 | g4
        · have HP : Hid ((pj M U Lo).getD k 0 = u) := by show _ = _; rw [hpj]; omega
          have g5 : decide (u < y) = true := by simpa using g4
          clear hpj g1
          go_wp2
          go_region
          all_goals
            go_wp2
            go_roundw
            case rel => exact ⟨k + 1, _, rfl, by omega, by go_num, by first | exact HKEY.out _ HP.out | exact (HKEY.out _ HP.out).drw | exact (HKEY.out _ HP.out).drwN _, by first | exact HBR.out.st (p := ⟨w2.heap.size, k, none⟩) (by show _ ≤ _; simp only []; omega) _ | exact (HBR.out.st (p := ⟨w2.heap.size, k, none⟩) (by show _ ≤ _; simp only []; omega) _).drw | exact (HBR.out.st (p := ⟨w2.heap.size, k, none⟩) (by show _ ≤ _; simp only []; omega) _).drwN _⟩
            case measure => simp [intOf]; omega
        · have HP : Hid ((pj M U Lo).getD k 0 = y) := by show _ = _; rw [hpj]; omega
          have g5 : ¬ u < y := by omega
          have g6 : decide (u < y) = false := by simpa using g4
          clear hpj g1 g4
          go_wp2
          go_region
          all_goals
            go_wp2
            go_roundw
            case rel => exact ⟨k + 1, _, rfl, by omega, by go_num, by first | exact HKEY.out _ HP.out | exact (HKEY.out _ HP.out).drw | exact (HKEY.out _ HP.out).drwN _, by first | exact HBR.out.st (p := ⟨w2.heap.size, k, none⟩) (by show _ ≤ _; simp only []; omega) _ | exact (HBR.out.st (p := ⟨w2.heap.size, k, none⟩) (by show _ ≤ _; simp only []; omega) _).drw | exact (HBR.out.st (p := ⟨w2.heap.size, k, none⟩) (by show _ ≤ _; simp only []; omega) _).drwN _⟩
            case measure => simp [intOf]; omega
    · obtain rfl : k = m := by omega
      have hbk2 := hbk
      rw [show fil (pj M U Lo) k = pj M U Lo by have := fil_all (pj M U Lo); rwa [HC.out] at this] at hbk2
      have ZH := Lib.hid (zi_bk hbk2 k HC.out)
      have HB3 := Lib.hid (HB2.out.tr hb)
      clear hb hbk hbk2 HK
      go_wp2_with fail
      go_at_call 25
      refine (EK2.out _ _ _ (pj_sam ht HSU.out.1 HSU.out.2) ZH.out).mono ?_
      rintro e w4 ⟨ga, gb, A, B, rfl, he2, hA, hB, hb4⟩
      have HB4 := Lib.hid (HB3.out.tr hb4)
      have HU4 := Lib.hid ((HE.out.2.1.bel HBR.out).bel hb4)
      have HL4 := Lib.hid ((HE.out.2.2.bel HBR.out).bel hb4)
      have HA := Lib.hid (And.intro he2 (And.intro hA hB))
      have HSA := Lib.hid (he2.sam (pj_sam ht HSU.out.1 HSU.out.2))
      have kb1 := kv_in (Y := M) ht HSU.out.1 HSU.out.2 (by rw [HLM.out.2]; exact m2)
      have kb2 := kv_in (Y := L) hs HSA.out.1 HSA.out.2 (by rw [HLM.out.1]; exact n2)
      have P1 : Hid (∀ W, Bel w4 W → _) := fun W hW => PK.out W gu gl U Lo (HB4.out.tr hW) HSU.out.1 HSU.out.2 (HU4.out.bel hW) (HL4.out.bel hW)
      have P2 : Hid (∀ W, Bel w4 W → _) := fun W hW => PK2.out W ga gb A B (HB4.out.tr hW) HSA.out.1 HSA.out.2 (HA.out.2.1.bel hW) (HA.out.2.2.bel hW)
      obtain ⟨s1, hs1⟩ : ∃ s, kv M U Lo = s := ⟨_, rfl⟩
      obtain ⟨s2, hs2⟩ : ∃ s, kv L A B = s := ⟨_, rfl⟩
      rw [hs1] at kb1 P1
      rw [hs2] at kb2 P2
      obtain ⟨k10, k11⟩ := kb1
      obtain ⟨k20, k21⟩ := kb2
      have HSS := Lib.hid (And.intro hs1 hs2)
      clear he2 hA hB hb4 hs1 hs2
      go_wp2_with fail
      go_at_call 29
      refine (P1.out _ Bel.rf).mono ?_
      rintro e w5 ⟨rfl, hb5⟩
      have HB5 : Hid (Bel w4 w5) := hb5
      clear hb5
      go_wp2_with fail
      go_at_call 29
      refine (P2.out _ HB5.out).mono ?_
      rintro e w6 ⟨rfl, hb6⟩
      have HB6 := Lib.hid (HB5.out.tr hb6)
      clear hb6
      go_wp2
      go_ret2
      exact ⟨U, Lo, A, B, by rw [HSS.out.1, HSS.out.2]; rfl, HE.out.1, HA.out.1, HB4.out.tr HB6.out⟩
end Go.Proofs.Ytkonknkoggfeaaa.Ev
