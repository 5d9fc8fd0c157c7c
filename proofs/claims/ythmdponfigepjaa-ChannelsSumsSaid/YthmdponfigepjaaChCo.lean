/- channels.check, from an offset on. -/
import Derived.Test.YthmdponfigepjaaChBo
namespace Go.Proofs.Ythmdponfigepjaa.Co
open Go.ChangeShapes Go.WideShapes Go.RowKit Wo Sr Wi Ch
set_option linter.unusedVariables false
theorem bun_vc {w : World} {g o q n : Nat} {As : Nat → Option Addr} {cs : Nat → Nat} {Ls : Nat → List Int} (h : Bun w g o q n As cs Ls) : Vc w (some ⟨g, o, none⟩) q (els q n As cs) := by
  refine ⟨els_len .., fun u hu => ?_, fun _ => ⟨_, rfl, h.1, fun j hj => ?_⟩⟩
  · obtain ⟨j, _, rfl⟩ := List.mem_map.1 hu; rfl
  · have := (h.2 j hj).1
    rw [show (⟨g, o, none⟩ : Addr).add j = ⟨g, o + j, none⟩ by unfold Addr.add; split <;> simp_all, this, List.getD_eq_getElem?_getD, els_at hj]; rfl
theorem all_of {w : World} {o g g1 g2 q n m : Nat} {As Bs : Nat → Option Addr} {cs ds : Nat → Nat} {Ls Ms : Nat → List Int} (h1 : Bun w g1 o q n As cs Ls) (h2 : Bun w g2 o q m Bs ds Ms)
    (h : Vc w (some ⟨g, 0, none⟩) (q + q) (els q n As cs ++ els q m Bs ds)) : AllC w g (q + q) n m := fun j hj => by
  obtain ⟨ad, e, _, hc⟩ := h.2.2 (by omega)
  cases e
  have hcj := hc j hj
  rw [show (⟨g, 0, none⟩ : Addr).add j = ⟨g, j, none⟩ by unfold Addr.add; split <;> simp_all, List.getD_eq_getElem?_getD] at hcj
  rcases Nat.lt_or_ge j q with hlt | hge
  · rw [List.getElem?_append_left (by rw [els_len]; exact hlt), els_at hlt] at hcj
    exact ⟨_, _, _, _, hcj, (h1.2 j hlt).2.1, (h1.2 j hlt).2.2, .inl rfl⟩
  · rw [List.getElem?_append_right (by rw [els_len]; exact hge), els_len, els_at (by omega)] at hcj
    exact ⟨_, _, _, _, hcj, (h2.2 (j - q) (by omega)).2.1, (h2.2 (j - q) (by omega)).2.2, .inr rfl⟩
set_option maxHeartbeats 16000000 in
set_option maxRecDepth 100000 in
theorem check_ok (o g1 g2 q n m c1 c2 : Nat) (As Bs : Nat → Option Addr) (cs ds : Nat → Nat) (Ls Ms : Nat → List Int) (b : Int) (q1 : 1 ≤ q) (q4 : q ≤ 4) (n2 : 2 ≤ n) (n32 : n ≤ 32) (m2 : 2 ≤ m) (m32 : m ≤ 32)
    (hb1 : (n : Int) - (m : Int) ≤ b) (hb2 : (m : Int) - (n : Int) ≤ b) (w : World) (hX : Bun w g1 o q n As cs Ls) (hY : Bun w g2 o q m Bs ds Ms) :
    Calls Try.prog 46 #[.slice (some ⟨g1, o, none⟩) q c1, .slice (some ⟨g2, o, none⟩) q c2, .int .i64 b] w fun e w' => e = .returned (.int .i64 0) ∧ Bel w w' := by
  have HX := Lib.hid hX
  have HY := Lib.hid hY
  have i1 : (1 : Int) ≤ (q : Int) := by omega
  have i2 : (q : Int) ≤ 4 := by omega
  have i3 : ¬ (q : Int) < 1 := by omega
  have i4 : ¬ (4 : Int) < (q : Int) := by omega
  have HQ := Lib.hid (And.intro q1 (And.intro q4 (And.intro n2 (And.intro n32 (And.intro m2 (And.intro m32 (And.intro hb1 hb2)))))))
  clear hX hY hb1 hb2 n2 n32 m2 m32
  go_enter Try.func46, Try.ntmps46
  go_wp2
  have HN0 : Hid (Bk (w.alloc (.cells #[.slice (some ⟨g1, o, none⟩) q c1, .slice (some ⟨g2, o, none⟩) q c2] 39)) w.heap.size 39 #[.slice (some ⟨g1, o, none⟩) q c1, .slice (some ⟨g2, o, none⟩) q c2]) := Bk.nw _ _ _
  have HW0 : Hid (Bel w (w.alloc (.cells #[.slice (some ⟨g1, o, none⟩) q c1, .slice (some ⟨g2, o, none⟩) q c2] 39))) := Bel.rf.al _
  go_loopw [18] (fun s18 wr => ∃ (t : Nat) (V : World), V = wr ∧ t ≤ 2 ∧ s18 = .int .i64 (t : Int) ∧ Bel (w.alloc (.cells #[.slice (some ⟨g1, o, none⟩) q c1, .slice (some ⟨g2, o, none⟩) q c2] 39)) wr) (fun s18 _ => 2 - (intOf s18).toNat)
  case atStart => exact ⟨0, _, rfl, by omega, rfl, Bel.rf⟩
  case round =>
    obtain ⟨t, wr, hwr, ht, rfl, hb⟩ := hrel
    subst hwr
    have HB := Lib.hid hb
    rcases Nat.lt_or_ge t 2 with hlt | hge
    · have c0 := hb.kp (HN0.out.cell 0)
      have c1' := hb.kp (HN0.out.cell 1)
      clear hb
      rcases (by omega : t = 0 ∨ t = 1) with rfl | rfl
      · go_wp2
        go_roundw
        case rel => exact ⟨1, _, rfl, by omega, by go_num, by first | exact HB.out | exact HB.out.drw | exact HB.out.drwN _⟩
        case measure => simp [intOf]
      · go_wp2
        go_roundw
        case rel => exact ⟨2, _, rfl, by omega, by go_num, by first | exact HB.out | exact HB.out.drw | exact HB.out.drwN _⟩
        case measure => simp [intOf]
    · obtain rfl : t = 2 := by omega
      clear hb
      have HB2 : Hid (Bel w wr) := HW0.out.tr HB.out
      have HK : Hid (∀ W h, Bel w W → W.cell? ⟨h, 0, none⟩ = some (.slice (some ⟨g1, o, none⟩) q c1) → W.cell? ⟨h, 1, none⟩ = some (.slice (some ⟨g2, o, none⟩) q c2) → h < W.heap.size → Calls Try.prog 67 #[.slice (some ⟨h, 0, none⟩) 2 2] W (SomeVc (q + q) (els q n As cs ++ els q m Bs ds) W)) := by
        refine Lib.hid (fun W h hW k0 k1 hl => ?_)
        have := concat_any h 2 (fun j => if j = 0 then ⟨g1, o, none⟩ else ⟨g2, o, none⟩) (fun _ => q) (fun j => if j = 0 then c1 else c2) (fun j => if j = 0 then els q n As cs else els q m Bs ds) (by omega) (by show 1 ≤ 0 + q + q; omega) (by show 0 + q + q ≤ 3000; have := HQ.out.2.1; omega) W hl
          (fun j hj => by rcases (by omega : j = 0 ∨ j = 1) with rfl | rfl; exact k0; exact k1)
          (fun j hj => by rcases (by omega : j = 0 ∨ j = 1) with rfl | rfl; exact bun_vc (HX.out.bel hW); exact bun_vc (HY.out.bel hW))
        rw [show tot (fun _ => q) 2 = q + q by show 0 + q + q = q + q; omega] at this
        exact this
      clear HB HN0 HW0
      go_wp2_with fail
      go_at_call 67
      refine (HK.out _ _ (HB2.out.al _) ((Bk.nw _ _ _).cell 0) ((Bk.nw _ _ _).cell 1) (Bk.nw _ _ _).lt).mono ?_
      rintro e w2 ⟨g3, c3, rfl, hvc, hg3, hb⟩
      have HB3 : Hid (Bel w w2) := (HB2.out.al _).tr hb
      have HA := Lib.hid (all_of (HX.out.bel HB3.out) (HY.out.bel HB3.out) hvc)
      clear HB2 HK hvc hg3 hb
      have iq : (q : Int) + (q : Int) ≤ 8 := by omega
      have iq0 : ((q + q : Nat) : Int) = (q : Int) + (q : Int) := by omega
      go_wp2
      go_loopw [37] (fun s37 wr => ∃ (t : Nat) (V : World), V = wr ∧ t ≤ q + q ∧ s37 = .int .i64 (t : Int) ∧ Bel w2 wr) (fun s37 _ => q + q - (intOf s37).toNat)
      case atStart => exact ⟨0, _, rfl, by omega, rfl, Bel.rf⟩
      case round =>
        obtain ⟨t, wr, hwr, ht, rfl, hb⟩ := hrel
        subst hwr
        have HBB := Lib.hid hb
        rcases Nat.lt_or_ge t (q + q) with hlt | hge
        · obtain ⟨A, l, c, L, kc, hz, hs, hl⟩ := HA.out.bel hb t hlt
          have hqq := HQ.out
          have LE : Hid (∀ W, Calls Try.prog 57 #[.int .i64 (l : Int)] W fun e w' => e = .returned (.bool true) ∧ W = w') := Lib.hid (length_ok (l : Int) (by rcases hl with rfl | rfl <;> omega) (by rcases hl with rfl | rfl <;> omega))
          have ti : (t : Int) < (q : Int) + (q : Int) := by omega
          clear hb hz hs hl hqq
          go_wp2_with (go_at_call 57; refine (LE.out _).mono ?_; rintro e w4 ⟨rfl, rfl⟩)
          go_roundw
          case rel => exact ⟨t + 1, _, rfl, by omega, by go_num, by first | exact HBB.out | exact HBB.out.drw | exact HBB.out.drwN _⟩
          case measure => simp [intOf]; omega
        · obtain rfl : t = q + q := by omega
          clear hb
          go_wp2
          go_loopw [48] (fun s48 wx => ∃ (t : Nat) (V : World), V = wx ∧ t ≤ q + q ∧ s48 = .int .i64 (t : Int) ∧ Bel w2 wx) (fun s48 _ => q + q - (intOf s48).toNat)
          case atStart => exact ⟨0, _, rfl, by omega, rfl, (by first | exact HBB.out | exact HBB.out.drw | exact HBB.out.drwN _)⟩
          case round =>
            obtain ⟨t, wx, hwr, ht, rfl, hb⟩ := hrel
            subst hwr
            clear HBB
            have HBB := Lib.hid hb
            rcases Nat.lt_or_ge t (q + q) with hlt | hge
            · obtain ⟨A, l, c, L, kc, hz, hs, hl⟩ := HA.out.bel hb t hlt
              have hqq := HQ.out
              have SA : Hid (Calls Try.prog 58 #[.slice A l c] wx fun e w' => e = .returned (.bool true) ∧ Bel wx w') := Lib.hid (samples_ok A c l L (by rcases hl with rfl | rfl <;> omega) hs wx hz)
              have ti : (t : Int) < (q : Int) + (q : Int) := by omega
              clear hb hz hs hl hqq
              go_wp2_with (go_at_call 58; refine SA.out.mono ?_; rintro e w4 ⟨rfl, h4⟩)
              go_roundw
              case rel => exact ⟨_, _, _, _, _, _, _, _, _, _, ⟨t + 1, _, rfl, by omega, (by first | rfl | go_num), by first | exact HBB.out.tr h4 | exact (HBB.out.tr h4).drw | exact (HBB.out.tr h4).drwN _⟩, rfl⟩
              case measure => simp [intOf]; omega
            · obtain rfl : t = q + q := by omega
              have HB4 : Hid (Bel w wx) := HB3.out.tr hb
              clear hb HBB
              have k1 := ((HX.out.bel HB4.out).2 0 (by have := HQ.out.1; omega)).1
              have k2 := ((HY.out.bel HB4.out).2 0 (by have := HQ.out.1; omega)).1
              have KS : Hid (∀ W', Bel wx W' → ((fun w' => w'.cell? ⟨g1, o, none⟩ = some (.slice (As 0) n (cs 0)) ∧ w'.cell? ⟨g2, o, none⟩ = some (.slice (Bs 0) m (ds 0))) W')) := fun W' h => ⟨h.kp k1, h.kp k2⟩
              have E1 : Hid (∀ W, Bel wx W → Calls Try.prog 68 #[.slice (some ⟨g1, o, none⟩) q c1] W fun e w' => e = .returned (.bool true) ∧ Bel W w') := fun W h => even_ok o g1 q c1 n As cs Ls HQ.out.1 (by have := HQ.out.2.1; omega) W (HX.out.bel (HB4.out.tr h))
              have E2 : Hid (∀ W, Bel wx W → Calls Try.prog 68 #[.slice (some ⟨g2, o, none⟩) q c2] W fun e w' => e = .returned (.bool true) ∧ Bel W w') := fun W h => even_ok o g2 q c2 m Bs ds Ms HQ.out.1 (by have := HQ.out.2.1; omega) W (HY.out.bel (HB4.out.tr h))
              have hqq := HQ.out
              have AB : Hid (∀ W, Calls Try.prog 60 #[.int .i64 ((n : Int) - (m : Int))] W fun e w' => (∃ a : Int, e = .returned (.int .i64 a) ∧ 0 ≤ a ∧ a ≤ b ∧ a ≤ 1000) ∧ W = w') := Lib.hid (abs_le ((n : Int) - (m : Int)) b (by omega) (by omega) (by omega) (by omega))
              have j1 : (0 : Int) < (q : Int) := by omega
              have j1b : 0 < q := by omega
              have jw : IntKind.i64.wrap ((n : Int) - (m : Int)) = (n : Int) - (m : Int) := by rw [IntKind.wrap_i64]; omega
              have j2 : (n : Int) ≤ 32 := by omega
              have j3 : (m : Int) ≤ 32 := by omega
              have j4 : (2 : Int) ≤ (n : Int) := by omega
              have j5 : (2 : Int) ≤ (m : Int) := by omega
              clear hqq k1 k2
              go_wp2_with fail
              go_region_held3 (fun w' => w'.cell? ⟨g1, o, none⟩ = some (.slice (As 0) n (cs 0)) ∧ w'.cell? ⟨g2, o, none⟩ = some (.slice (Bs 0) m (ds 0)))
                (exact KS.out _ (by repeat (first | exact Bel.rf | (with_reducible refine Bel.drwN ?_ _) | (with_reducible refine Bel.drw ?_) | (refine Bel.tr ?_ (by assumption)))))
                (first
                  | (go_at_call 68; first
                    | ((with_reducible refine (E1.out _ (by repeat (first | exact Bel.rf | (with_reducible refine Bel.drwN ?_ _) | (with_reducible refine Bel.drw ?_) | refine Bel.tr ?_ (by assumption)))).mono ?_); rintro r s4 ⟨rfl, h4⟩)
                    | ((with_reducible refine (E2.out _ (by repeat (first | exact Bel.rf | (with_reducible refine Bel.drwN ?_ _) | (with_reducible refine Bel.drw ?_) | refine Bel.tr ?_ (by assumption)))).mono ?_); rintro r s5 ⟨rfl, h5⟩))
                  | (go_at_call 60; refine (AB.out _).mono ?_; rintro r s6 ⟨⟨a, rfl, a0, a1, a2⟩, rfl⟩))
              all_goals
                go_wp2
                go_ret
                exact ⟨rfl, HB4.out.tr (by repeat (first | exact Bel.rf | (with_reducible refine Bel.drwN ?_ _) | (with_reducible refine Bel.drw ?_) | refine Bel.tr ?_ (by assumption)))⟩
end Go.Proofs.Ythmdponfigepjaa.Co
