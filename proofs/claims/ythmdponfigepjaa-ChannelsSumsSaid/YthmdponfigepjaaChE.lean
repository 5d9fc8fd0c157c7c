/- euclid.Distance; channels.Euclid of bundles that fit. -/
import Derived.Test.YthmdponfigepjaaChU
import Derived.Test.YthmdponfigepjaaEuc0
namespace Go.Proofs.Ythmdponfigepjaa.Ch
open Go.ChangeShapes Go.WideShapes Go.RowKit Wo Sr Wi Nr Ra Eu
set_option linter.unusedVariables false
set_option maxHeartbeats 8000000 in
set_option maxRecDepth 100000 in
theorem squares_ok (A A' : Option Addr) (c c' n : Nat) (L M : List Int) (n2 : n ≤ 32) (hs : Sam L) (ht : Sam M) (w : World) (h1 : Zi w A n L) (h2 : Zi w A' n M) :
    Calls Try.prog 69 #[.slice A n c, .slice A' n c', .int .i64 9223372036854775807] w fun e w' => e = .returned (.int .i64 (su sq (df L M))) ∧ Bel w w' := by
  have H1 := Lib.hid h1
  have H2 := Lib.hid h2
  have HS := Lib.hid hs
  have HT := Lib.hid ht
  have hlen : L.length = M.length := by rw [h1.1, h2.1]
  have hl := h1.1
  have HD : Hid (Bd 2000 (df L M)) := df_bd (A := 1000) (B := 1000) hs ht
  have i2 : (n : Int) ≤ 32 := by omega
  clear h1 h2 hs ht
  go_enter Try.func69, Try.ntmps69
  go_wp2
  go_step3
  go_wp2
  go_step3
  go_wp2
  go_loopw [7, 12] (fun s7 s12 wr => ∃ (t : Nat) (V : World) (s : Int), V = wr ∧ t ≤ n ∧ s12 = .int .i64 (t : Int) ∧ s7 = .int .i64 s ∧ s = su sq ((df L M).take t) ∧ Bel w wr) (fun _ s12 _ => n - (intOf s12).toNat)
  case atStart => exact ⟨0, _, 0, rfl, by omega, rfl, rfl, by simp [su], Bel.rf⟩
  case round =>
    obtain ⟨t, wr, s, hwr, ht, rfl, rfl, hs, hb⟩ := hrel
    subst hwr
    have HB := Lib.hid hb
    have HSV := Lib.hid hs
    rcases Nat.lt_or_ge t n with hlt | hge
    · obtain ⟨ad, rfl, _, hac⟩ := (H1.out.bel hb).2 (by omega)
      obtain ⟨ad', rfl, _, hac'⟩ := (H2.out.bel hb).2 (by omega)
      have c1 := hac t hlt
      have c2 := hac' t hlt
      have hd := df_at hlen t (by omega)
      have hn := su_next sq (df L M) t (by rw [df_len hlen]; omega)
      have hbd := susq_bd (HD.out.take t)
      have hbd2 := susq_bd (HD.out.take (t + 1))
      have tl : (((df L M).take t).length : Int) ≤ 32 ∧ (((df L M).take (t + 1)).length : Int) ≤ 32 := by
        have := List.length_take_le t (df L M)
        have := List.length_take_le (t + 1) (df L M)
        omega
      have px := HS.out.at t
      have py := HT.out.at t
      obtain ⟨x, hx⟩ : ∃ x, L.getD t 0 = x := ⟨_, rfl⟩
      obtain ⟨y, hy⟩ : ∃ y, M.getD t 0 = y := ⟨_, rfl⟩
      rw [hx] at c1 px hd
      rw [hy] at c2 py hd
      rw [hd] at hn
      rw [hn, ← hs] at hbd2
      rw [← hs] at hbd hn
      unfold sq at hn hbd2
      obtain ⟨x0, x1⟩ := px
      obtain ⟨y0, y1⟩ := py
      obtain ⟨d, hdd⟩ : ∃ d, x - y = d := ⟨_, rfl⟩
      rw [hdd] at hn hbd2
      have HN : Hid (s + d * d = su sq ((df L M).take (t + 1))) := hn.symm
      have s0 : 0 ≤ s ∧ s ≤ 128000000 ∧ 0 ≤ s + d * d ∧ s + d * d ≤ 128000000 := by
        obtain ⟨a, b⟩ := hbd
        obtain ⟨a2, b2⟩ := hbd2
        omega
      have dq := sq_nn d
      obtain ⟨s00, s01, s02, s03⟩ := s0
      have m1 : wrap64 (d * d) = d * d := IntWalk.wrap64_in _ (by omega)
      have m2 : IntKind.i64.wrap (d * d) = d * d := IntWalk.i64_in _ (by omega)
      have m3 : IntKind.i64.wrap (s + d * d) = s + d * d := IntWalk.i64_in _ (by omega)
      have m5 : IntKind.i64.wrap d = d := IntWalk.i64_in _ (by omega)
      have m6 : IntKind.i64.wrap (x - y) = d := by rw [hdd]; exact m5
      have bk : decide (9223372036854775807 < s + d * d) = false := decide_eq_false (by omega)
      have ti : (t : Int) < (n : Int) := by omega
      have HXY := Lib.hid (And.intro hx hy)
      clear hb hs hac hac' hd hbd hbd2 tl hx hy hn
      go_wp2
      go_quiet (fail)
      go_wp2
      go_roundw
      case rel => exact ⟨t + 1, _, _, rfl, by omega, by go_num, rfl, HN.out, by first | exact HB.out.drwN _ | exact HB.out.drw | exact HB.out⟩
      case measure => simp [intOf]; omega
    · obtain rfl : t = n := by omega
      have e : (df L M).take t = df L M := List.take_of_length_le (by rw [df_len hlen]; omega)
      rw [e] at hs
      clear hb
      go_wp2
      rw [Exit.noGoto_ret]
      go_ret
      exact ⟨ret_int hs, HB.out⟩
theorem distance_ok (A A' : Option Addr) (c c' n : Nat) (L M : List Int) (n1 : 2 ≤ n) (n2 : n ≤ 32) (hs : Sam L) (ht : Sam M) (w : World) (h1 : Zi w A n L) (h2 : Zi w A' n M) :
    Calls Try.prog 47 #[.slice A n c, .slice A' n c'] w fun e w' => e = .returned (.tuple #[.int .i64 (su sq (df L M)), .int .i64 0]) ∧ Bel w w' := by
  have HW : Hid (∀ W, Bel w W → _) := fun W hW => windows_ok A A' c c' n L M n1 n2 hs ht W (h1.bel hW) (h2.bel hW)
  have HQ : Hid (∀ W, Bel w W → _) := fun W hW => squares_ok A A' c c' n L M n2 hs ht W (h1.bel hW) (h2.bel hW)
  clear h1 h2 hs ht
  go_enter Try.func47, Try.ntmps47
  go_wp2_with fail
  go_at_call 30
  refine (HW.out _ Bel.rf).mono ?_
  rintro e w1 ⟨rfl, hb1⟩
  have HB1 := Lib.hid hb1
  clear hb1
  go_wp2_with (go_at_call 69; refine (HQ.out _ HB1.out).mono ?_; rintro e w2 ⟨rfl, hb2⟩)
  go_ret2
  exact ⟨rfl, HB1.out.tr hb2⟩
/-- the sum of the squares over the first channels -/
def es (Ls Ms : Nat → List Int) : Nat → Int
  | 0 => 0
  | c + 1 => es Ls Ms c + su sq (df (Ls c) (Ms c))
set_option maxHeartbeats 8000000 in
set_option maxRecDepth 100000 in
theorem euclid_ok (g1 g2 q n c1 c2 : Nat) (As Bs : Nat → Option Addr) (cs ds : Nat → Nat) (Ls Ms : Nat → List Int) (q1 : 1 ≤ q) (q4 : q ≤ 4) (n2 : 2 ≤ n) (n32 : n ≤ 32) (hE : ∀ t, t ≤ q → 0 ≤ es Ls Ms t ∧ es Ls Ms t ≤ 2000000000) (w : World) (hX : Bun w g1 q n As cs Ls) (hY : Bun w g2 q n Bs ds Ms) :
    Calls Try.prog 22 #[.slice (some ⟨g1, 0, none⟩) q c1, .slice (some ⟨g2, 0, none⟩) q c2] w fun e w' => e = .returned (.tuple #[.int .i64 (es Ls Ms q), .int .i64 0]) ∧ Bel w w' := by
  have HX := Lib.hid hX
  have HY := Lib.hid hY
  have HEE := Lib.hid hE
  have i4 : (q : Int) ≤ 4 := by omega
  have HQ := Lib.hid (And.intro n2 n32)
  have CK := Lib.hid (check_ok g1 g2 q n n c1 c2 As Bs cs ds Ls Ms 0 q1 q4 n2 n32 n2 n32 (by omega) (by omega) w hX hY)
  clear hX hY hE n2 n32
  go_enter Try.func22, Try.ntmps22
  go_wp2_with fail
  go_at_call 46
  refine CK.out.mono ?_
  rintro e w1 ⟨rfl, hb⟩
  have HB1 : Hid (Bel w w1) := hb
  clear hb CK
  go_wp2
  go_loopw [7, 19] (fun s7 s19 wr => ∃ (t : Nat) (V : World), V = wr ∧ t ≤ q ∧ s7 = .int .i64 (es Ls Ms t) ∧ s19 = .int .i64 (t : Int) ∧ Bel w wr) (fun _ s19 _ => q - (intOf s19).toNat)
  case atStart => exact ⟨0, _, rfl, by omega, rfl, rfl, HB1.out⟩
  case round =>
    obtain ⟨t, wr, hwr, ht, rfl, rfl, hb⟩ := hrel
    subst hwr
    have HB := Lib.hid hb
    clear hb
    rcases Nat.lt_or_ge t q with hlt | hge
    · have ti : (t : Int) < (q : Int) := by omega
      obtain ⟨k1, z1, s1⟩ := (HX.out.bel HB.out).2 t hlt
      obtain ⟨k2, z2, s2⟩ := (HY.out.bel HB.out).2 t hlt
      have DI : Hid (∀ W, Bel wr W → Calls Try.prog 47 #[.slice (As t) n (cs t), .slice (Bs t) n (ds t)] W fun e w' => e = .returned (.tuple #[.int .i64 (su sq (df (Ls t) (Ms t))), .int .i64 0]) ∧ Bel W w') := fun W h =>
        distance_ok (As t) (Bs t) (cs t) (ds t) n (Ls t) (Ms t) HQ.out.1 HQ.out.2 s1 s2 W (z1.bel h) (z2.bel h)
      have HF : Hid (es Ls Ms (t + 1) = es Ls Ms t + su sq (df (Ls t) (Ms t))) := rfl
      have f2 := HEE.out (t + 1) hlt
      rw [HF.out] at f2
      obtain ⟨u, hu⟩ : ∃ u, su sq (df (Ls t) (Ms t)) = u := ⟨_, rfl⟩
      rw [hu] at HF f2 DI
      obtain ⟨v, hv⟩ : ∃ v, es Ls Ms t = v := ⟨_, rfl⟩
      rw [hv] at HF f2 ⊢
      have wv : IntKind.i64.wrap (v + u) = v + u := IntWalk.i64_in _ ⟨by omega, by omega⟩
      have KS : Hid (∀ W', Bel wr W' → ((fun w' => w'.cell? ⟨g1, t, none⟩ = some (.slice (As t) n (cs t)) ∧ w'.cell? ⟨g2, t, none⟩ = some (.slice (Bs t) n (ds t))) W')) := fun W' h => ⟨h.kp k1, h.kp k2⟩
      clear k1 k2 z1 z2 s1 s2 f2 hu hv
      go_wp2_with fail
      go_region_held3 (fun w' => w'.cell? ⟨g1, t, none⟩ = some (.slice (As t) n (cs t)) ∧ w'.cell? ⟨g2, t, none⟩ = some (.slice (Bs t) n (ds t)))
        (exact KS.out _ (by repeat (first | exact Bel.rf | (with_reducible refine Bel.drwN ?_ _) | (with_reducible refine Bel.drw ?_) | (refine Bel.tr ?_ (by assumption)))))
        ((go_at_call 47; refine (DI.out _ (by repeat (first | exact Bel.rf | (with_reducible refine Bel.drwN ?_ _) | (with_reducible refine Bel.drw ?_) | (refine Bel.tr ?_ (by assumption))))).mono ?_; rintro r s4 ⟨rfl, h4⟩))
      all_goals
        have HB4 : Hid (Bel w s4) := HB.out.tr (by repeat (first | exact Bel.rf | (with_reducible refine Bel.drwN ?_ _) | (with_reducible refine Bel.drw ?_) | (refine Bel.tr ?_ (by assumption))))
        go_wp2
        go_roundw
        case rel => exact ⟨t + 1, _, rfl, by omega, by rw [HF.out], by go_num, by first | exact HB4.out | exact HB4.out.drw | exact HB4.out.drwN _⟩
        case measure => simp [intOf]; omega
    · obtain rfl : t = q := by omega
      go_wp2
      exact bodyPost_ret (v := .tuple #[.int .i64 (es Ls Ms t), .int .i64 0]) (by simp [results, Try.results22, go_sem]) rfl ⟨rfl, HB.out⟩
end Go.Proofs.Ythmdponfigepjaa.Ch
