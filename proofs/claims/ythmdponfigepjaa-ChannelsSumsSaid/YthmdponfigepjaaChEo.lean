/- channels.Euclid, from an offset on. -/
import Derived.Test.YthmdponfigepjaaChCo
import Derived.Test.YthmdponfigepjaaChE
namespace Go.Proofs.Ythmdponfigepjaa.Co
open Go.ChangeShapes Go.WideShapes Go.RowKit Wo Sr Wi Ch Nr Ra Eu
set_option linter.unusedVariables false
set_option maxHeartbeats 8000000 in
set_option maxRecDepth 100000 in
theorem euclid_ok (o g1 g2 q n c1 c2 : Nat) (As Bs : Nat → Option Addr) (cs ds : Nat → Nat) (Ls Ms : Nat → List Int) (q1 : 1 ≤ q) (q4 : q ≤ 4) (n2 : 2 ≤ n) (n32 : n ≤ 32) (hE : ∀ t, t ≤ q → 0 ≤ es Ls Ms t ∧ es Ls Ms t ≤ 2000000000) (w : World) (hX : Bun w g1 o q n As cs Ls) (hY : Bun w g2 o q n Bs ds Ms) :
    Calls Try.prog 22 #[.slice (some ⟨g1, o, none⟩) q c1, .slice (some ⟨g2, o, none⟩) q c2] w fun e w' => e = .returned (.tuple #[.int .i64 (es Ls Ms q), .int .i64 0]) ∧ Bel w w' := by
  have HX := Lib.hid hX
  have HY := Lib.hid hY
  have HEE := Lib.hid hE
  have i4 : (q : Int) ≤ 4 := by omega
  have HQ := Lib.hid (And.intro n2 n32)
  have CK := Lib.hid (check_ok o g1 g2 q n n c1 c2 As Bs cs ds Ls Ms 0 q1 q4 n2 n32 n2 n32 (by omega) (by omega) w hX hY)
  clear hX hY hE n2 n32
  go_enter Try.func22, Try.ntmps22
  go_wp2_with fail
  go_at_call 46
  refine CK.out.mono ?_
  rintro e w1 ⟨rfl, hb⟩
  have HB1 : Hid (Bel w w1) := hb
  clear hb CK
  go_wp2
  go_loopw [7, 19] (fun s7 s19 wr => ∃ (t : Nat) (V : World), V = wr ∧ t ≤ q ∧ s7 = .int .i64 (es Ls Ms t) ∧ s19 = .int .i64 (t : Int) ∧ Bel w wr) (fun _ s19 _ => q - (intOf s19).toNat)
  case atStart => exact ⟨0, _, rfl, by omega, rfl, rfl, HB1.out⟩
  case round =>
    obtain ⟨t, wr, hwr, ht, rfl, rfl, hb⟩ := hrel
    subst hwr
    have HB := Lib.hid hb
    clear hb
    rcases Nat.lt_or_ge t q with hlt | hge
    · have ti : (t : Int) < (q : Int) := by omega
      obtain ⟨k1, z1, s1⟩ := (HX.out.bel HB.out).2 t hlt
      obtain ⟨k2, z2, s2⟩ := (HY.out.bel HB.out).2 t hlt
      have DI : Hid (∀ W, Bel wr W → Calls Try.prog 47 #[.slice (As t) n (cs t), .slice (Bs t) n (ds t)] W fun e w' => e = .returned (.tuple #[.int .i64 (su sq (df (Ls t) (Ms t))), .int .i64 0]) ∧ Bel W w') := fun W h =>
        distance_ok (As t) (Bs t) (cs t) (ds t) n (Ls t) (Ms t) HQ.out.1 HQ.out.2 s1 s2 W (z1.bel h) (z2.bel h)
      have HF : Hid (es Ls Ms (t + 1) = es Ls Ms t + su sq (df (Ls t) (Ms t))) := rfl
      have f2 := HEE.out (t + 1) hlt
      rw [HF.out] at f2
      obtain ⟨u, hu⟩ : ∃ u, su sq (df (Ls t) (Ms t)) = u := ⟨_, rfl⟩
      rw [hu] at HF f2 DI
      obtain ⟨v, hv⟩ : ∃ v, es Ls Ms t = v := ⟨_, rfl⟩
      rw [hv] at HF f2 ⊢
      have wv : IntKind.i64.wrap (v + u) = v + u := IntWalk.i64_in _ ⟨by omega, by omega⟩
      have KS : Hid (∀ W', Bel wr W' → ((fun w' => w'.cell? ⟨g1, o + t, none⟩ = some (.slice (As t) n (cs t)) ∧ w'.cell? ⟨g2, o + t, none⟩ = some (.slice (Bs t) n (ds t))) W')) := fun W' h => ⟨h.kp k1, h.kp k2⟩
      clear k1 k2 z1 z2 s1 s2 f2 hu hv
      go_wp2_with fail
      go_region_held3 (fun w' => w'.cell? ⟨g1, o + t, none⟩ = some (.slice (As t) n (cs t)) ∧ w'.cell? ⟨g2, o + t, none⟩ = some (.slice (Bs t) n (ds t)))
        (exact KS.out _ (by repeat (first | exact Bel.rf | (with_reducible refine Bel.drwN ?_ _) | (with_reducible refine Bel.drw ?_) | (refine Bel.tr ?_ (by assumption)))))
        ((go_at_call 47; refine (DI.out _ (by repeat (first | exact Bel.rf | (with_reducible refine Bel.drwN ?_ _) | (with_reducible refine Bel.drw ?_) | (refine Bel.tr ?_ (by assumption))))).mono ?_; rintro r s4 ⟨rfl, h4⟩))
      all_goals
        have HB4 : Hid (Bel w s4) := HB.out.tr (by repeat (first | exact Bel.rf | (with_reducible refine Bel.drwN ?_ _) | (with_reducible refine Bel.drw ?_) | (refine Bel.tr ?_ (by assumption))))
        go_wp2
        go_roundw
        case rel => exact ⟨t + 1, _, rfl, by omega, by rw [HF.out], by go_num, by first | exact HB4.out | exact HB4.out.drw | exact HB4.out.drwN _⟩
        case measure => simp [intOf]; omega
    · obtain rfl : t = q := by omega
      go_wp2
      exact bodyPost_ret (v := .tuple #[.int .i64 (es Ls Ms t), .int .i64 0]) (by simp [results, Try.results22, go_sem]) rfl ⟨rfl, HB.out⟩
end Go.Proofs.Ythmdponfigepjaa.Co
