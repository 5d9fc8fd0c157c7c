/- Seals of bytes at any address. -/
import Derived.Test.YtdkibffbaamkkaaPkD
namespace Go.Proofs.Ytdkibffbaamkkaa.Pk
open Go.ChangeShapes Go.WideShapes Go.RowKit Wo Sr Wi Rm Rg Cd Cr By
set_option linter.unusedVariables false
theorem add_add (a : Addr) (i j : Nat) : (a.add i).add j = a.add (i + j) := by
  unfold Addr.add
  rcases Nat.eq_zero_or_pos i with rfl | hi
  · simp
  · rcases Nat.eq_zero_or_pos j with rfl | hj
    · simp
    · rw [if_neg (by omega), if_neg (by omega), if_neg (by omega)]
      simp [Nat.add_assoc]
theorem rd_dropg {w : World} {ad : Addr} {n : Nat} {L : List Nat} (hr : Rd w (some ad) n L) (i : Nat) (hi : i ≤ n) : Rd w (some (ad.add i)) (n - i) (L.drop i) := by
  refine ⟨by rw [List.length_drop, hr.1], fun c hc => hr.2.1 c (List.mem_of_mem_drop hc), fun hp => ?_⟩
  obtain ⟨ad, e, hb, hc⟩ := hr.2.2 (by omega)
  cases e
  refine ⟨_, rfl, by rw [By.add_blk]; exact hb, fun j hj => ?_⟩
  have := hc (i + j) (by omega)
  rw [add_add, this]
  simp [List.getD_eq_getElem?_getD]
set_option maxHeartbeats 4000000 in
theorem holds_okg (ad : Addr) (c n E : Nat) (P : List Nat) (hE : E + 4 = n) (hn2 : n ≤ 1000000) (hc : n ≤ c) (hc2 : c ≤ maxLen) (w : World) (h1 : Rd w (some ad) n P) :
    Calls Try.prog 34 #[.slice (some ad) n c] w fun e w' => e = .returned (.bool (decide (seal4 (crc (P.take E)) = P.drop E))) ∧ Bel w w' := by
  have HS : Hid (∀ W, Bel w W → _) := fun W hW => seal_ok (some ad) c E (P.take E) (by rw [List.length_take, h1.1]; omega) (by omega) W ((rd_take h1 E (by omega)).bel hW)
  have HD : Hid (∀ W, Bel w W → Rd W (some (ad.add E)) 4 (P.drop E)) := fun W hW => by
    have := rd_dropg (h1.bel hW) E (by omega)
    rwa [show n - E = 4 by omega] at this
  have HQ : Hid (∀ (g x : Nat) W, Bk W g 5 (bys (seal4 (crc (P.take E)))).toArray → Bel w W → _) := fun g x W hg hW => equal_ok (some ⟨g, 0, none⟩) (some (ad.add E)) 4 x 4 4 (seal4 (crc (P.take E))) (P.drop E) W (rd_bk hg (seal4_byte _) 4 rfl) (HD.out W hW)
  obtain ⟨b, hb⟩ : ∃ b, decide (seal4 (crc (P.take E)) = P.drop E) = b := ⟨_, rfl⟩
  rw [hb] at HQ ⊢
  have e0 : (n : Int) - 4 = (E : Int) := by omega
  have e1 : (0 : Int) ≤ (E : Int) := by omega
  have e2 : (E : Int) ≤ (c : Int) := by omega
  have e3 : (E : Int) ≤ (n : Int) := by omega
  have e4 : n - E = 4 := by omega
  have e5 : ¬ c = E := by omega
  have e6 : E ≤ c := by omega
  have e7 : (n : Int) ≤ (c : Int) := by omega
  have ni : (n : Int) ≤ 1000000 := by omega
  clear h1 hb hE hc hc2 hn2
  go_enter Try.func34, Try.ntmps34
  go_wp2_with fail
  go_region_held3 (fun w' => Bel w w') ((repeat (first | exact HB1.out | exact Bel.rf | (with_reducible refine Bel.drwN ?_ _) | (with_reducible refine Bel.drw ?_)))) (first
    | (go_at_call 32; refine (HS.out _ (by repeat (first | exact Bel.rf | (with_reducible refine Bel.drwN ?_ _) | (with_reducible refine Bel.drw ?_)))).mono ?_; rintro e w1 ⟨g, rfl, hg, hk, hb1⟩; have HB1 : Hid (Bel w w1) := (by first | exact hb1 | exact Bel.rf.drw.tr hb1 | exact (Bel.rf.drwN _).tr hb1); have HK := Lib.hid hk; clear hk hb1)
    | (go_at_call 47; refine (HQ.out _ _ _ (by first | exact HK.out | exact HK.out.drw | exact HK.out.drwN _) (by first | exact HB1.out | exact HB1.out.drw | exact HB1.out.drwN _)).mono ?_; rintro e w2 ⟨rfl, rfl⟩))
  all_goals
    go_wp2
    go_ret
    exact ⟨rfl, by first | exact HB1.out | exact HB1.out.drw | exact HB1.out.drwN _⟩
end Go.Proofs.Ytdkibffbaamkkaa.Pk
