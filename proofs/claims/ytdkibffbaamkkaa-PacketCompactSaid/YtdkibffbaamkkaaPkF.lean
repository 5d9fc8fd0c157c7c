/- The contract of packet.Decode, for any bytes. -/
import Derived.Test.YtdkibffbaamkkaaPkG
import Derived.Test.YtdkibffbaamkkaaPkB4
namespace Go.Proofs.Ytdkibffbaamkkaa.Pk
open Go.ChangeShapes Go.WideShapes Go.RowKit Wo Sr Wi Rm Rg Cd Cr By
set_option linter.unusedVariables false
/-- the readings of a packet, or an error -/
def SomeRead (P : List Nat) (w : World) (e : Ending) (w' : World) : Prop := ∃ (u : Value) (er : Int), e = .returned (.tuple #[u, .int .i64 er]) ∧ Bel w w' ∧ (er ≠ 0 → u = .slice none 0 0) ∧ (∀ l, Vrs l → l.length ≤ 2000 → P = pck l → er = 0) ∧
  (er = 0 → ∃ (k : Nat) (l : List Rp), w'.ownsRow w.heap.size 40 2 u k (rs l) ∧ l.length = k ∧ k ≤ 2000 ∧ Vrs l ∧ P = pck l)
theorem read_err (P : List Nat) (w w' : World) (er : Int) (h : er ≠ 0) (hs : ∀ l, Vrs l → l.length ≤ 2000 → P = pck l → er = 0) (hb : Bel w w') : SomeRead P w (.returned (.tuple #[.slice none 0 0, .int .i64 er])) w' :=
  ⟨_, er, rfl, hb, fun _ => rfl, hs, fun h2 => absurd h2 h⟩
theorem own_base2 {w : World} {B C n : Nat} {e : TypeId} {v : Value} {xs : List Value} (h : w.ownsRow B e 2 v n xs) (hc : C ≤ B) : w.ownsRow C e 2 v n xs := by
  refine ⟨h.1, ?_⟩
  rcases h.2 with hn | ⟨g, cap, cur, rfl, hb, rest⟩
  · exact .inl hn
  · exact .inr ⟨g, cap, cur, rfl, by omega, rest⟩
theorem body_take (l : List Rp) : (body l).take 3 = [84, 83, 49] ∧ (body l).drop 3 = bytesOf (l.length : Int) ++ pk l 0 0 ∧ 3 ≤ (body l).length := by
  unfold body
  refine ⟨rfl, rfl, by simp⟩
theorem pck_cut {l : List Rp} {P : List Nat} {E : Nat} (h : P = pck l) (hE : E + 4 = P.length) : P.take E = body l ∧ P.drop E = seal4 (crc (body l)) ∧ P.take 3 = [84, 83, 49] := by
  subst h
  have hl : (pck l).length = (body l).length + 4 := by unfold pck; simp [seal4]
  have e : E = (body l).length := by omega
  subst e
  unfold pck
  refine ⟨List.take_left, List.drop_left, ?_⟩
  rw [List.take_append_of_le_length (body_take l).2.2]
  exact (body_take l).1
theorem pck_of {l : List Rp} {P : List Nat} {E : Nat} (hE : E + 4 = P.length) (h3 : 3 ≤ E) (hp : P.take 3 = [84, 83, 49]) (hs : seal4 (crc (P.take E)) = P.drop E) (hd : (P.take E).drop 3 = bytesOf (l.length : Int) ++ pk l 0 0) : P = pck l := by
  have e1 : P.take E = body l := by
    rw [← List.take_append_drop 3 (P.take E), hd, List.take_take, show min 3 E = 3 by omega, hp]
    rfl
  rw [← List.take_append_drop E P, ← hs, e1]
  rfl
set_option maxHeartbeats 4000000 in
theorem dec_ok (A : Option Addr) (c n : Nat) (P : List Nat) (hn2 : n ≤ 1000000) (hc : n ≤ c) (hc2 : c ≤ maxLen) (w : World) (h1 : Rd w A n P) :
    Calls Try.prog 16 #[.slice A n c] w (SomeRead P w) := by
  have hl := h1.1
  rcases Nat.lt_or_ge n 7 with h7 | h7
  · have HC : Hid (∀ l, Vrs l → l.length ≤ 2000 → P = pck l → (2 : Int) = 0) := fun l hv h2 h => by
      have := (pck_len hv h2).1
      rw [← h, hl] at this
      omega
    have n7 : (n : Int) < 7 := by omega
    clear h1
    go_enter Try.func16, Try.ntmps16
    go_wp2
    go_ret2
    exact read_err P _ _ 2 (by decide) HC.out Bel.rf
  · obtain ⟨E, hE⟩ : ∃ E, E + 4 = n := ⟨n - 4, by omega⟩
    obtain ⟨ad, rfl, _⟩ := h1.2.2 (by omega)
    have HH : Hid (∀ W, Bel w W → _) := fun W hW => holds_okg ad c n E P hE hn2 hc hc2 W (h1.bel hW)
    have HX : Hid (∀ (g : Nat) W, Rd W (some ⟨g, 0, none⟩) 3 [84, 83, 49] → Bel w W → _) := fun g W hg hW => prefix_ok (some ad) (some ⟨g, 0, none⟩) c 3 n P [84, 83, 49] (by omega) hn2 hc W (h1.bel hW) hg
    have HDB : Hid (∀ W, Bel w W → _) := fun W hW => dbody_ok (some ad) E E (P.take E) (by omega) (by omega) W (rd_take (h1.bel hW) E (by omega))
    obtain ⟨b, hb⟩ : ∃ b, decide (P.take 3 = [84, 83, 49]) = b := ⟨_, rfl⟩
    obtain ⟨b2, hb2⟩ : ∃ b, decide (seal4 (crc (P.take E)) = P.drop E) = b := ⟨_, rfl⟩
    rw [hb] at HX
    rw [hb2] at HH
    have HBB := Lib.hid (And.intro hb hb2)
    have HLE : Hid (E + 4 = P.length) := (by rw [hl]; exact hE)
    have n7 : ¬ (n : Int) < 7 := by omega
    have ni : (n : Int) ≤ 1000000 := by omega
    have e0 : (n : Int) - 4 = (E : Int) := by omega
    have e1 : (0 : Int) ≤ (E : Int) := by omega
    have e2 : (E : Int) ≤ (c : Int) := by omega
    have hcv := Lib.run_convert_bytes_const (P := Try.prog) w 23 5 #[.int .u8 84, .int .u8 83, .int .u8 49] 3 3 Try.underlying23 Try.underlying5
    obtain ⟨W1, hW1⟩ : ∃ W1, w.alloc (.cells #[.int .u8 84, .int .u8 83, .int .u8 49] 5 ((#[.int .u8 84, .int .u8 83, .int .u8 49] : Array Value).size, (#[.int .u8 84, .int .u8 83, .int .u8 49] : Array Value).size + 1)) = W1 := ⟨_, rfl⟩
    rw [hW1] at hcv
    have HBW : Hid (Bel w W1) := (by rw [← hW1]; exact Bel.rf.al _)
    have HR1 : Hid (Rd W1 (some ⟨w.heap.size, 0, none⟩) 3 [84, 83, 49]) := by
      rw [← hW1]
      refine ⟨rfl, by decide, fun _ => ⟨_, rfl, by simp, fun j hj => ?_⟩⟩
      rw [By.add_row, cell_of_row _ _ _ _ _ _ (heap_alloc_new w _)]
      rcases (show j = 0 ∨ j = 1 ∨ j = 2 by omega) with rfl | rfl | rfl <;> rfl
    clear hW1 h1 hb hb2 hl
    go_enter Try.func16, Try.ntmps16
    go_wp2_with fail
    go_at_call 33
    refine (HX.out _ _ HR1.out HBW.out).mono ?_
    rintro e w2 ⟨rfl, rfl⟩
    clear hcv
    rcases b with _ | _
    · have HC : Hid (∀ l, Vrs l → l.length ≤ 2000 → P = pck l → (3 : Int) = 0) := fun l hv h2 h => absurd (pck_cut h HLE.out).2.2 (of_decide_eq_false HBB.out.1)
      go_wp2
      go_ret2
      exact read_err P _ _ 3 (by decide) HC.out HBW.out
    · go_wp2_with fail
      go_at_call 34
      refine (HH.out _ HBW.out).mono ?_
      rintro e w3 ⟨rfl, hb3⟩
      have HB3 := Lib.hid (HBW.out.tr hb3)
      clear hb3
      rcases b2 with _ | _
      · have HC : Hid (∀ l, Vrs l → l.length ≤ 2000 → P = pck l → (5 : Int) = 0) := fun l hv h2 h => absurd (by rw [(pck_cut h HLE.out).1, (pck_cut h HLE.out).2.1]) (of_decide_eq_false HBB.out.2)
        go_wp2
        go_ret2
        exact read_err P _ _ 5 (by decide) HC.out HB3.out
      · go_wp2_with fail
        go_at_call 35
        refine (HDB.out _ HB3.out).mono ?_
        rintro e w4 ⟨u, er, rfl, hb4, hu, hs, hok⟩
        have HS := Lib.hid (And.intro hb4 (And.intro hu (And.intro hs hok)))
        clear hb4 hu hs hok
        go_wp2
        go_ret2
        refine ⟨u, er, rfl, HB3.out.tr HS.out.1, HS.out.2.1, fun l hv h2 h => HS.out.2.2.1 ⟨l, hv, h2, ?_⟩, fun h => ?_⟩
        · rw [(pck_cut h HLE.out).1]
          exact (body_take l).2.1
        · obtain ⟨k, l, ho, hl, hk, hv, hd⟩ := HS.out.2.2.2 h
          subst hl
          exact ⟨_, l, own_base2 ho HB3.out.size, rfl, hk, hv, pck_of HLE.out (by omega) (of_decide_eq_true HBB.out.1) (of_decide_eq_true HBB.out.2) hd⟩
end Go.Proofs.Ytdkibffbaamkkaa.Pk
