/- segment.Decode of any bytes. -/
import Derived.Test.YtaplbkfmedofcaaSgO
namespace Go.Proofs.Ytaplbkfmedofcaa.Sg
open Go.ChangeShapes Go.WideShapes Go.RowKit Wo Bm By Cd Pk Cr
open Wi (Zi zi_bk)
open Sr (zs zs_at zs_len)
set_option linter.unusedVariables false
def SomeDc (P : List Nat) (w : World) (e : Ending) (w' : World) : Prop := ∃ (A : Option Addr) (n c : Nat) (L : List Int) (er : Int), e = .returned (.tuple #[.slice A n c, .int .i64 er]) ∧ Zi w' A n L ∧ n ≤ 64 ∧ n ≤ c ∧ c ≤ maxLen ∧ (A = none → c = 0) ∧ (∀ ad, A = some ad → ∃ h, ad = ⟨h, 0, none⟩ ∧ w.heap.size ≤ h) ∧ Bel w w' ∧
  (er ≠ 0 → A = none ∧ n = 0 ∧ c = 0) ∧ (er = 0 → Vx L ∧ seg L = P) ∧ (∀ x, Vx x → P = seg x → er = 0 ∧ L = x)
theorem dc_no {P : List Nat} {w w' : World} (er : Int) (her : er ≠ 0) (hb : Bel w w') (h : ∀ x, Vx x → P = seg x → False) : SomeDc P w (.returned (.tuple #[.slice none 0 0, .int .i64 er])) w' :=
  ⟨none, 0, 0, [], er, rfl, ⟨rfl, fun h => by omega⟩, by omega, by omega, by unfold maxLen; omega, fun _ => rfl, fun ad e => (by cases e), hb, fun _ => ⟨rfl, rfl, rfl⟩, fun h => absurd h her, fun x hx hp => (h x hx hp).elim⟩
set_option maxHeartbeats 4000000 in
set_option maxRecDepth 100000 in
theorem dec_any (A : Option Addr) (c M : Nat) (P : List Nat) (hM : M ≤ 1000000) (hc : M ≤ c) (hcm : c ≤ maxLen) (w : World) (hr : Rd w A M P) :
    Calls Try.prog 12 #[.slice A M c] w (SomeDc P w) := by
  have HR := Lib.hid hr
  rcases Nat.lt_or_ge M 9 with h9 | h9
  · have e1 : (M : Int) < 9 := by omega
    have HNO : Hid (∀ x, Vx x → P = seg x → False) := fun x hx h => by
      have h1 := (seg_len hx).1
      rw [← h, hr.1] at h1
      omega
    clear hr
    go_enter Try.func12, Try.ntmps12
    go_wp2
    go_ret2
    exact dc_no 2 (by decide) Bel.rf HNO.out
  · obtain ⟨ad, rfl, _⟩ := hr.2.2 (by omega)
    obtain ⟨E, hE⟩ : ∃ E, E + 4 = M := ⟨M - 4, by omega⟩
    have HH := Lib.hid (fun W (hb : Bel w W) => holds_okg ad c M E P hE hM hc hcm W (hr.bel hb))
    have HSX : Hid (∀ x, Vx x → P = seg x → P.take E = bod x ∧ P.drop E = seal4 (crc (bod x))) := fun x hx h => by
      have h1 := (seg_len hx).2.2
      have h2 := hr.1
      rw [h] at h2
      have e : E = (bod x).length := by omega
      subst h e
      exact seg_parts
    have e1 : ¬ (M : Int) < 9 := by omega
    rcases Classical.em (seal4 (crc (P.take E)) = P.drop E) with hs | hs
    · rw [decide_eq_true hs] at HH
      have hrt := rd_take hr E (by omega)
      have HSM := Lib.hid (fun W (hb : Bel w W) => smp_ok ad c E (P.take E) (by omega) (by omega) (by omega) (by unfold maxLen at hcm; omega) W (hrt.bel hb))
      have e2 : (M : Int) - 4 = (E : Int) := by omega
      have e3 : (0 : Int) ≤ (E : Int) := by omega
      have e4 : (E : Int) ≤ (c : Int) := by omega
      have e5 : (E : Int) ≤ (M : Int) := by omega
      have e6 : (M : Int) ≤ (c : Int) := by omega
      clear hr hs hrt
      go_enter Try.func12, Try.ntmps12
      go_wp2_with fail
      go_at_call 32
      refine (HH.out _ (by repeat (first | exact Bel.rf | (with_reducible refine Bel.drwN ?_ _) | (with_reducible refine Bel.drw ?_)))).mono ?_
      rintro e w1 ⟨rfl, hb1⟩
      have HB1 : Hid (Bel w w1) := by first | exact hb1 | exact Bel.rf.drw.tr hb1 | exact (Bel.rf.drwN _).tr hb1
      clear hb1
      go_wp2_with fail
      go_at_call 33
      refine (HSM.out _ (by first | exact HB1.out | exact HB1.out.drw | exact HB1.out.drwN _)).mono ?_
      rintro e w2 ⟨A2, n, c2, L, b, rfl, hz, hn, hnc, hcm2, hA2, hf2, hb2, hq⟩
      have HB2 : Hid (Bel w w2) := by first | exact HB1.out.tr hb2 | exact HB1.out.drw.tr hb2 | exact (HB1.out.drwN _).tr hb2
      have HZ := Lib.hid hz
      have HF : Hid (∀ ad, A2 = some ad → ∃ h, ad = ⟨h, 0, none⟩ ∧ w.heap.size ≤ h) := fun ad e => by
        obtain ⟨h, e1, h1⟩ := hf2 ad e
        exact ⟨h, e1, Nat.le_trans HB1.out.size h1⟩
      have HQ := Lib.hid hq
      clear hz hf2 hb2 hq
      rcases b with _ | _
      · have HNO : Hid (∀ x, Vx x → P = seg x → False) := fun x hx h => by
          have h1 := (HQ.out x hx (HSX.out x hx h).1).1
          cases h1
        go_wp2
        go_ret2
        exact dc_no 3 (by decide) HB2.out HNO.out
      · rcases Classical.em (Vx L) with hv | hv
        · have hlen := HZ.out.1
          obtain ⟨ad2, rfl, _⟩ := HZ.out.2 (by have := hv.1; omega)
          obtain ⟨g, rfl, hg⟩ := HF.out ad2 rfl
          have HE := Lib.hid (fun W (hb : Bel w2 W) => enc_ok g 0 c2 n L hv hlen W (HZ.out.bel hb))
          have HV := Lib.hid hv
          clear hv
          go_wp2_with fail
          go_at_call 11
          refine (HE.out _ (by first | exact Bel.rf | exact Bel.rf.drw | exact Bel.rf.drwN _)).mono ?_
          rintro e w3 ⟨u, rfl, ho3, hb3⟩
          have HB3 : Hid (Bel w2 w3) := by first | exact hb3 | exact Bel.rf.drw.tr hb3 | exact (Bel.rf.drwN _).tr hb3
          obtain ⟨g3, c3, rfl, _, _, _, hr3⟩ := own_rd ho3 (seg_byte HV.out) rfl (by have := (seg_len HV.out).1; omega)
          have HEQ := Lib.hid (fun W (hb : Bel w3 W) => equal_ok (some ⟨g3, 0, none⟩) (some ad) c3 c (seg L).length M (seg L) P W (hr3.bel hb) (HR.out.bel ((HB2.out.tr HB3.out).tr hb)))
          clear ho3 hb3 hr3
          rcases Classical.em (seg L = P) with hp | hp
          · rw [decide_eq_true hp] at HEQ
            have HP := Lib.hid hp
            clear hp
            go_wp2_with (go_at_call 34; refine (HEQ.out _ (by first | exact Bel.rf | exact Bel.rf.drw | exact Bel.rf.drwN _)).mono ?_; rintro e w4 ⟨rfl, rfl⟩)
            go_ret2
            refine ⟨_, n, c2, L, 0, rfl, HZ.out.bel (by first | exact HB3.out | exact HB3.out.drw | exact HB3.out.drwN _), hn, hnc, hcm2, hA2, HF.out, by first | exact HB2.out.tr HB3.out | exact (HB2.out.tr HB3.out).drw | exact (HB2.out.tr HB3.out).drwN _, fun h => absurd rfl h, fun _ => ⟨HV.out, HP.out⟩, fun x hx h => ⟨rfl, (HQ.out x hx (HSX.out x hx h).1).2⟩⟩
          · rw [decide_eq_false hp] at HEQ
            have HNO : Hid (∀ x, Vx x → P = seg x → False) := fun x hx h => by
              have h1 := (HQ.out x hx (HSX.out x hx h).1).2
              subst h1
              exact hp h.symm
            clear hp
            go_wp2_with (go_at_call 34; refine (HEQ.out _ (by first | exact Bel.rf | exact Bel.rf.drw | exact Bel.rf.drwN _)).mono ?_; rintro e w4 ⟨rfl, rfl⟩)
            go_ret2
            exact dc_no 3 (by decide) (by first | exact HB2.out.tr HB3.out | exact (HB2.out.tr HB3.out).drw | exact (HB2.out.tr HB3.out).drwN _) HNO.out
        · have HE := Lib.hid (fun W (hb : Bel w2 W) => enc_bad A2 c2 n L (by omega) hv W (HZ.out.bel hb))
          have HNO : Hid (∀ x, Vx x → P = seg x → False) := fun x hx h => by
            have h1 := (HQ.out x hx (HSX.out x hx h).1).2
            subst h1
            exact hv hx
          clear hv
          go_wp2_with fail
          go_at_call 11
          refine (HE.out _ (by first | exact Bel.rf | exact Bel.rf.drw | exact Bel.rf.drwN _)).mono ?_
          rintro e w3 ⟨er, rfl, her, hb3⟩
          have HB3 : Hid (Bel w2 w3) := by first | exact hb3 | exact Bel.rf.drw.tr hb3 | exact (Bel.rf.drwN _).tr hb3
          have hq : (er != 0) = true := by simpa using her
          clear her hb3
          go_wp2
          go_ret2
          exact dc_no 3 (by decide) (HB2.out.tr HB3.out) HNO.out
    · rw [decide_eq_false hs] at HH
      have HNO : Hid (∀ x, Vx x → P = seg x → False) := fun x hx h => by
        obtain ⟨h1, h2⟩ := HSX.out x hx h
        exact hs (by rw [h1, h2])
      clear hr hs
      go_enter Try.func12, Try.ntmps12
      go_wp2_with fail
      go_at_call 32
      refine (HH.out _ (by repeat (first | exact Bel.rf | (with_reducible refine Bel.drwN ?_ _) | (with_reducible refine Bel.drw ?_)))).mono ?_
      rintro e w1 ⟨rfl, hb1⟩
      have HB1 : Hid (Bel w w1) := by first | exact hb1 | exact Bel.rf.drw.tr hb1 | exact (Bel.rf.drwN _).tr hb1
      clear hb1
      go_wp2
      go_ret2
      exact dc_no 5 (by decide) HB1.out HNO.out
end Go.Proofs.Ytaplbkfmedofcaa.Sg
