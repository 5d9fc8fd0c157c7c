/- (*shapesearchkeep.Src).Bent: a list that was changed at one place, or in its length. -/
import Derived.Test.YtkonknkoggfeaaaAppW
import Derived.Deep.CutBlock
namespace Go.Proofs.Ytkonknkoggfeaaa.Sr
open Go.ChangeShapes Go.WideShapes Go.RowKit Wo Wi
set_option linter.unusedVariables false
def lenV : Value → Nat
  | .slice _ n _ => n
  | _ => 0
/-- numbers that a word holds -/
def Wd64 (L : List Int) : Prop := ∀ x ∈ L, -9223372036854775808 ≤ x ∧ x ≤ 9223372036854775807
def SomeBent (g : Nat) (m : Nat) (w : World) (e : Ending) (w' : World) : Prop :=
  ∃ (A : Option Addr) (c n : Nat) (L : List Int), e = .returned (.slice A n c) ∧ (n ≤ m + 33 ∧ n ≤ c) ∧ Zi w' A n L ∧ Wd64 L ∧ (∀ ad, A = some ad → w.heap.size ≤ ad.block) ∧ Ok w' g ∧ Ch g w w'
theorem sam_w {L : List Int} (h : Sam L) : Wd64 L := fun x hx => by have := h x hx; omega
set_option maxHeartbeats 8000000 in
set_option maxRecDepth 100000 in
theorem bent_any (g : Nat) (ad : Addr) (m c : Nat) (M : List Int) (hm : 1 ≤ m) (hm2 : m ≤ 900) (hM : Sam M) (w : World) (hz : Zi w (some ad) m M) (h : Ok w g) :
    Calls Try.prog 7 #[.pointer (some ⟨g, 0, none⟩), .slice (some ad) m c] w (SomeBent g m w) := by
  have HG0 := Lib.hid h
  have HGB := Lib.hid h.lt
  have HSM := Lib.hid hM
  have HLM := Lib.hid hz.1
  have HZ : Hid (Zi (w.alloc (.cells #[] 3)) (some ad) m M) := hz.bel (Bel.rf.al _)
  have HO := Lib.hid (own_made (base := w.heap.size) w w.heap.size rfl (Nat.le_refl _))
  have HM1 := Lib.hid hm
  have HM2 := Lib.hid hm2
  clear h hz hM
  go_enter Try.func7, Try.ntmps7
  go_wp2_with (at_builtin; refine list_app _ rfl (.tmp 6) (.tmp 7) rfl w.heap.size (.slice (some ⟨w.heap.size, 0, none⟩) 0 0) 0 [] rfl HO.out ad m c M rfl HZ.out (by omega) (by simp) ?_; intro v' w1 h2 h3 h4; rw [Nat.zero_add, List.nil_append] at h2; obtain ⟨q, cc, rfl, hq1, hq2⟩ := row_form h2 HM1.out; have hb2 : Bel w w1 := bel_grown (Bel.rf.al _) h3 (fun q e => by cases e; exact Nat.le_refl _))
  have HOW := Lib.hid h2
  have HB2 := Lib.hid hb2
  have HQ := Lib.hid hq2
  clear h2 h3 h4 hb2
  go_at_call 20
  refine (n_any g 4 (by decide) (by decide) _ (HG0.out.bel HB2.out)).mono ?_
  rintro e w2 ⟨x, rfl, x0, x1, ho, hc⟩
  have HO2 := Lib.hid ho
  have HC2 : Hid (Ch g w w2) := (Ch.of_bel HB2.out).tr hc
  have HW2 := Lib.hid (own_ch HOW.out hc HGB.out)
  have HL2 : Hid (w.heap.size ≤ w2.heap.size) := by have := HC2.out.sz; exact this
  clear ho hc
  have mi : (1 : Int) ≤ (m : Int) := by omega
  have mj : (m : Int) ≤ 900 := by omega
  rcases (by omega : x = 0 ∨ x = 1 ∨ 2 ≤ x) with rfl | rfl | hx
  · go_wp2_with fail
    go_at_call 20
    refine (n_any g 2 (by decide) (by decide) _ HO2.out).mono ?_
    rintro e w3 ⟨y, rfl, y0, y1, ho, hc⟩
    obtain ⟨k, rfl⟩ := Int.eq_ofNat_of_zero_le y0
    have HO3 := Lib.hid ho
    have HC3 : Hid (Ch g w w3) := HC2.out.tr hc
    have HZ3 : Hid (Zi w3 (some ⟨q, 0, none⟩) m M) := own_zi (own_ch HW2.out hc HGB.out) HLM.out
    clear ho hc
    have e2 : (k : Int) ≤ (cc : Int) := by omega
    have hk : k ≤ m := by omega
    have HKK : Hid (Zi w3 (some ⟨q, 0, none⟩) k (M.take k)) := by
      show Zi w3 (some ⟨q, 0, none⟩) k (M.take k)
      have := zi_part HZ3.out 0 k (by omega)
      simpa using this
    have HWT : Hid (Wd64 (M.take k)) := fun y hy => sam_w HSM.out y (List.mem_of_mem_take hy)
    rcases Nat.lt_or_ge k m with hkm | hkm
    · go_wp2
      go_ret
      exact ⟨some ⟨q, 0, none⟩, cc, k, M.take k, rfl, by omega, HKK.out, HWT.out, fun ad e => by cases e; exact HQ.out, HO3.out, HC3.out⟩
    · have hno : ¬ k < m := by omega
      go_wp2
      go_ret
      exact ⟨some ⟨q, 0, none⟩, cc, m, M, rfl, by omega, HZ3.out, sam_w HSM.out, fun ad e => by cases e; exact HQ.out, HO3.out, HC3.out⟩
  · go_wp2
    go_loopw [5] (fun s5 wr => ∃ (k : Nat) (L : List Int) (u : Value) (V : World), V = wr ∧ s5 = u ∧ 1 ≤ k ∧ k ≤ m + 33 ∧ wr.ownsRow w.heap.size 3 1 u k (zs L) ∧ L.length = k ∧ Sam L ∧ Ok wr g ∧ Ch g w wr ∧ w.heap.size ≤ wr.heap.size) (fun s5 _ => 33 - lenV s5)
    case atStart => exact ⟨m, M, _, _, rfl, rfl, HM1.out, by omega, HW2.out, HLM.out, HSM.out, HO2.out, HC2.out, HL2.out⟩
    case round =>
      obtain ⟨k, L, u, V, hV, rfl, hk1, hk2, hown, hL, hS, hok, hch, hsz⟩ := hrel
      subst hV
      obtain ⟨h, c3, rfl, hc1, hc2⟩ := row_form hown hk1
      have HOV := Lib.hid hown
      have HLL := Lib.hid hL
      have HSS := Lib.hid hS
      have HOK := Lib.hid hok
      have HCH := Lib.hid hch
      have HSZ := Lib.hid hsz
      clear hown hL hS hok hch hsz
      rcases Nat.lt_or_ge k 33 with hlt | hge
      · have kk : (k : Int) ≤ 32 := by omega
        go_wp2_with fail
        go_at_call 20
        refine (n_any g 9 (by decide) (by decide) _ HOK.out).mono ?_
        rintro e w3 ⟨y, rfl, y0, y1, ho, hc⟩
        have HO3 := Lib.hid (own_ch HOV.out hc HGB.out)
        have HK3 := Lib.hid ho
        have HC3 : Hid (Ch g w w3) := HCH.out.tr hc
        have hsz3 : w.heap.size ≤ w3.heap.size := HC3.out.sz
        clear ho hc
        go_wp2_with (at_builtin; refine list_app _ rfl _ _ rfl w.heap.size (.slice (some ⟨h, 0, none⟩) k c3) k L rfl (HO3.out.alloc _) ⟨w3.heap.size, 0, none⟩ 1 1 [y] rfl (zi_bk (L := [y]) (t := 3) (Bk.nw _ _ _) 1 rfl) (by omega) (by simp; omega) ?_; intro v' w5 h5 g5 hat5; obtain ⟨h', c', rfl, hc1', hc2'⟩ := row_form h5 (by omega))
        have hrow : ∀ b, (Value.slice (some ⟨h, 0, none⟩) k c3).ownBlock = some b → w.heap.size ≤ b := fun b e => (HO3.out.lt b e).1
        have HK5 : Hid (Ok w5 g) := ok_grown (HK3.out.bel (Bel.rf.al _)) g5 (fun b e => by have := hrow b e; have := HGB.out; omega)
        have HC5 : Hid (Ch g w w5) := ch_grown (HC3.out.al _) g5 hrow
        have HO5 := Lib.hid h5
        clear h5 g5 hat5 hrow
        go_roundw
        case rel => exact ⟨k + 1, L ++ [y], _, _, rfl, rfl, by omega, by omega, HO5.out, by simp [HLL.out], sam_snoc HSS.out (by omega) (by omega), HK5.out, HC5.out, HC5.out.sz⟩
        case measure => simp [lenV]; omega
      · have kk : ¬ (k : Int) ≤ 32 := by omega
        have kn : ¬ k ≤ 32 := by omega
        go_wp2
        go_ret
        exact ⟨some ⟨h, 0, none⟩, c3, k, L, rfl, ⟨hk2, hc1⟩, own_zi HOV.out HLL.out, sam_w HSS.out, fun ad e => by cases e; exact hc2, HOK.out, HCH.out⟩
  · have n0 : (x == 0) = false := by rw [beq_eq_false_iff_ne]; omega
    have n1 : (x == 1) = false := by rw [beq_eq_false_iff_ne]; omega
    have n2 : ¬ x = 0 := by omega
    have n3 : ¬ x = 1 := by omega
    have mp : (0 : Int) < (m : Int) := by omega
    go_wp2_with fail
    go_at_call 20
    refine (n_any g m mi (by omega) _ HO2.out).mono ?_
    rintro e w3 ⟨j, rfl, j0, j1, ho, hc⟩
    obtain ⟨t, rfl⟩ := Int.eq_ofNat_of_zero_le j0
    have ht : t < m := by omega
    have HO3 := Lib.hid ho
    have HW3 := Lib.hid (own_ch HW2.out hc HGB.out)
    have HC3 : Hid (Ch g w w3) := HC2.out.tr hc
    clear ho hc
    go_wp2_with fail
    go_at_call 21
    refine (pick_any g w3.heap.size [1000, 1001, -1001, 1073741824, 4611686018427387904, -9223372036854775808] 6 (by rfl) (by decide) (by decide) (by have := HGB.out; have := HC3.out.sz; omega) _ (HO3.out.bel (Bel.rf.al _)) (lst_new _ _ _ _ (by rfl) _ rfl)).mono ?_
    rintro e w4 ⟨y, rfl, hy, ho, hc⟩
    have hyb : -9223372036854775808 ≤ y ∧ y ≤ 9223372036854775807 := by simp at hy; omega
    have HW4 := Lib.hid (own_ch (own_bel HW3.out (Bel.rf.al _)) hc HGB.out)
    have HC4 : Hid (Ch g w w4) := (HC3.out.al _).tr hc
    have HO4 := Lib.hid ho
    have s0 := (own_zi HW4.out HLM.out).at t ht
    have s1 := own_fr HW4.out t
    have ti : (t : Int) < (m : Int) := j1
    clear ho hc hy
    have HZ4 : Hid (Zi (w4.setCell ⟨q, t, none⟩ (.int .i64 y)) (some ⟨q, 0, none⟩) m (M.set t y)) := own_zi (own_set HW4.out y) (by rw [List.length_set]; exact HLM.out)
    have HO5 : Hid (Ok (w4.setCell ⟨q, t, none⟩ (.int .i64 y)) g) := HO4.out.st (by show g < q; have := HGB.out; have := HQ.out; omega) _
    have HC5 : Hid (Ch g w (w4.setCell ⟨q, t, none⟩ (.int .i64 y))) := HC4.out.st2 (by show w.heap.size ≤ q; exact HQ.out) _
    have HWS : Hid (Wd64 (M.set t y)) := fun z hz => by
      rcases List.mem_or_eq_of_mem_set hz with h | h
      · exact sam_w HSM.out z h
      · rw [h]; exact hyb
    go_wp2
    go_ret
    exact ⟨some ⟨q, 0, none⟩, cc, m, M.set t y, rfl, by omega, HZ4.out, HWS.out, fun ad e => by cases e; exact HQ.out, HO5.out, HC5.out⟩
end Go.Proofs.Ytkonknkoggfeaaa.Sr
