/- limits.Readings and reading.Format of a part of a row. -/
import Derived.Test.YtagodfielmdfhaaGreatDoorRtA
namespace Go.Proofs.YtagodfielmdfhaaGreatDoor.Rt
open Go.ChangeShapes Go.WideShapes Go.RowKit Wo Un Rg Go.MapKept Sr
open Rm (Rp tm vl)
set_option linter.unusedVariables false
theorem run_comm {l : List Rp} (h : Vrs l) (hl : l.length ≤ 400) (K : Nat) (c : List UInt8) (hc : (10 : UInt8) ∉ c) (e : List (List UInt8)) :
    run US2 ((l.take K).map lt ++ (35 :: c) :: [] :: ((l.drop K).map lt ++ e)) 1 [] = run US2 e (l.length + 3) l := by
  have h1 : Vrs (l.take K) := vrs_take h K
  have h2 : Vrs (l.drop K) := fun i hi => by
    have h1 : K + i < l.length := by rw [List.length_drop] at hi; omega
    have h2 := h (K + i) h1
    have e : (l.drop K)[i]? = l[K + i]? := List.getElem?_drop
    simpa [tm, vl, List.getD_eq_getElem?_getD, e] using h2
  have hlen : (l.take K).length + (l.drop K).length = l.length := by rw [← List.length_append, List.take_append_drop]
  rw [run_ft US2 us2_raw _ _ _ _ h1 (by simp; omega), run_skip US2 _ _ _ _ (.inr rfl), run_skip US2 _ _ _ _ (.inl rfl), run_ft US2 us2_raw _ _ _ _ h2 (by simp only [List.nil_append]; omega), List.nil_append, List.take_append_drop, show 1 + (l.take K).length + 1 + 1 + (l.drop K).length = l.length + 3 by omega]
theorem lns_comm (l : List Rp) (K : Nat) (c : List UInt8) (hc : (10 : UInt8) ∉ c) (e : List UInt8) :
    lns (ft (l.take K) ++ [35] ++ c ++ [10, 10] ++ ft (l.drop K) ++ e) = (l.take K).map lt ++ (35 :: c) :: [] :: ((l.drop K).map lt ++ lns e) := by
  rw [show ft (l.take K) ++ [35] ++ c ++ [10, 10] ++ ft (l.drop K) ++ e = ft (l.take K) ++ ((35 :: c) ++ 10 :: ([] ++ 10 :: (ft (l.drop K) ++ e))) by simp]
  rw [lns_ft, lns_line _ _ (by intro h; rcases List.mem_cons.1 h with h | h; exact absurd h (by decide); exact hc h), lns_line _ _ (by simp), lns_ft]
theorem comm_good {l : List Rp} (h : Vrs l) (hl : l.length ≤ 400) (K : Nat) (c : List UInt8) (hc : (10 : UInt8) ∉ c) : run US2 (lns (ft (l.take K) ++ [35] ++ c ++ [10, 10] ++ ft (l.drop K))) 1 [] = (l, 0, 0) := by
  have := lns_comm l K c hc []
  rw [List.append_nil] at this
  rw [this, run_comm h hl K c hc, lns_nil]; rfl
theorem comm_bad {l : List Rp} (h : Vrs l) (hl : l.length ≤ 400) (K : Nat) (c : List UInt8) (hc : (10 : UInt8) ∉ c) : run US2 (lns (ft (l.take K) ++ [35] ++ c ++ [10, 10] ++ ft (l.drop K) ++ [120])) 1 [] = ([], l.length + 3, 3) := by
  rw [lns_comm l K c hc, run_comm h hl K c hc, lns_last [120] (by decide) (by decide), run_bad US2 _ _ _ _ (by decide) (by decide)]; rfl
/-- readings from an offset on -/
def ZrO (w : World) (A : Option Addr) (n : Nat) (l : List Rp) : Prop := l.length = n ∧ (0 < n → ∃ g o : Nat, A = some ⟨g, o, none⟩ ∧ g < w.heap.size ∧ ∀ j, j < n → w.cell? ⟨g, o + j * 2, none⟩ = some (.int .i64 (tm l j)) ∧ w.cell? ⟨g, o + j * 2 + 1, none⟩ = some (.int .i64 (vl l j)))
theorem ZrO.bel {w w' : World} {A : Option Addr} {n : Nat} {l : List Rp} (h : ZrO w A n l) (hb : Bel w w') : ZrO w' A n l :=
  ⟨h.1, fun hn => by
    obtain ⟨ad, o, e, hx, hc⟩ := h.2 hn
    exact ⟨ad, o, e, by have := hb.size; omega, fun j hj => ⟨hb.kp (hc j hj).1, hb.kp (hc j hj).2⟩⟩⟩
theorem zr_take {w : World} {A : Option Addr} {n : Nat} {l : List Rp} (h : Zr w A n l) (k : Nat) (hk : k ≤ n) : ZrO w A k (l.take k) := by
  refine ⟨by rw [List.length_take, h.1]; omega, fun h0 => ?_⟩
  obtain ⟨g, e, hx, hc⟩ := h.2 (by omega)
  refine ⟨g, 0, e, hx, fun j hj => ?_⟩
  have e2 : (l.take k)[j]? = l[j]? := List.getElem?_take_of_lt hj
  have := hc j (by omega)
  simpa [tm, vl, List.getD_eq_getElem?_getD, e2] using this
theorem zr_drop {w : World} {g n : Nat} {l : List Rp} (h : Zr w (some ⟨g, 0, none⟩) n l) (k : Nat) (hk : k ≤ n) : ZrO w (some ⟨g, k * 2, none⟩) (n - k) (l.drop k) := by
  refine ⟨by rw [List.length_drop, h.1], fun h0 => ?_⟩
  obtain ⟨g', e, hx, hc⟩ := h.2 (by omega)
  cases e
  refine ⟨g, k * 2, rfl, hx, fun j hj => ?_⟩
  have e2 : (l.drop k)[j]? = l[k + j]? := List.getElem?_drop
  have := hc (k + j) (by omega)
  rw [show k * 2 + j * 2 = (k + j) * 2 by omega]
  simpa [tm, vl, List.getD_eq_getElem?_getD, e2] using this
theorem vrs_drop {l : List Rp} (h : Vrs l) (k : Nat) : Vrs (l.drop k) := fun i hi => by
  have h1 : k + i < l.length := by rw [List.length_drop] at hi; omega
  have h2 := h (k + i) h1
  have e : (l.drop k)[i]? = l[k + i]? := List.getElem?_drop
  simpa [tm, vl, List.getD_eq_getElem?_getD, e] using h2
theorem zr_none {w : World} {A : Option Addr} : ZrO w A 0 [] := ⟨rfl, fun h => by omega⟩
set_option maxHeartbeats 4000000 in
theorem readings_okO (A : Option Addr) (c n : Nat) (l : List Rp) (hn : n ≤ 2000) (hs : Vrs l) (w : World) (h : ZrO w A n l) :
    Calls Tryz.prog 18 #[.slice A n c] w fun e w' => e = .returned (.int .i64 0) ∧ Bel w w' := by
  have H1 := Lib.hid h
  have HS := Lib.hid hs
  have ni : (n : Int) ≤ 2000 := by omega
  clear h hs
  go_enter Tryz.func18, Tryz.ntmps18
  go_wp2
  go_loopw [10] (fun s7 wr => ∃ (k : Nat) (V : World), V = wr ∧ k ≤ n ∧ s7 = .int .i64 (k : Int) ∧ Bel w wr) (fun s7 _ => n - (intOf s7).toNat)
  case atStart => exact ⟨0, _, rfl, by omega, rfl, Bel.rf⟩
  case round =>
    obtain ⟨k, wr, hwr, hk, rfl, hb⟩ := hrel
    subst hwr
    have HB := Lib.hid hb
    rcases Nat.lt_or_ge k n with hlt | hge
    · obtain ⟨ad, off, rfl, hab, hac⟩ := (H1.out.bel hb).2 (by omega)
      obtain ⟨c1, c2⟩ := hac k hlt
      have hx := HS.out k (by rw [H1.out.1]; exact hlt)
      obtain ⟨x, hxe⟩ : ∃ x, tm l k = x := ⟨_, rfl⟩
      obtain ⟨y, hye⟩ : ∃ x, vl l k = x := ⟨_, rfl⟩
      rw [hxe] at c1 hx
      rw [hye] at c2 hx
      have HX := Lib.hid hx
      have ki : (k : Int) < (n : Int) := by omega
      clear hb hac hab hxe hye hx
      go_wp2_with (go_at_call 28; refine (reading_ok x y HX.out _).mono ?_; rintro e w' ⟨rfl, hbr⟩)
      go_roundw
      case rel => exact ⟨k + 1, _, rfl, by omega, by go_num, by first | exact HB.out.tr hbr | exact (HB.out.drwN _).tr hbr | exact HB.out.drw.tr hbr | exact ((HB.out.al _).drwN _).tr hbr | exact (HB.out.al _).tr hbr⟩
      case measure => simp [intOf]; omega
    · obtain rfl : k = n := by omega
      clear hb
      go_wp2
      go_ret
      exact ⟨rfl, HB.out⟩
set_option maxHeartbeats 4000000 in
set_option maxRecDepth 100000 in
theorem format_okO (A : Option Addr) (c n : Nat) (l : List Rp) (hn : n ≤ 400) (hs : Vrs l) (w : World) (h : ZrO w A n l) (hI : Itab w) :
    Calls Tryz.prog 9 #[.slice A n c] w fun e w' => e = .returned (.tuple #[.string ⟨(ft l).toArray⟩, .int .i64 0]) ∧ Bel w w' := by
  have H1 := Lib.hid h
  have HS := Lib.hid hs
  have HI := Lib.hid hI
  have HR := Lib.hid (readings_okO A c n l (by omega) hs w h)
  have ni : (n : Int) ≤ 400 := by omega
  have hfl := ft_len l hs
  rw [h.1] at hfl
  have HFL : Hid ((ft l).length ≤ 16000) := by show _ ≤ _; omega
  clear h hs hI hfl
  go_enter Tryz.func9, Tryz.ntmps9
  go_wp2_with fail
  go_at_call 18
  refine HR.out.mono ?_
  rintro e w1 ⟨rfl, hb1⟩
  have HB1 := Lib.hid hb1
  have HBD : Hid (Lib.IsBuilder Bd.TB Bd.TU w1.heap.size w1.heap.size (Lib.byteCells (ft (l.take 0))) (w1.alloc (.cells #[.pointer none, .slice none 0 0] Bd.TB))) := Lib.fresh_isBuilder Bd.TB Bd.TU w1
  clear hb1
  go_wp2
  go_loopw [15] (fun s15 wr => ∃ (k : Nat) (V : World), V = wr ∧ k ≤ n ∧ s15 = .int .i64 (k : Int) ∧ Lib.IsBuilder Bd.TB Bd.TU w1.heap.size w1.heap.size (Lib.byteCells (ft (l.take k))) wr ∧ Below w1.heap.size w1 wr) (fun s15 _ => n - (intOf s15).toNat)
  case atStart => exact ⟨0, _, rfl, by omega, rfl, HBD.out, (Below.refl _ _).alloc (Nat.le_refl _) _⟩
  case round =>
    obtain ⟨k, wr, hwr, hk, rfl, hB, hb⟩ := hrel
    subst hwr
    have HBK := Lib.hid hB
    have HB : Hid (Bel w1 wr) := hb
    clear hB hb
    rcases Nat.lt_or_ge k n with hlt | hge
    · obtain ⟨ad, off, rfl, hab, hac⟩ := (H1.out.bel (HB1.out.tr HB.out)).2 (by omega)
      obtain ⟨c1, c2⟩ := hac k hlt
      have hkl : k < l.length := by rw [H1.out.1]; exact hlt
      have hx := HS.out k hkl
      have htk := take_ft l k hkl
      have hfk : (ft (l.take k)).length ≤ 16000 := by
        have h1 := ft_len (l.take k) (vrs_take HS.out k)
        rw [List.length_take] at h1
        omega
      obtain ⟨T, hT⟩ : ∃ x, tm l k = x := ⟨_, rfl⟩
      obtain ⟨V, hV⟩ : ∃ x, vl l k = x := ⟨_, rfl⟩
      rw [hT] at c1 hx htk
      rw [hV] at c2 hx htk
      obtain ⟨x1, x2, x3, x4⟩ := hx
      obtain ⟨x, hxe⟩ : ∃ x : ByteArray, (⟨(fm T 0).toArray⟩ : ByteArray) = x := ⟨_, rfl⟩
      obtain ⟨y, hye⟩ : ∃ y : ByteArray, (⟨(fm V 0).toArray⟩ : ByteArray) = y := ⟨_, rfl⟩
      obtain ⟨kx, hkx⟩ : ∃ k, x.size = k := ⟨_, rfl⟩
      obtain ⟨ky, hky⟩ : ∃ k, y.size = k := ⟨_, rfl⟩
      have kx1 : kx ≤ 14 := by rw [← hkx, ← hxe]; exact fm_len T (by omega) x2
      have ky1 : ky ≤ 14 := by rw [← hky, ← hye]; exact fm_len V (by omega) (by omega)
      have g1 : (9223372036854775807 < kx + 1) = False := eq_false (by omega)
      have g2 : (9223372036854775807 < kx + 1 + ky) = False := eq_false (by omega)
      have g3 : (9223372036854775807 < kx + 1 + ky + 5) = False := eq_false (by omega)
      have hcells : Lib.byteCells (ft (l.take k)) ++ Lib.strCells (x ++ ⟨#[32]⟩ ++ y ++ ⟨#[32, 114, 97, 119, 10]⟩) = Lib.byteCells (ft (l.take (k + 1))) := by
        rw [htk, Lib.byteCells_append, Lib.strCells_eq]
        congr 2
        rw [← hxe, ← hye]
        simp only [ByteArray.data_append, Array.toList_append, lt]
        simp
      obtain ⟨W0, hW0⟩ : ∃ W, wr.alloc (.cells #[.int .i64 T, .int .i64 V] 48) = W := ⟨_, rfl⟩
      have hbw : Bel wr W0 := by rw [← hW0]; exact Bel.rf.al _
      have hbx : Bk W0 wr.heap.size 48 #[.int .i64 T, .int .i64 V] := by rw [← hW0]; exact Bk.nw _ _ _
      have k0 : W0.cell? ⟨wr.heap.size, 0, none⟩ = some (.int .i64 T) := hbx.cell 0
      have k1 : W0.cell? ⟨wr.heap.size, 1, none⟩ = some (.int .i64 V) := hbx.cell 1
      have hne : wr.heap.size ≠ w1.heap.size := by
        intro e
        have hlt2 : w1.heap.size < wr.heap.size := by
          rcases HBK.out with h | h
          · exact h.lt
          · exact h.lt
        omega
      have IX : Hid (∀ W, Bel W0 W → Calls Tryz.prog 20 #[.int .i64 T] W fun e w' => e = .returned (.string x) ∧ Bel W w') := fun W h => by
        rw [← hxe]; exact itoa_any T (by omega) x2 W (HI.out.bel ((HB1.out.tr (HB.out.tr hbw)).tr h))
      have IY : Hid (∀ W, Bel W0 W → Calls Tryz.prog 20 #[.int .i64 V] W fun e w' => e = .returned (.string y) ∧ Bel W w') := fun W h => by
        rw [← hye]; exact itoa_any V (by omega) (by omega) W (HI.out.bel ((HB1.out.tr (HB.out.tr hbw)).tr h))
      have HWS : Hid (∀ W, Bel W0 W → Calls Tryz.prog 19 #[.pointer (some ⟨w1.heap.size, 0, none⟩), .string (x ++ ⟨#[32]⟩ ++ y ++ ⟨#[32, 114, 97, 119, 10]⟩)] W fun e w' => (∃ z, e = .returned (.tuple #[.int .i64 z, .nilIface])) ∧ Lib.IsBuilder Bd.TB Bd.TU w1.heap.size w1.heap.size (Lib.byteCells (ft (l.take (k + 1)))) w' ∧ Below w1.heap.size W w' ∧ Bd.Kpt w1.heap.size W w') := fun W h => by
        rw [← hcells]
        refine (Bd.wstr_ok w1.heap.size w1.heap.size (Lib.byteCells (ft (l.take k))) _ W (Bd.isB_bel HBK.out (hbw.tr h)) ?_ ?_).mono ?_
        · rw [Lib.byteCells_length]
          simp only [ByteArray.size_append, hkx, hky]
          show _ + (kx + 1 + ky + 5) ≤ _
          omega
        · have := (HB.out.tr (hbw.tr h)).size
          exact this
        · rintro e w' ⟨rfl, h1, h2, h3⟩
          exact ⟨⟨_, rfl⟩, .inr h1, h2, h3⟩
      have KS : Hid (∀ W', Bk W' wr.heap.size 48 #[.int .i64 T, .int .i64 V] → ((fun w' => w'.cell? ⟨wr.heap.size, 0, none⟩ = some (.int .i64 T) ∧ w'.cell? ⟨wr.heap.size, 1, none⟩ = some (.int .i64 V)) W')) := fun W' h => ⟨h.cell 0, h.cell 1⟩
      have HBX := Lib.hid hbx
      have HNE := Lib.hid hne
      have HBW := Lib.hid hbw
      have ki : (k : Int) < (n : Int) := by omega
      clear hac hab hkl htk hfk hT hV hxe hye hcells hbx hne hbw k0 k1 x1 x2 x3 x4
      go_wp2_with fail
      clear hW0
      go_region_held3 (fun w' => w'.cell? ⟨wr.heap.size, 0, none⟩ = some (.int .i64 T) ∧ w'.cell? ⟨wr.heap.size, 1, none⟩ = some (.int .i64 V))
        (exact KS.out _ (by first | (refine HBX.out.bel ?_; (repeat (first | exact Bel.rf | (with_reducible refine Bel.drwN ?_ _) | (with_reducible refine Bel.drw ?_) | refine Bel.tr ?_ (by assumption))); done) | (refine hk3 _ _ _ (by decide) HNE.out (HBX.out.bel ?_); (repeat (first | exact Bel.rf | (with_reducible refine Bel.drwN ?_ _) | (with_reducible refine Bel.drw ?_) | refine Bel.tr ?_ (by assumption))); done)))
        ((first
          | (go_at_call 20; first
            | ((with_reducible refine (IX.out _ (by repeat (first | exact Bel.rf | (with_reducible refine Bel.drwN ?_ _) | (with_reducible refine Bel.drw ?_) | refine Bel.tr ?_ (by assumption)))).mono ?_); rintro r s1 ⟨rfl, h1⟩)
            | ((with_reducible refine (IY.out _ (by repeat (first | exact Bel.rf | (with_reducible refine Bel.drwN ?_ _) | (with_reducible refine Bel.drw ?_) | refine Bel.tr ?_ (by assumption)))).mono ?_); rintro r s2 ⟨rfl, h2⟩))
          | (go_at_call 19; (refine (HWS.out _ (by repeat (first | exact Bel.rf | (with_reducible refine Bel.drwN ?_ _) | (with_reducible refine Bel.drw ?_) | refine Bel.tr ?_ (by assumption)))).mono ?_); rintro r s3 ⟨⟨z, rfl⟩, h3, hl3, hk3⟩)))
      all_goals
        go_wp2
        go_roundw
        case rel => exact ⟨k + 1, _, rfl, by omega, by go_num, h3, Below.trans (show Bel w1 _ from HB.out.tr (HBW.out.tr (by repeat (first | exact Bel.rf | (with_reducible refine Bel.drwN ?_ _) | (with_reducible refine Bel.drw ?_) | refine Bel.tr ?_ (by assumption))))) hl3⟩
        case measure => simp [intOf]; omega
    · obtain rfl : k = n := by omega
      have hB := HBK.out
      rw [List.take_of_length_le (by rw [H1.out.1]; exact Nat.le_refl _)] at hB
      have HLN := Lib.hid (Tryz.Builder_Len _ _ _ wr hB)
      have HST := Lib.hid (Tryz.Builder_String_any _ _ _ wr hB HB.out.size)
      rw [Lib.byteCells_length] at HLN
      have f1 : ((ft l).length : Int) ≤ 16000 := by have := HFL.out; omega
      clear hB
      go_wp2_with fail
      go_at_call 21
      refine HLN.out.mono ?_
      rintro e w2 ⟨rfl, rfl⟩
      go_wp2_with fail
      go_at_call 22
      refine HST.out.mono ?_
      rintro e w3 ⟨rfl, hb3⟩
      go_wp2
      go_ret2
      exact ⟨rfl, HB1.out.tr (Below.mono (Below.trans HB.out hb3) (Nat.le_refl _))⟩
end Go.Proofs.YtagodfielmdfhaaGreatDoor.Rt
