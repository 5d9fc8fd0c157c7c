/- reading.Format of valid readings. -/
import Derived.Test.YtagodfielmdfhaaGreatDoorRtY
import Derived.Test.YtagodfielmdfhaaGreatDoorBld
import Derived.Lib.AppendIntMem
namespace Go.Proofs.YtagodfielmdfhaaGreatDoor.Rt
open Go.ChangeShapes Go.WideShapes Go.RowKit Wo Un Rg Go.MapKept Sr
open Rm (Rp tm vl)
set_option linter.unusedVariables false
/-- the library's table of the powers of ten -/
def Itab (w : World) : Prop := Lib.TabIs Tryz.prog w "internal/strconv.uint64pow10" .u64 Lib.pow10Tab
theorem Itab.bel {w w' : World} (h : Itab w) (hb : Bel w w') : Itab w' := by
  unfold Itab Lib.TabIs World.var? at h ⊢
  rcases hg : Tryz.prog.globalNamed "internal/strconv.uint64pow10" with _ | g
  · rw [hg] at h; cases h
  · rw [hg] at h
    simp only [Option.bind_some] at h ⊢
    have hlt : g < w.heap.size := by
      rcases Nat.lt_or_ge g w.heap.size with h1 | h1
      · exact h1
      · rw [Array.getElem?_eq_none h1] at h; cases h
    rw [Below.block hb g hlt]
    exact h
theorem itoa_any (n : Int) (h0 : -1000 ≤ n) (h1 : n ≤ 1099511627776) (W : World) (hW : Itab W) : Calls Tryz.prog 20 #[.int .i64 n] W fun e w' => e = .returned (.string ⟨(fm n 0).toArray⟩) ∧ Bel W w' :=
  (Tryz.strconv_Itoa n (by omega) (by omega) W hW).mono fun e w' ⟨he, k, os, hh⟩ => ⟨by rw [he, itoa_fm], by rw [hh]; exact Lib.below_grow _ W (Nat.le_refl _) k os⟩
theorem fm_len (n : Int) (h0 : -1000 ≤ n) (h1 : n ≤ 1099511627776) : (fm n 0).length ≤ 14 := by
  have h := nd_13 (n := n.natAbs) (by omega)
  unfold fm
  rw [fb_zero]
  split
  · rw [List.length_cons, Lib.decDigits_length]; omega
  · rw [Lib.decDigits_length]; omega
theorem ft_len (l : List Rp) : Vrs l → (ft l).length ≤ 40 * l.length := by
  induction l with
  | nil => intro _; simp [ft]
  | cons p l ih =>
    intro hv
    have h0 : Vr p.1 p.2 := hv 0 (by simp)
    have hv' : Vrs l := fun i hi => by
      have := hv (i + 1) (by simpa using hi)
      simpa [tm, vl] using this
    have h1 := fm_len p.1 (by have := h0.1; omega) (by have := h0.2.1; omega)
    have h2 := fm_len p.2 (by have := h0.2.2.1; omega) (by have := h0.2.2.2; omega)
    have := ih hv'
    rw [ft_cons]
    simp only [lt, List.length_append, List.length_cons, List.length_nil]
    omega
theorem vrs_take {l : List Rp} (h : Vrs l) (k : Nat) : Vrs (l.take k) := fun i hi => by
  have h1 : i < k ∧ i < l.length := by rw [List.length_take] at hi; omega
  have h2 := h i h1.2
  have e : (l.take k)[i]? = l[i]? := List.getElem?_take_of_lt h1.1
  simpa [tm, vl, List.getD_eq_getElem?_getD, e] using h2
theorem take_ft (l : List Rp) (k : Nat) (hk : k < l.length) : ft (l.take (k + 1)) = ft (l.take k) ++ (lt (tm l k, vl l k) ++ [10]) := by
  have e : l.take (k + 1) = l.take k ++ [(tm l k, vl l k)] := by
    have ek : (tm l k, vl l k) = l[k] := by simp [tm, vl, List.getD_eq_getElem?_getD, hk]
    rw [ek, List.take_succ_eq_append_getElem hk]
  rw [e, ft_app]
  congr 1
  simp [ft]
set_option maxHeartbeats 4000000 in
set_option maxRecDepth 100000 in
theorem format_ok (A : Option Addr) (c n : Nat) (l : List Rp) (hn : n ≤ 400) (hs : Vrs l) (w : World) (h : Zr w A n l) (hI : Itab w) :
    Calls Tryz.prog 9 #[.slice A n c] w fun e w' => e = .returned (.tuple #[.string ⟨(ft l).toArray⟩, .int .i64 0]) ∧ Bel w w' := by
  have H1 := Lib.hid h
  have HS := Lib.hid hs
  have HI := Lib.hid hI
  have HR := Lib.hid (readings_ok A c n l (by omega) hs w h)
  have ni : (n : Int) ≤ 400 := by omega
  have hfl := ft_len l hs
  rw [h.1] at hfl
  have HFL : Hid ((ft l).length ≤ 16000) := by show _ ≤ _; omega
  clear h hs hI hfl
  go_enter Tryz.func9, Tryz.ntmps9
  go_wp2_with fail
  go_at_call 18
  refine HR.out.mono ?_
  rintro e w1 ⟨rfl, hb1⟩
  have HB1 := Lib.hid hb1
  have HBD : Hid (Lib.IsBuilder Bd.TB Bd.TU w1.heap.size w1.heap.size (Lib.byteCells (ft (l.take 0))) (w1.alloc (.cells #[.pointer none, .slice none 0 0] Bd.TB))) := Lib.fresh_isBuilder Bd.TB Bd.TU w1
  clear hb1
  go_wp2
  go_loopw [15] (fun s15 wr => ∃ (k : Nat) (V : World), V = wr ∧ k ≤ n ∧ s15 = .int .i64 (k : Int) ∧ Lib.IsBuilder Bd.TB Bd.TU w1.heap.size w1.heap.size (Lib.byteCells (ft (l.take k))) wr ∧ Below w1.heap.size w1 wr) (fun s15 _ => n - (intOf s15).toNat)
  case atStart => exact ⟨0, _, rfl, by omega, rfl, HBD.out, (Below.refl _ _).alloc (Nat.le_refl _) _⟩
  case round =>
    obtain ⟨k, wr, hwr, hk, rfl, hB, hb⟩ := hrel
    subst hwr
    have HBK := Lib.hid hB
    have HB : Hid (Bel w1 wr) := hb
    clear hB hb
    rcases Nat.lt_or_ge k n with hlt | hge
    · obtain ⟨ad, rfl, hab, hac⟩ := (H1.out.bel (HB1.out.tr HB.out)).2 (by omega)
      obtain ⟨c1, c2⟩ := hac k hlt
      have hkl : k < l.length := by rw [H1.out.1]; exact hlt
      have hx := HS.out k hkl
      have htk := take_ft l k hkl
      have hfk : (ft (l.take k)).length ≤ 16000 := by
        have h1 := ft_len (l.take k) (vrs_take HS.out k)
        rw [List.length_take] at h1
        omega
      obtain ⟨T, hT⟩ : ∃ x, tm l k = x := ⟨_, rfl⟩
      obtain ⟨V, hV⟩ : ∃ x, vl l k = x := ⟨_, rfl⟩
      rw [hT] at c1 hx htk
      rw [hV] at c2 hx htk
      obtain ⟨x1, x2, x3, x4⟩ := hx
      obtain ⟨x, hxe⟩ : ∃ x : ByteArray, (⟨(fm T 0).toArray⟩ : ByteArray) = x := ⟨_, rfl⟩
      obtain ⟨y, hye⟩ : ∃ y : ByteArray, (⟨(fm V 0).toArray⟩ : ByteArray) = y := ⟨_, rfl⟩
      obtain ⟨kx, hkx⟩ : ∃ k, x.size = k := ⟨_, rfl⟩
      obtain ⟨ky, hky⟩ : ∃ k, y.size = k := ⟨_, rfl⟩
      have kx1 : kx ≤ 14 := by rw [← hkx, ← hxe]; exact fm_len T (by omega) x2
      have ky1 : ky ≤ 14 := by rw [← hky, ← hye]; exact fm_len V (by omega) (by omega)
      have g1 : (9223372036854775807 < kx + 1) = False := eq_false (by omega)
      have g2 : (9223372036854775807 < kx + 1 + ky) = False := eq_false (by omega)
      have g3 : (9223372036854775807 < kx + 1 + ky + 5) = False := eq_false (by omega)
      have hcells : Lib.byteCells (ft (l.take k)) ++ Lib.strCells (x ++ ⟨#[32]⟩ ++ y ++ ⟨#[32, 114, 97, 119, 10]⟩) = Lib.byteCells (ft (l.take (k + 1))) := by
        rw [htk, Lib.byteCells_append, Lib.strCells_eq]
        congr 2
        rw [← hxe, ← hye]
        simp only [ByteArray.data_append, Array.toList_append, lt]
        simp
      obtain ⟨W0, hW0⟩ : ∃ W, wr.alloc (.cells #[.int .i64 T, .int .i64 V] 48) = W := ⟨_, rfl⟩
      have hbw : Bel wr W0 := by rw [← hW0]; exact Bel.rf.al _
      have hbx : Bk W0 wr.heap.size 48 #[.int .i64 T, .int .i64 V] := by rw [← hW0]; exact Bk.nw _ _ _
      have k0 : W0.cell? ⟨wr.heap.size, 0, none⟩ = some (.int .i64 T) := hbx.cell 0
      have k1 : W0.cell? ⟨wr.heap.size, 1, none⟩ = some (.int .i64 V) := hbx.cell 1
      have hne : wr.heap.size ≠ w1.heap.size := by
        intro e
        have hlt2 : w1.heap.size < wr.heap.size := by
          rcases HBK.out with h | h
          · exact h.lt
          · exact h.lt
        omega
      have IX : Hid (∀ W, Bel W0 W → Calls Tryz.prog 20 #[.int .i64 T] W fun e w' => e = .returned (.string x) ∧ Bel W w') := fun W h => by
        rw [← hxe]; exact itoa_any T (by omega) x2 W (HI.out.bel ((HB1.out.tr (HB.out.tr hbw)).tr h))
      have IY : Hid (∀ W, Bel W0 W → Calls Tryz.prog 20 #[.int .i64 V] W fun e w' => e = .returned (.string y) ∧ Bel W w') := fun W h => by
        rw [← hye]; exact itoa_any V (by omega) (by omega) W (HI.out.bel ((HB1.out.tr (HB.out.tr hbw)).tr h))
      have HWS : Hid (∀ W, Bel W0 W → Calls Tryz.prog 19 #[.pointer (some ⟨w1.heap.size, 0, none⟩), .string (x ++ ⟨#[32]⟩ ++ y ++ ⟨#[32, 114, 97, 119, 10]⟩)] W fun e w' => (∃ z, e = .returned (.tuple #[.int .i64 z, .nilIface])) ∧ Lib.IsBuilder Bd.TB Bd.TU w1.heap.size w1.heap.size (Lib.byteCells (ft (l.take (k + 1)))) w' ∧ Below w1.heap.size W w' ∧ Bd.Kpt w1.heap.size W w') := fun W h => by
        rw [← hcells]
        refine (Bd.wstr_ok w1.heap.size w1.heap.size (Lib.byteCells (ft (l.take k))) _ W (Bd.isB_bel HBK.out (hbw.tr h)) ?_ ?_).mono ?_
        · rw [Lib.byteCells_length]
          simp only [ByteArray.size_append, hkx, hky]
          show _ + (kx + 1 + ky + 5) ≤ _
          omega
        · have := (HB.out.tr (hbw.tr h)).size
          exact this
        · rintro e w' ⟨rfl, h1, h2, h3⟩
          exact ⟨⟨_, rfl⟩, .inr h1, h2, h3⟩
      have KS : Hid (∀ W', Bk W' wr.heap.size 48 #[.int .i64 T, .int .i64 V] → ((fun w' => w'.cell? ⟨wr.heap.size, 0, none⟩ = some (.int .i64 T) ∧ w'.cell? ⟨wr.heap.size, 1, none⟩ = some (.int .i64 V)) W')) := fun W' h => ⟨h.cell 0, h.cell 1⟩
      have HBX := Lib.hid hbx
      have HNE := Lib.hid hne
      have HBW := Lib.hid hbw
      have ki : (k : Int) < (n : Int) := by omega
      clear hac hab hkl htk hfk hT hV hxe hye hcells hbx hne hbw k0 k1 x1 x2 x3 x4
      go_wp2_with fail
      clear hW0
      go_region_held3 (fun w' => w'.cell? ⟨wr.heap.size, 0, none⟩ = some (.int .i64 T) ∧ w'.cell? ⟨wr.heap.size, 1, none⟩ = some (.int .i64 V))
        (exact KS.out _ (by first | (refine HBX.out.bel ?_; (repeat (first | exact Bel.rf | (with_reducible refine Bel.drwN ?_ _) | (with_reducible refine Bel.drw ?_) | refine Bel.tr ?_ (by assumption))); done) | (refine hk3 _ _ _ (by decide) HNE.out (HBX.out.bel ?_); (repeat (first | exact Bel.rf | (with_reducible refine Bel.drwN ?_ _) | (with_reducible refine Bel.drw ?_) | refine Bel.tr ?_ (by assumption))); done)))
        ((first
          | (go_at_call 20; first
            | ((with_reducible refine (IX.out _ (by repeat (first | exact Bel.rf | (with_reducible refine Bel.drwN ?_ _) | (with_reducible refine Bel.drw ?_) | refine Bel.tr ?_ (by assumption)))).mono ?_); rintro r s1 ⟨rfl, h1⟩)
            | ((with_reducible refine (IY.out _ (by repeat (first | exact Bel.rf | (with_reducible refine Bel.drwN ?_ _) | (with_reducible refine Bel.drw ?_) | refine Bel.tr ?_ (by assumption)))).mono ?_); rintro r s2 ⟨rfl, h2⟩))
          | (go_at_call 19; (refine (HWS.out _ (by repeat (first | exact Bel.rf | (with_reducible refine Bel.drwN ?_ _) | (with_reducible refine Bel.drw ?_) | refine Bel.tr ?_ (by assumption)))).mono ?_); rintro r s3 ⟨⟨z, rfl⟩, h3, hl3, hk3⟩)))
      all_goals
        go_wp2
        go_roundw
        case rel => exact ⟨k + 1, _, rfl, by omega, by go_num, h3, Below.trans (show Bel w1 _ from HB.out.tr (HBW.out.tr (by repeat (first | exact Bel.rf | (with_reducible refine Bel.drwN ?_ _) | (with_reducible refine Bel.drw ?_) | refine Bel.tr ?_ (by assumption))))) hl3⟩
        case measure => simp [intOf]; omega
    · obtain rfl : k = n := by omega
      have hB := HBK.out
      rw [List.take_of_length_le (by rw [H1.out.1]; exact Nat.le_refl _)] at hB
      have HLN := Lib.hid (Tryz.Builder_Len _ _ _ wr hB)
      have HST := Lib.hid (Tryz.Builder_String_any _ _ _ wr hB HB.out.size)
      rw [Lib.byteCells_length] at HLN
      have f1 : ((ft l).length : Int) ≤ 16000 := by have := HFL.out; omega
      clear hB
      go_wp2_with fail
      go_at_call 21
      refine HLN.out.mono ?_
      rintro e w2 ⟨rfl, rfl⟩
      go_wp2_with fail
      go_at_call 22
      refine HST.out.mono ?_
      rintro e w3 ⟨rfl, hb3⟩
      go_wp2
      go_ret2
      exact ⟨rfl, HB1.out.tr (Below.mono (Below.trans HB.out hb3) (Nat.le_refl _))⟩
end Go.Proofs.YtagodfielmdfhaaGreatDoor.Rt
