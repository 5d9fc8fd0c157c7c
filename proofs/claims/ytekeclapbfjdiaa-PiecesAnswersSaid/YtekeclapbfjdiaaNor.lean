/- The contracts of whole.Abs, of normal's product, gap, Product, Gap, Centred over windows. -/
import Derived.Test.YtekeclapbfjdiaaEuc0
import Derived.Test.YtekeclapbfjdiaaNorMath
import Derived.Test.YtekeclapbfjdiaaRatioMake
namespace Go.Proofs.Ytekeclapbfjdiaa.Nr
open Go.ChangeShapes Go.WideShapes Go.RowKit Wo Sr Wi Ra Eu
set_option linter.unusedVariables false
theorem bd_in {A : Int} {L : List Int} (h : Bd A L) (hA : 0 ≤ A) (k : Nat) (h32 : L.length ≤ k) : -(A * (k : Int)) ≤ su ix L ∧ su ix L ≤ A * (k : Int) := by
  have b := su_bd h
  have e : A * (L.length : Int) ≤ A * (k : Int) := Int.mul_le_mul_of_nonneg_left (by omega) hA
  omega
/-- the gap of two windows, as a value -/
def gv (L M : List Int) : Value := .agg #[.int .i64 (rN (vr L) (vr M) (pr L M)), .int .i64 (rD (vr L) (vr M) (pr L M))]
/-- the first k are filled in, the others are 0 -/
def fil (C : List Int) (k : Nat) : List Int := C.take k ++ List.replicate (C.length - k) 0
theorem fil_len (C : List Int) (k : Nat) (h : k ≤ C.length) : (fil C k).length = C.length := by simp [fil]; omega
theorem fil_zero (C : List Int) : fil C 0 = List.replicate C.length 0 := by simp [fil]
theorem fil_all (C : List Int) : fil C C.length = C := by simp [fil]
theorem fil_set (C : List Int) (k : Nat) (h : k < C.length) : (fil C k).set k (C.getD k 0) = fil C (k + 1) := by
  apply List.ext_getElem?
  intro i
  have e1 : C.getD k 0 = C[k] := by rw [List.getD_eq_getElem?_getD, List.getElem?_eq_getElem h]; rfl
  rw [e1]
  unfold fil
  rcases Nat.lt_trichotomy i k with g | g | g
  · rw [List.getElem?_set_ne (by omega), List.getElem?_append_left (by simp; omega), List.getElem?_append_left (by simp; omega), List.getElem?_take_of_lt g, List.getElem?_take_of_lt (by omega)]
  · subst g
    rw [List.getElem?_set_self (by simp; omega), List.getElem?_append_left (by simp; omega), List.getElem?_take_of_lt (by omega), List.getElem?_eq_getElem h]
  · rw [List.getElem?_set_ne (by omega), List.getElem?_append_right (by simp; omega), List.getElem?_append_right (by simp; omega), List.getElem?_replicate, List.getElem?_replicate]
    simp only [List.length_take]
    have : (i - min k C.length < C.length - k) = (i - min (k + 1) C.length < C.length - (k + 1)) := by apply propext; omega
    simp only [this]
theorem zs_set (L : List Int) (k : Nat) (y : Int) : (zs L).toArray.setIfInBounds k (.int .i64 y) = (zs (L.set k y)).toArray := by
  apply Array.toList_inj.1
  rw [Array.toList_setIfInBounds]
  simp [zs, List.map_set]
set_option maxHeartbeats 8000000 in
set_option maxRecDepth 100000 in
theorem Centred_ok (A : Option Addr) (c n : Nat) (L : List Int) (n1 : 2 ≤ n) (n2 : n ≤ 32) (hs : Sam L) (w : World) (h1 : Zi w A n L) :
    Calls Try.prog 52 #[.slice A n c] w fun e w' => ∃ g, e = .returned (.tuple #[.slice (some ⟨g, 0, none⟩) n n, .int .i64 0]) ∧ w.heap.size ≤ g ∧ Bk w' g 3 (zs (cen L)).toArray ∧ Bel w w' := by
  obtain ⟨i0, hi0, hz0, hz1, hz2⟩ := info_parts info_int
  have HI := Lib.hid (And.intro hi0 (And.intro hz0 (And.intro hz1 hz2)))
  clear hi0 hz0 hz1 hz2
  have H1 := Lib.hid h1
  have HS := Lib.hid hs
  have hl := h1.1
  have HC : Hid ((cen L).length = n) := by show _ = _; unfold cen; rw [af_len, hl]
  have i2 : (n : Int) ≤ 32 := by omega
  have i1 : 2 ≤ (n : Int) := by omega
  have i3 : 2 ≤ n := n1
  have HW := Lib.hid (window_ok A c n L n1 n2 hs w h1)
  clear h1 hs
  go_enter Try.func52, Try.ntmps52
  go_wp2_with fail
  go_at_call 45
  refine HW.out.mono ?_
  rintro e w1 ⟨rfl, hb1⟩
  have HB1 := Lib.hid hb1
  clear hb1
  go_wp2
  go_loopw [5, 18] (fun s5 s18 wr => ∃ (t : Nat) (V : World) (s : Int), V = wr ∧ t ≤ n ∧ s18 = .int .i64 (t : Int) ∧ s5 = .int .i64 s ∧ s = su ix (L.take t) ∧ Bel w wr) (fun _ s18 _ => n - (intOf s18).toNat)
  case atStart => exact ⟨0, _, 0, rfl, by omega, rfl, rfl, by simp [su], HB1.out⟩
  case round =>
    obtain ⟨t, wr, s, hwr, ht, rfl, rfl, hsx, hb⟩ := hrel
    subst hwr
    have HB := Lib.hid hb
    have b2 := bd_in (k := 32) (Bd.take (B := 1000) HS.out t) (by decide) (by have := List.length_take_le t L; omega)
    rw [← hsx] at b2
    obtain ⟨b20, b21⟩ : -32000 ≤ s ∧ s ≤ 32000 := by omega
    clear b2
    rcases Nat.lt_or_ge t n with hlt | hge
    · obtain ⟨ad, rfl, _, hac⟩ := (H1.out.bel hb).2 (by omega)
      have c1 := hac t hlt
      have hn2 := su_next ix L t (by omega)
      have px := HS.out.at t
      obtain ⟨x, hx⟩ : ∃ x, L.getD t 0 = x := ⟨_, rfl⟩
      rw [hx] at c1 px hn2
      rw [← hsx] at hn2
      obtain ⟨x0, x1⟩ := px
      have HN : Hid (s + x = su ix (L.take (t + 1))) := hn2.symm
      have ti : (t : Int) < (n : Int) := by omega
      clear hb hsx hac hx hn2
      go_wp2
      go_roundw
      case rel => exact ⟨t + 1, _, _, rfl, by omega, by go_num, rfl, HN.out, by first | exact HB.out.drwN _ | exact HB.out.drw | exact HB.out⟩
      case measure => simp [intOf]; omega
    · obtain rfl : t = n := by omega
      rw [List.take_of_length_le (by omega)] at hsx
      have HSU := Lib.hid hsx
      have cel : cen L = af (t : Int) (-s) L := by unfold cen; rw [hl, hsx]
      have HCE := Lib.hid cel
      have HR0 : Hid (∃ (k : Nat) (V : World), V = wr.alloc (.cells (zs (List.replicate t 0)).toArray 3) ∧ k ≤ t ∧ (Value.int .i64 0) = .int .i64 (k : Int) ∧ Bk (wr.alloc (.cells (zs (List.replicate t 0)).toArray 3)) wr.heap.size 3 (zs (fil (cen L) k)).toArray ∧ Bel w (wr.alloc (.cells (zs (List.replicate t 0)).toArray 3))) :=
        ⟨0, _, rfl, by omega, rfl, by rw [fil_zero, HC.out]; exact Bk.nw _ _ _, hb.al _⟩
      clear hb hsx cel
      go_wp2_with (refine wpList_make_any _ rfl (.tmp 27) (.tmp 27) 22 rfl 3 i0 (.int .i64 0) 1 Try.underlying22 HI.out.1 HI.out.2.1 HI.out.2.2.1 .i64 .i64 _ _ t t rfl rfl rfl rfl (by omega) (by rw [HI.out.2.2.2]; omega) (by omega) ?_; rw [made_i64])
      go_loopw [31] (fun s31 w2 => ∃ (k : Nat) (V : World), V = w2 ∧ k ≤ t ∧ s31 = .int .i64 (k : Int) ∧ Bk w2 wr.heap.size 3 (zs (fil (cen L) k)).toArray ∧ Bel w w2) (fun s31 _ => t - (intOf s31).toNat)
      case atStart => exact HR0.out
      case round =>
        clear HR0
        obtain ⟨k, w2, hwr, hk, rfl, hbk, hb⟩ := hrel
        subst hwr
        have HB2 := Lib.hid hb
        have HK := Lib.hid hbk
        rcases Nat.lt_or_ge k t with hlt | hge
        · obtain ⟨ad, rfl, _, hac⟩ := (H1.out.bel hb).2 (by omega)
          have c1 := hac k hlt
          have px := HS.out.at k
          have hat := af_at (t : Int) (-s) L k (by omega)
          rw [← HCE.out] at hat
          obtain ⟨x, hx⟩ : ∃ x, L.getD k 0 = x := ⟨_, rfl⟩
          rw [hx] at c1 px hat
          obtain ⟨x0, x1⟩ := px
          have mb := mul_bd (A := 32) (B := 1000) (x := (t : Int)) (y := x) (by decide) (by decide) (by omega) (by omega) x0 x1
          obtain ⟨z, hz⟩ : ∃ z, (t : Int) * x = z := ⟨_, rfl⟩
          rw [hz] at mb
          rw [Int.mul_comm x, hz] at hat
          obtain ⟨mb0, mb1⟩ : -32000 ≤ z ∧ z ≤ 32000 := by omega
          have m1 : wrap64 ((t : Int) * x) = z := by rw [hz]; exact IntWalk.wrap64_in _ (by omega)
          have m2 : wrap64 (z - s) = z - s := IntWalk.wrap64_in _ (by omega)
          have m3 : (t : Int) * x = z := hz
          have e1 : w2.cell? ⟨wr.heap.size, k, none⟩ = some (.int .i64 ((fil (cen L) k).getD k 0)) := by
            rw [hbk.cell k]
            have : (zs (fil (cen L) k))[k]? = some (.int .i64 ((fil (cen L) k).getD k 0)) := zs_at (by rw [fil_len _ _ (by rw [HC.out]; omega), HC.out]; omega)
            simpa using this
          have f1 : w2.frozen? ⟨wr.heap.size, k, none⟩ = false := hbk.fr k
          generalize (fil (cen L) k).getD k 0 = q0 at e1
          have HAT := Lib.hid hat
          have ti : (k : Int) < (t : Int) := by omega
          have hsz := HB.out.size
          clear hb hbk hac hx hat mb hz
          go_wp2
          go_roundw
          case rel =>
            refine ⟨k + 1, _, rfl, by omega, by go_num, ?_, HB2.out.st (p := ⟨wr.heap.size, k, none⟩) (by show _ ≤ _; simp only []; omega) _⟩
            have h4 := HK.out.st k (.int .i64 (z - s))
            rw [zs_set, show z - s = (cen L).getD k 0 by rw [HAT.out]; omega, fil_set _ _ (by rw [HC.out]; omega)] at h4
            rw [show z - s = (cen L).getD k 0 by rw [HAT.out]; omega]
            exact h4
          case measure => simp [intOf]; omega
        · obtain rfl : k = t := by omega
          have hbk2 := hbk
          rw [show fil (cen L) k = cen L by have := fil_all (cen L); rwa [HC.out] at this] at hbk2
          have HKK := Lib.hid hbk2
          clear hb hbk hbk2
          go_wp2
          go_ret2
          exact ⟨_, rfl, HB.out.size, HKK.out, HB2.out⟩
end Go.Proofs.Ytekeclapbfjdiaa.Nr
