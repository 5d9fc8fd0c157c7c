/- euclid.Profile and the reference's, of any list that is to be a window and any list of at most 2000 numbers. -/
import Derived.Test.YtekeclapbfjdiaaEuF
import Derived.Test.YtekeclapbfjdiaaAppW
namespace Go.Proofs.Ytekeclapbfjdiaa.Say
open Go.ChangeShapes Go.WideShapes Go.RowKit Wo Sr Wi Ra Eu R12
set_option linter.unusedVariables false
theorem add_addp (a : Addr) (i j : Nat) : (a.add i).add j = a.add (i + j) := by
  unfold Addr.add
  rcases Nat.eq_zero_or_pos i with rfl | hi
  · simp
  · rcases Nat.eq_zero_or_pos j with rfl | hj
    · simp
    · rw [if_neg (by omega), if_neg (by omega), if_neg (by omega)]; simp; omega
/-- a part of a list, at any address -/
theorem zi_gpart {w : World} {ad : Addr} {N : Nat} {Z : List Int} (hz : Zi w (some ad) N Z) (i n : Nat) (hi : i + n ≤ N) : Zi w (some (ad.add i)) n ((Z.drop i).take n) := by
  have hl := hz.1
  refine ⟨by simp; omega, fun hn => ?_⟩
  obtain ⟨ad', e, hx, hc⟩ := hz.2 (by omega)
  cases e
  refine ⟨_, rfl, by unfold Addr.add; split <;> exact hx, fun j hj => ?_⟩
  have := hc (i + j) (by omega)
  rw [add_addp, this]
  simp [List.getD_eq_getElem?_getD, hj]
/-- the distances to the first k windows -/
def prof (Q Z : List Int) (n k : Nat) : List Int := (List.range k).map fun i => su sq (df Q ((Z.drop i).take n))
theorem prof_len (Q Z : List Int) (n k : Nat) : (prof Q Z n k).length = k := by simp [prof]
theorem prof_next (Q Z : List Int) (n k : Nat) : prof Q Z n k ++ [su sq (df Q ((Z.drop k).take n))] = prof Q Z n (k + 1) := by
  unfold prof
  rw [List.range_succ (n := k), List.map_append]
  rfl
def PI (Q Z : List Int) (n N base : Nat) (w : World) (s7 s28 : Value) (wr : World) : Prop := ∃ (k : Nat) (V : World) (u : Value), V = wr ∧ u = s7 ∧ k ≤ N ∧ s28 = .int .i64 (k : Int) ∧
  wr.ownsRow base 3 1 s7 k (zs (prof Q Z n k)) ∧ Bel w wr ∧ base ≤ wr.heap.size
theorem pi_step {Q Z : List Int} {n N k : Nat} {w wr w1 w2 : World} {s7 v' : Value} {y : Int} (hk : k < N) (hy : su sq (df Q ((Z.drop k).take n)) = y)
    (hown : wr.ownsRow w.heap.size 3 1 s7 k (zs (prof Q Z n k))) (hb : Bel w wr) (hbase : w.heap.size ≤ wr.heap.size) (h1 : Bel wr w1)
    (hown2 : w2.ownsRow w.heap.size 3 1 v' (k + 1) (zs (prof Q Z n k ++ [y]))) (hgr : (w1.alloc (.cells #[.int .i64 y] 3)).grownBy w2 s7.ownBlock) :
    PI Q Z n N w.heap.size w v' (.int .i64 ((k : Int) + 1)) w2 := by
  have hrow : ∀ b, s7.ownBlock = some b → w.heap.size ≤ b := fun b e => (hown.lt b e).1
  have h2 : Bel w (w1.alloc (.cells #[.int .i64 y] 3)) := (hb.tr h1).al _
  refine ⟨k + 1, _, _, rfl, rfl, by omega, by congr 1, ?_, ?_, ?_⟩
  · rw [← prof_next, hy]; exact hown2
  · exact Below.grown h2 hgr h2.size (fun b e => by have := hrow b e; omega)
  · have := hgr.size
    have := h1.size
    simp at *
    omega
/-- the error of a search -/
def pe (n : Nat) (Q Z : List Int) : Int := if one n Q = 0 then (if allS Z = true then 0 else 12) else one n Q
def SomeProf (E : Int) (N : Nat) (L : List Int) (w : World) (e : Ending) (w' : World) : Prop := ∃ v, e = .returned (.tuple #[v, .int .i64 E]) ∧ w'.ownsRow w.heap.size 3 1 v N (zs L) ∧ Bel w w'
theorem one_yes {n : Nat} {L : List Int} (h : one n L = 0) : lenOk n ∧ Sam L := by
  unfold one at h
  split at h
  · rename_i h1
    split at h
    · rename_i h2; exact ⟨h1, all_sam h2⟩
    · cases h
  · cases h
set_option maxHeartbeats 8000000 in
set_option maxRecDepth 100000 in
theorem prof_good (A A' : Option Addr) (c n c' T N : Nat) (Q Z : List Int) (hq : one n Q = 0) (hT : T ≤ 2000) (hN : T + 1 - n = N) (hcap : T ≤ c') (ht : Sam Z) (w : World) (h1 : Zi w A n Q) (h2 : Zi w A' T Z) :
    Calls Try.prog 17 #[.slice A n c, .slice A' T c'] w (SomeProf 0 N (prof Q Z n N) w) := by
  have HW := Lib.hid (window_any A c n Q (by have := (one_yes hq).1.2; omega) w h1)
  rw [hq] at HW
  obtain ⟨⟨n1, n2⟩, hs⟩ := one_yes hq
  have H1 := Lib.hid h1
  have H2 := Lib.hid h2
  have HS := Lib.hid hs
  have HT := Lib.hid ht
  have i1 : 2 ≤ (n : Int) := by omega
  have i2 : (n : Int) ≤ 32 := by omega
  have i3 : (T : Int) ≤ 2000 := by omega
  have i4 : (T : Int) ≤ (c' : Int) := by omega
  clear h1 h2 hs ht hq
  rcases Nat.lt_or_ge T n with hTn | hTn
  · have hN0 : N = 0 := by omega
    subst hN0
    have hmx : (T : Int) - (n : Int) + 1 ≤ 0 := by omega
    have hmx2 : ¬ 0 < (T : Int) - (n : Int) + 1 := by omega
    clear hN
    go_enter Try.func17, Try.ntmps17
    go_wp2_with fail
    go_at_call 45
    refine HW.out.mono ?_
    rintro e w1 ⟨rfl, hb1⟩
    have HB1 := Lib.hid hb1
    clear hb1
    go_wp2_with (go_at_call 46; refine (samples_ok _ c' T Z (by omega) HT.out _ (H2.out.bel HB1.out)).mono ?_; rintro e w2 ⟨rfl, hb2⟩)
    have HB2 := Lib.hid (HB1.out.tr hb2)
    clear hb2
    go_loopw [7, 28] (fun s7 s28 wr => ∃ (V : World), V = wr ∧ s7 = .slice none 0 0 ∧ s28 = .int .i64 0 ∧ Bel w2 wr) (fun _ s28 _ => 0)
    case atStart => exact ⟨_, rfl, rfl, rfl, Bel.rf⟩
    case round =>
      obtain ⟨wr, hwr, rfl, rfl, hb⟩ := hrel
      subst hwr
      have HB := Lib.hid hb
      clear hb
      go_wp2
      go_ret2
      exact ⟨_, rfl, World.ownsRow_nil _ _ _ _, HB2.out.tr HB.out⟩
  · have hmx : (T : Int) - (n : Int) + 1 = (N : Int) := by omega
    have hN0 : 0 < (N : Int) := by omega
    have hNi : (N : Int) ≤ 2001 := by omega
    obtain ⟨ad, rfl, _, _⟩ := H2.out.2 (by omega)
    go_enter Try.func17, Try.ntmps17
    go_wp2_with fail
    go_at_call 45
    refine HW.out.mono ?_
    rintro e w1 ⟨rfl, hb1⟩
    have HB1 := Lib.hid hb1
    clear hb1
    go_wp2_with (go_at_call 46; refine (samples_ok _ c' T Z (by omega) HT.out _ (H2.out.bel HB1.out)).mono ?_; rintro e w2 ⟨rfl, hb2⟩)
    have HB2 := Lib.hid (HB1.out.tr hb2)
    clear hb2
    have HR0 : Hid (PI Q Z n N w2.heap.size w2 (.slice none 0 0) (.int .i64 0) w2) := ⟨0, _, _, rfl, rfl, by omega, rfl, World.ownsRow_nil _ _ _ _, Bel.rf, Nat.le_refl _⟩
    go_loopw [7, 28] (fun s7 s28 wr => PI Q Z n N w2.heap.size w2 s7 s28 wr) (fun _ s28 _ => N - (intOf s28).toNat)
    case atStart => exact HR0.out
    case round =>
      clear HR0
      obtain ⟨k, wr, u7, hwr, hu7, hk, rfl, hown, hb, hbase⟩ := hrel
      subst hwr hu7
      have HO := Lib.hid hown
      have HB := Lib.hid hb
      rcases Nat.lt_or_ge k N with hlt | hge
      · have hw : Bel w wr := HB2.out.tr hb
        have HSQ := Lib.hid (squares_ok A (some (ad.add k)) c n n Q ((Z.drop k).take n) n2 HS.out ((HT.out.drop k).take n) wr (H1.out.bel hw) (zi_gpart (H2.out.bel hw) k n (by omega)))
        obtain ⟨y, hy⟩ : ∃ y, su sq (df Q ((Z.drop k).take n)) = y := ⟨_, rfl⟩
        rw [hy] at HSQ
        have HY := Lib.hid hy
        have ki : (k : Int) < (N : Int) := by omega
        have kb : (k : Int) + (n : Int) ≤ (T : Int) := by omega
        have kc : (k : Int) + (n : Int) ≤ (c' : Int) := by omega
        clear hown hb hw hy
        go_wp2_with fail
        go_at_call 40
        refine HSQ.out.mono ?_
        rintro e w3 ⟨rfl, hb3⟩
        have hown1 := own_bel HO.out hb3
        have hsz := hb3.size
        have HOW := Lib.hid hown1
        have HB3 := Lib.hid hb3
        clear hown1 hb3
        go_wp2_with (at_builtin; refine list_app _ rfl _ _ rfl w2.heap.size u7 k (prof Q Z n k) rfl (HOW.out.alloc _) ⟨w3.heap.size, 0, none⟩ 1 1 [y] rfl (zi_bk (L := [y]) (t := 3) (Bk.nw _ _ _) 1 rfl) (by omega) (by simp; omega) ?_; intro v' w5 hown4 hgrow hat)
        have hstep := pi_step hlt HY.out HO.out HB.out hbase HB3.out hown4 hgrow
        have HST := Lib.hid hstep
        clear hstep hown4 hgrow hat
        go_wp2
        go_roundw
        case rel => exact HST.out
        case measure => simp [intOf]; omega
      · obtain rfl : k = N := by omega
        clear hown hb
        go_wp2
        go_ret2
        exact ⟨_, rfl, HO.out.mono HB2.out.size, HB2.out.tr HB.out⟩
end Go.Proofs.Ytekeclapbfjdiaa.Say
