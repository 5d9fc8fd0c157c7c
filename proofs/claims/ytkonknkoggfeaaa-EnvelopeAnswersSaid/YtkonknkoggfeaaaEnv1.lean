/- The contracts of whole.Passes, envelope.negative and envelope.passing. -/
import Derived.Test.YtkonknkoggfeaaaEnvQ
import Derived.Test.YtkonknkoggfeaaaEnv0
import Derived.Test.YtkonknkoggfeaaaAdr
import Derived.Test.YtkonknkoggfeaaaEuc0
import Derived.BigQuiet
namespace Go.Proofs.Ytkonknkoggfeaaa.Ev
open Go.ChangeShapes Go.WideShapes Go.RowKit Wo Sr Wi Eu
set_option linter.unusedVariables false
theorem passes_ok (n lo hi : Int) (h0 : -1000000 ≤ n ∧ n ≤ 1000000) (h1 : -1000000 ≤ lo ∧ lo ≤ 1000000) (h2 : -1000000 ≤ hi ∧ hi ≤ 1000000) (w : World) : Calls Try.prog 34 #[.int .i64 n, .int .i64 lo, .int .i64 hi] w fun e w' => e = .returned (.int .i64 (ps n lo hi)) ∧ w = w' := by
  obtain ⟨a0, a1⟩ := h0
  obtain ⟨b0, b1⟩ := h1
  obtain ⟨c0, c1⟩ := h2
  go_enter Try.func34, Try.ntmps34
  go_wp2
  all_goals
    go_ret
    refine ⟨congrArg (fun z => Ending.returned (Value.int .i64 z)) ?_, rfl⟩
    have e : (if hi < n then n - hi else 0) = max 0 (n - hi) := by split <;> omega
    unfold ps
    try rw [e] at h
    try rw [e]
    omega
/-- the first k are filled in, the others are 0 -/
def fil (C : List Int) (k : Nat) : List Int := C.take k ++ List.replicate (C.length - k) 0
theorem fil_len (C : List Int) (k : Nat) (h : k ≤ C.length) : (fil C k).length = C.length := by simp [fil]; omega
theorem fil_zero (C : List Int) : fil C 0 = List.replicate C.length 0 := by simp [fil]
theorem fil_all (C : List Int) : fil C C.length = C := by simp [fil]
theorem fil_set (C : List Int) (k : Nat) (h : k < C.length) : (fil C k).set k (C.getD k 0) = fil C (k + 1) := by
  apply List.ext_getElem?
  intro i
  have e1 : C.getD k 0 = C[k] := by rw [List.getD_eq_getElem?_getD, List.getElem?_eq_getElem h]; rfl
  rw [e1]
  unfold fil
  rcases Nat.lt_trichotomy i k with g | g | g
  · rw [List.getElem?_set_ne (by omega), List.getElem?_append_left (by simp; omega), List.getElem?_append_left (by simp; omega), List.getElem?_take_of_lt g, List.getElem?_take_of_lt (by omega)]
  · subst g
    rw [List.getElem?_set_self (by simp; omega), List.getElem?_append_left (by simp; omega), List.getElem?_take_of_lt (by omega), List.getElem?_eq_getElem h]
  · rw [List.getElem?_set_ne (by omega), List.getElem?_append_right (by simp; omega), List.getElem?_append_right (by simp; omega), List.getElem?_replicate, List.getElem?_replicate]
    simp only [List.length_take]
    have : (i - min k C.length < C.length - k) = (i - min (k + 1) C.length < C.length - (k + 1)) := by apply propext; omega
    simp only [this]
set_option maxHeartbeats 4000000 in
set_option maxRecDepth 100000 in
theorem negative_ok (hx : Addr) (c n : Nat) (L : List Int) (n1 : 1 ≤ n) (n2 : n ≤ 32) (hs : Sam L) (w : World) (h1 : Zi w (some hx) n L) :
    Calls Try.prog 44 #[.slice (some hx) n c] w fun e w' => ∃ g, e = .returned (.slice (some ⟨g, 0, none⟩) n n) ∧ w.heap.size ≤ g ∧ Bk w' g 3 (zs (ng L)).toArray ∧ Bel w w' := by
  obtain ⟨i0, hi0, hz0, hz1, hz2⟩ := info_parts info_int
  have HI := Lib.hid (And.intro hi0 (And.intro hz0 (And.intro hz1 hz2)))
  clear hi0 hz0 hz1 hz2
  have H1 := Lib.hid h1
  have HS := Lib.hid hs
  have HC : Hid ((ng L).length = n) := by show _ = _; rw [ng_len, h1.1]
  have i2 : (n : Int) ≤ 32 := by omega
  have i1 : 1 ≤ (n : Int) := by omega
  clear h1 hs
  have HR0 : Hid (∃ (k : Nat) (V : World), V = w.alloc (.cells (zs (List.replicate n 0)).toArray 3) ∧ k ≤ n ∧ (Value.int .i64 0) = .int .i64 (k : Int) ∧ Bk (w.alloc (.cells (zs (List.replicate n 0)).toArray 3)) w.heap.size 3 (zs (fil (ng L) k)).toArray ∧ Bel w (w.alloc (.cells (zs (List.replicate n 0)).toArray 3))) :=
    ⟨0, _, rfl, by omega, rfl, by rw [fil_zero, HC.out]; exact Bk.nw _ _ _, Bel.rf.al _⟩
  go_enter Try.func44, Try.ntmps44
  go_wp2_with (refine wpList_make_any _ rfl (.tmp 7) (.tmp 7) 22 rfl 3 i0 (.int .i64 0) 1 Try.underlying22 HI.out.1 HI.out.2.1 HI.out.2.2.1 .i64 .i64 _ _ n n rfl rfl rfl rfl (by omega) (by rw [HI.out.2.2.2]; omega) (by omega) ?_; rw [made_i64])
  go_loopw [11] (fun s11 w2 => ∃ (k : Nat) (V : World), V = w2 ∧ k ≤ n ∧ s11 = .int .i64 (k : Int) ∧ Bk w2 w.heap.size 3 (zs (fil (ng L) k)).toArray ∧ Bel w w2) (fun s11 _ => n - (intOf s11).toNat)
  case atStart => exact HR0.out
  case round =>
    clear HR0
    obtain ⟨k, w2, hwr, hk, rfl, hbk, hb⟩ := hrel
    subst hwr
    have HB2 := Lib.hid hb
    have HK := Lib.hid hbk
    rcases Nat.lt_or_ge k n with hlt | hge
    · have c1 := (H1.out.bel hb).atg k hlt
      have px := HS.out.at k
      have hat := ng_at L k
      obtain ⟨x, hx⟩ : ∃ x, L.getD k 0 = x := ⟨_, rfl⟩
      rw [hx] at c1 px hat
      obtain ⟨x0, x1⟩ := px
      have e1 := bk_at hbk k (by rw [fil_len _ _ (by rw [HC.out]; omega), HC.out]; omega)
      have f1 : w2.frozen? ⟨w.heap.size, k, none⟩ = false := hbk.fr k
      generalize (fil (ng L) k).getD k 0 = q0 at e1
      have HAT := Lib.hid hat
      have ti : (k : Int) < (n : Int) := by omega
      clear hb hbk hx hat
      go_wp2
      go_roundw
      case rel =>
        refine ⟨k + 1, _, rfl, by omega, by go_num, ?_, HB2.out.st (p := ⟨w.heap.size, k, none⟩) (by show _ ≤ _; simp only []; omega) _⟩
        have h4 := HK.out.st k (.int .i64 (-x))
        rw [zs_set, show -x = (ng L).getD k 0 by rw [HAT.out], fil_set _ _ (by rw [HC.out]; omega)] at h4
        rw [show -x = (ng L).getD k 0 by rw [HAT.out]]
        exact h4
      case measure => simp [intOf]; omega
    · obtain rfl : k = n := by omega
      have hbk2 := hbk
      rw [show fil (ng L) k = ng L by have := fil_all (ng L); rwa [HC.out] at this] at hbk2
      have HKK := Lib.hid hbk2
      clear hb hbk hbk2
      go_wp2
      go_ret
      exact ⟨_, rfl, Nat.le_refl _, HKK.out, HB2.out⟩
set_option maxHeartbeats 4000000 in
set_option maxRecDepth 100000 in
theorem passing_ok (hx : Addr) (hu hl c c' c'' n : Nat) (X U L : List Int) (n2 : n ≤ 32) (sX : Sam X) (sU : Sam U) (sL : Sam L) (w : World) (h1 : Zi w (some hx) n X) (h2 : Zi w (some ⟨hu, 0, none⟩) n U) (h3 : Zi w (some ⟨hl, 0, none⟩) n L) :
    Calls Try.prog 29 #[.slice (some hx) n c, .slice (some ⟨hu, 0, none⟩) n c', .slice (some ⟨hl, 0, none⟩) n c''] w fun e w' => e = .returned (.int .i64 (kv X U L)) ∧ Bel w w' := by
  have H1 := Lib.hid h1
  have H2 := Lib.hid h2
  have H3 := Lib.hid h3
  have SX := Lib.hid sX
  have SU := Lib.hid sU
  have SL := Lib.hid sL
  have HL : Hid ((pz X U L).length = n) := by show _ = _; rw [pz_len, h1.1]
  have HX : Hid (X.length = n) := h1.1
  have bz := Lib.hid (pz_bd sX sU sL)
  have i2 : (n : Int) ≤ 32 := by omega
  clear h1 h2 h3 sX sU sL
  go_enter Try.func29, Try.ntmps29
  go_wp2
  go_loopw [7, 13] (fun s7 s13 wr => ∃ (k : Nat) (V : World), V = wr ∧ k ≤ n ∧ s13 = .int .i64 (k : Int) ∧ s7 = .int .i64 (su sq ((pz X U L).take k)) ∧ Bel w wr) (fun _ s13 _ => n - (intOf s13).toNat)
  case atStart => exact ⟨0, _, rfl, by omega, rfl, by simp [su], Bel.rf⟩
  case round =>
    obtain ⟨k, wr, hwr, hk, rfl, rfl, hb⟩ := hrel
    subst hwr
    have HB := Lib.hid hb
    rcases Nat.lt_or_ge k n with hlt | hge
    · have c1 := (H1.out.bel hb).atg k hlt
      have c2 := (H2.out.bel hb).at k hlt
      have c3 := (H3.out.bel hb).at k hlt
      have px := SX.out.at k
      have pu := SU.out.at k
      have pl := SL.out.at k
      have hn := su_next sq (pz X U L) k (by rw [HL.out]; exact hlt)
      rw [pz_at _ _ _ _ (by rw [HX.out]; exact hlt)] at hn
      have sb := susq_bd (bz.out.take k)
      have tl := List.length_take_le k (pz X U L)
      obtain ⟨x, hx⟩ : ∃ x, X.getD k 0 = x := ⟨_, rfl⟩
      obtain ⟨u, hu⟩ : ∃ x, U.getD k 0 = x := ⟨_, rfl⟩
      obtain ⟨l, hl⟩ : ∃ x, L.getD k 0 = x := ⟨_, rfl⟩
      rw [hx] at c1 px hn
      rw [hu] at c2 pu hn
      rw [hl] at c3 pl hn
      have PK : Hid (∀ W, _) := fun W => passes_ok x l u (by omega) (by omega) (by omega) W
      have pb : 0 ≤ ps x l u ∧ ps x l u ≤ 2000 := by unfold ps; omega
      obtain ⟨s, hs⟩ : ∃ s, su sq ((pz X U L).take k) = s := ⟨_, rfl⟩
      obtain ⟨d, hd⟩ : ∃ d, ps x l u = d := ⟨_, rfl⟩
      rw [hs] at sb hn ⊢
      rw [hd] at hn pb PK
      have hn' : su sq ((pz X U L).take (k + 1)) = s + d * d := hn
      have d2 := sq_bd (B := 2000) (x := d) (by omega) (by omega)
      obtain ⟨r, hr⟩ : ∃ r, d * d = r := ⟨_, rfl⟩
      rw [hr] at hn' d2
      have s0 : 0 ≤ s ∧ s ≤ 128000000 := by omega
      obtain ⟨s0, s1⟩ := s0
      have w1 : wrap64 r = r := IntWalk.wrap64_in _ (by omega)
      have w2 : wrap64 (s + r) = s + r := IntWalk.wrap64_in _ (by omega)
      have HN := Lib.hid hn'
      have ti : (k : Int) < (n : Int) := by omega
      clear hb hx hu hl sb tl hs hd hn hn' px pu pl
      go_wp2
      go_quiet ((go_at_call 34; exact quiet_same (PK.out _)))
      go_wp2
      go_roundw
      case rel => exact ⟨k + 1, _, rfl, by omega, by go_num, by rw [HN.out], by first | exact HB.out.drwN _ | exact HB.out.drw | exact HB.out⟩
      case measure => simp [intOf]; omega
    · obtain rfl : k = n := by omega
      rw [List.take_of_length_le (by rw [HL.out]; exact Nat.le_refl _)]
      clear hb
      go_wp2
      go_ret
      exact ⟨rfl, HB.out⟩
end Go.Proofs.Ytkonknkoggfeaaa.Ev
