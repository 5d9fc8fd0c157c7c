/- euclid.squares with any limit. -/
import Derived.Test.YtekeclapbfjdiaaEuc1
namespace Go.Proofs.Ytekeclapbfjdiaa.Eu
open Go.ChangeShapes Go.WideShapes Go.RowKit Wo Sr Wi Ra
set_option linter.unusedVariables false
theorem su_le (D : List Int) : ∀ k, su sq (D.take k) ≤ su sq D := by
  induction D with
  | nil => intro k; rw [List.take_nil]; exact Int.le_refl _
  | cons x D ih =>
    intro k
    cases k with
    | zero => exact susq_nn (x :: D)
    | succ k =>
      have h := ih k
      show sq x + su sq (D.take k) ≤ sq x + su sq D
      omega
set_option maxHeartbeats 8000000 in
set_option maxRecDepth 100000 in
theorem squares_lim (A A' : Option Addr) (c c' n : Nat) (L M : List Int) (n2 : n ≤ 32) (hs : Sam L) (ht : Sam M) (l : Int) (w : World) (h1 : Zi w A n L) (h2 : Zi w A' n M) :
    Calls Try.prog 40 #[.slice A n c, .slice A' n c', .int .i64 l] w fun e w' => (∃ r : Int, e = .returned (.int .i64 r) ∧ (r ≤ l → r = su sq (df L M)) ∧ (l < r → l < su sq (df L M))) ∧ Bel w w' := by
  have H1 := Lib.hid h1
  have H2 := Lib.hid h2
  have HS := Lib.hid hs
  have HT := Lib.hid ht
  have hlen : L.length = M.length := by rw [h1.1, h2.1]
  have hl := h1.1
  have HD : Hid (Bd 2000 (df L M)) := df_bd (A := 1000) (B := 1000) hs ht
  have i2 : (n : Int) ≤ 32 := by omega
  clear h1 h2 hs ht
  go_enter Try.func40, Try.ntmps40
  go_wp2
  go_step3
  go_wp2
  go_step3
  go_wp2
  go_loopw [7, 12] (fun s7 s12 wr => ∃ (t : Nat) (V : World) (s : Int), V = wr ∧ t ≤ n ∧ s12 = .int .i64 (t : Int) ∧ s7 = .int .i64 s ∧ s = su sq ((df L M).take t) ∧ Bel w wr) (fun _ s12 _ => n - (intOf s12).toNat)
  case atStart => exact ⟨0, _, 0, rfl, by omega, rfl, rfl, by simp [su], Bel.rf⟩
  case round =>
    obtain ⟨t, wr, s, hwr, ht, rfl, rfl, hs, hb⟩ := hrel
    subst hwr
    have HB := Lib.hid hb
    have HSV := Lib.hid hs
    rcases Nat.lt_or_ge t n with hlt | hge
    · obtain ⟨ad, rfl, _, hac⟩ := (H1.out.bel hb).2 (by omega)
      obtain ⟨ad', rfl, _, hac'⟩ := (H2.out.bel hb).2 (by omega)
      have c1 := hac t hlt
      have c2 := hac' t hlt
      have hd := df_at hlen t (by omega)
      have hn := su_next sq (df L M) t (by rw [df_len hlen]; omega)
      have hbd := susq_bd (HD.out.take t)
      have hbd2 := susq_bd (HD.out.take (t + 1))
      have tl : (((df L M).take t).length : Int) ≤ 32 ∧ (((df L M).take (t + 1)).length : Int) ≤ 32 := by
        have := List.length_take_le t (df L M)
        have := List.length_take_le (t + 1) (df L M)
        omega
      have px := HS.out.at t
      have py := HT.out.at t
      obtain ⟨x, hx⟩ : ∃ x, L.getD t 0 = x := ⟨_, rfl⟩
      obtain ⟨y, hy⟩ : ∃ y, M.getD t 0 = y := ⟨_, rfl⟩
      rw [hx] at c1 px hd
      rw [hy] at c2 py hd
      rw [hd] at hn
      rw [hn, ← hs] at hbd2
      rw [← hs] at hbd hn
      unfold sq at hn hbd2
      obtain ⟨x0, x1⟩ := px
      obtain ⟨y0, y1⟩ := py
      obtain ⟨d, hdd⟩ : ∃ d, x - y = d := ⟨_, rfl⟩
      rw [hdd] at hn hbd2
      have HN : Hid (s + d * d = su sq ((df L M).take (t + 1))) := hn.symm
      have s0 : 0 ≤ s ∧ s ≤ 128000000 ∧ 0 ≤ s + d * d ∧ s + d * d ≤ 128000000 := by
        obtain ⟨a, b⟩ := hbd
        obtain ⟨a2, b2⟩ := hbd2
        omega
      have dq := sq_nn d
      obtain ⟨s00, s01, s02, s03⟩ := s0
      have m1 : wrap64 (d * d) = d * d := IntWalk.wrap64_in _ (by omega)
      have m2 : IntKind.i64.wrap (d * d) = d * d := IntWalk.i64_in _ (by omega)
      have m3 : IntKind.i64.wrap (s + d * d) = s + d * d := IntWalk.i64_in _ (by omega)
      have m5 : IntKind.i64.wrap d = d := IntWalk.i64_in _ (by omega)
      have m6 : IntKind.i64.wrap (x - y) = d := by rw [hdd]; exact m5
      have HTOT : Hid (s + d * d ≤ su sq (df L M)) := by
        show _ ≤ _
        rw [HN.out]; exact su_le _ _
      have ti : (t : Int) < (n : Int) := by omega
      have HXY := Lib.hid (And.intro hx hy)
      clear hb hs hac hac' hd hbd hbd2 tl hx hy hn
      rcases Int.lt_or_le l (s + d * d) with bk0 | bk0
      · have bk : decide (l < s + d * d) = true := decide_eq_true bk0
        go_wp2
        go_quiet (fail)
        go_wp2
        rw [Exit.noGoto_ret]
        go_ret
        exact ⟨⟨s + d * d, rfl, fun h => by omega, fun _ => by have := HTOT.out; omega⟩, by first | exact HB.out.drwN _ | exact HB.out.drw | exact HB.out⟩
      · have bk1 : ¬ l < s + d * d := by omega
        have bk : decide (l < s + d * d) = false := decide_eq_false bk1
        go_wp2
        go_quiet (fail)
        go_wp2
        go_roundw
        case rel => exact ⟨t + 1, _, _, rfl, by omega, by go_num, rfl, HN.out, by first | exact HB.out.drwN _ | exact HB.out.drw | exact HB.out⟩
        case measure => simp [intOf]; omega
    · obtain rfl : t = n := by omega
      have e : (df L M).take t = df L M := List.take_of_length_le (by rw [df_len hlen]; omega)
      rw [e] at hs
      clear hb
      go_wp2
      rw [Exit.noGoto_ret]
      go_ret
      exact ⟨⟨s, rfl, fun _ => hs, fun h => by rw [← hs]; exact h⟩, HB.out⟩
end Go.Proofs.Ytekeclapbfjdiaa.Eu
