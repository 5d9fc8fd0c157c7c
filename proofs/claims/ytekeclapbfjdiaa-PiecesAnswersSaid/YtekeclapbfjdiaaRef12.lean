/- The contract of shapesearchref12.Distance over two windows of one length. -/
import Derived.Test.YtekeclapbfjdiaaRef12c
namespace Go.Proofs.Ytekeclapbfjdiaa.R12
open Go.ChangeShapes Go.WideShapes Go.RowKit Wo Sr Wi
set_option linter.unusedVariables false
set_option maxHeartbeats 8000000 in
theorem sums_ok (A A' : Option Addr) (c c' n : Nat) (L M : List Int) (n2 : n ≤ 32) (hs : Sam L) (ht : Sam M) (w : World) (h1 : Zi w A n L) (h2 : Zi w A' n M) :
    Calls Try.prog 42 #[.slice A n c, .slice A' n c'] w fun e w' => e = .returned (.tuple #[.int .i64 (su id (df L M)), .int .i64 (su sq (df L M))]) ∧ Bel w w' := by
  have H1 := Lib.hid h1
  have H2 := Lib.hid h2
  have HS := Lib.hid hs
  have HT := Lib.hid ht
  have hl : L.length = M.length := by rw [h1.1, h2.1]
  have hln : (df L M).length = n := by rw [df_len hl, h1.1]
  have HL := Lib.hid (And.intro hl hln)
  have i2 : (n : Int) ≤ 32 := by omega
  clear h1 h2 hs ht hl hln
  go_enter Try.func42, Try.ntmps42
  go_wp2
  go_loopw [6, 7, 11] (fun s6 s7 s11 wr => ∃ (t : Nat) (V : World) (p q : Int), V = wr ∧ t ≤ n ∧ s11 = .int .i64 (t : Int) ∧ s6 = .int .i64 p ∧ s7 = .int .i64 q ∧ p = su id ((df L M).take t) ∧ q = su sq ((df L M).take t) ∧ (-(2000 * (t : Int)) ≤ p ∧ p ≤ 2000 * (t : Int)) ∧ (0 ≤ q ∧ q ≤ 4000000 * (t : Int)) ∧ Bel w wr) (fun _ _ s11 _ => n - (intOf s11).toNat)
  case atStart => exact ⟨0, _, 0, 0, rfl, by omega, rfl, rfl, rfl, by simp [su], by simp [su], by omega, by omega, Bel.rf⟩
  case round =>
    obtain ⟨t, wr, p, q, hwr, ht, rfl, rfl, rfl, hp, hq, hpb, hqb, hb⟩ := hrel
    subst hwr
    have HB := Lib.hid hb
    have HPQ := Lib.hid (And.intro hp hq)
    obtain ⟨p0, p1⟩ := hpb
    obtain ⟨q0, q1⟩ := hqb
    rcases Nat.lt_or_ge t n with hlt | hge
    · obtain ⟨ad, rfl, hab, hac⟩ := (H1.out.bel hb).2 (by omega)
      obtain ⟨ad', rfl, hab', hac'⟩ := (H2.out.bel hb).2 (by omega)
      have c1 := hac t hlt
      have c2 := hac' t hlt
      have px := HS.out.at t
      have py := HT.out.at t
      have e1 := su_next id (df L M) t (by rw [HL.out.2]; exact hlt)
      have e2 := su_next sq (df L M) t (by rw [HL.out.2]; exact hlt)
      have e3 := df_at HL.out.1 t (by rw [H1.out.1]; exact hlt)
      rw [e3, ← hp] at e1
      rw [e3, ← hq] at e2
      obtain ⟨x, hx⟩ : ∃ x, L.getD t 0 = x := ⟨_, rfl⟩
      obtain ⟨y, hy⟩ : ∃ x, M.getD t 0 = x := ⟨_, rfl⟩
      rw [hx] at c1 px e1 e2
      rw [hy] at c2 py e1 e2
      obtain ⟨d, hd⟩ : ∃ d, x - y = d := ⟨_, rfl⟩
      rw [hd] at e1 e2
      have e1' : p + d = su id ((df L M).take (t + 1)) := e1.symm
      have e2' : q + d * d = su sq ((df L M).take (t + 1)) := e2.symm
      have hsq := sq_bd (B := 2000) (x := d) (by omega) (by omega)
      obtain ⟨r, hr⟩ : ∃ r, d * d = r := ⟨_, rfl⟩
      rw [hr] at e2' hsq
      have HN := Lib.hid (And.intro e1' e2')
      obtain ⟨s, hs⟩ : ∃ s, p + x = s := ⟨_, rfl⟩
      have hs2 : s - y = p + d := by omega
      have ti : (t : Int) < (n : Int) := by omega
      have w1 : IntKind.i64.wrap s = s := IntWalk.i64_in _ (by omega)
      have w2 : IntKind.i64.wrap (p + d) = p + d := IntWalk.i64_in _ (by omega)
      have w3 : IntKind.i64.wrap d = d := IntWalk.i64_in _ (by omega)
      have w4 : IntKind.i64.wrap r = r := IntWalk.i64_in _ (by omega)
      have w5 : IntKind.i64.wrap (q + r) = q + r := IntWalk.i64_in _ (by omega)
      have HX := Lib.hid (And.intro hx hy)
      have HBD : Hid ((-(2000 * ((t + 1 : Nat) : Int)) ≤ p + d ∧ p + d ≤ 2000 * ((t + 1 : Nat) : Int)) ∧ (0 ≤ q + r ∧ q + r ≤ 4000000 * ((t + 1 : Nat) : Int))) := by show _ ∧ _; omega
      clear hb hac hac' hab hab' hx hy hp hq e1 e2 e3 e1' e2' px py
      go_wp2
      go_quiet (fail)
      go_wp2
      go_roundw
      case rel => exact ⟨t + 1, _, _, _, rfl, by omega, by go_num, rfl, rfl, HN.out.1, HN.out.2, HBD.out.1, HBD.out.2, by first | exact HB.out | exact HB.out.drwN _ | exact HB.out.drw⟩
      case measure => simp [intOf]; omega
    · obtain rfl : n = t := by omega
      rw [List.take_of_length_le (by rw [HL.out.2]; exact Nat.le_refl _)] at hp hq
      have HF := Lib.hid (And.intro hp hq)
      clear hb hp hq
      go_wp2
      go_ret2
      exact ⟨by rw [HF.out.1, HF.out.2]; rfl, HB.out⟩
set_option maxHeartbeats 4000000 in
theorem rdistance_ok (A A' : Option Addr) (c c' n : Nat) (L M : List Int) (n1 : 2 ≤ n) (n2 : n ≤ 32) (hs : Sam L) (ht : Sam M) (w : World) (h1 : Zi w A n L) (h2 : Zi w A' n M) :
    Calls Try.prog 12 #[.slice A n c, .slice A' n c'] w fun e w' => e = .returned (.tuple #[.int .i64 (su sq (df L M)), .int .i64 0]) ∧ Bel w w' := by
  have T1 := Lib.hid (two_ok A A' c c' n L M n1 n2 hs ht w h1 h2)
  have S1 : Hid (∀ W, Bel w W → _) := fun W hW => sums_ok A A' c c' n L M n2 hs ht W (h1.bel hW) (h2.bel hW)
  clear h1 h2 hs ht
  go_enter Try.func12, Try.ntmps12
  go_wp2_with fail
  go_at_call 41
  refine T1.out.mono ?_
  rintro e w1 ⟨rfl, hb1⟩
  go_wp2_with fail
  go_at_call 42
  refine (S1.out _ hb1).mono ?_
  rintro e w2 ⟨rfl, hb2⟩
  go_wp2
  go_ret2
  exact ⟨rfl, hb1.tr hb2⟩
end Go.Proofs.Ytekeclapbfjdiaa.R12
