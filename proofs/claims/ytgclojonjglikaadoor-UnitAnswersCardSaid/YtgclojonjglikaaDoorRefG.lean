/- ref04.Format of valid decimals: the contract; the line of a number in a unit. -/
import Derived.Test.YtgclojonjglikaaDoorRefF
import Derived.BigQuiet
namespace Go.Proofs.YtgclojonjglikaaDoor.Rd1
open Go.ChangeShapes Go.WideShapes Go.RowKit Wo Un
set_option linter.unusedVariables false
theorem proper_yes (x : Int) (p : Nat) (h0 : -1000000000 ≤ x) (h1 : x ≤ 1000000000) (hp : p ≤ 6) (w : World) : Calls Tryd.prog 20 #[.agg #[.int .i64 x, .int .i64 (p : Int)]] w fun e w' => e = .returned (.bool true) ∧ Bel w w' := by
  refine (proper_any x p w).mono ?_
  rintro e w' ⟨h | h, hb⟩
  · exact ⟨h.1, hb⟩
  · exact absurd ⟨h0, h1, by omega, by omega⟩ h.2
theorem ba_app (a b : List UInt8) : (⟨a.toArray⟩ : ByteArray) ++ ⟨b.toArray⟩ = ⟨(a ++ b).toArray⟩ := by
  have e : ((⟨a.toArray⟩ : ByteArray) ++ ⟨b.toArray⟩).data.toList = a ++ b := by rw [ByteArray.data_append, Array.toList_append]
  rw [← e]
  try exact (Lib.mk_data _).symm
theorem ba_sum (a b c : List UInt8) : (⟨a.toArray⟩ : ByteArray) ++ ⟨b.toArray⟩ ++ ⟨#[46]⟩ ++ ⟨c.toArray⟩ = ⟨(a ++ (b ++ 46 :: c)).toArray⟩ := by
  have e : ((⟨a.toArray⟩ : ByteArray) ++ ⟨b.toArray⟩ ++ ⟨#[46]⟩ ++ ⟨c.toArray⟩).data.toList = a ++ (b ++ 46 :: c) := by
    rw [ByteArray.data_append, Array.toList_append, ByteArray.data_append, Array.toList_append, ByteArray.data_append, Array.toList_append]
    simp
  rw [← e]
  try exact (Lib.mk_data _).symm
set_option maxHeartbeats 4000000 in
set_option maxRecDepth 100000 in
theorem rf_0p (x : Int) (p : Nat) (h0 : -1000000000 ≤ x) (h1 : x ≤ 1000000000) (hp : p ≤ 6) (hz : p = 0) (hx : 0 ≤ x) (w : World) :
    Calls Tryd.prog 6 #[.agg #[.int .i64 x, .int .i64 (p : Int)]] w fun e w' => e = .returned (.string ⟨(rt x p).toArray⟩) ∧ Bel w w' := by
  obtain ⟨n, hn⟩ : ∃ n, x.natAbs = n := ⟨_, rfl⟩
  have hnb : n ≤ 1000000000 := by omega
  subst hz
  have HDD : Hid (∀ W, Calls Tryd.prog 20 #[.agg #[.int .i64 x, .int .i64 ((0 : Nat) : Int)]] W fun e w' => e = .returned (.bool true) ∧ Bel W w') := fun W => proper_yes x 0 h0 h1 hp W
  have HPW : Hid (∀ W, Calls Tryd.prog 21 #[.int .i64 ((0 : Nat) : Int)] W fun e w' => e = .returned (.int .i64 1) ∧ W = w') := fun W => by exact power_any 0 hp W
  obtain ⟨y, hy⟩ : ∃ y : ByteArray, (⟨(Lib.decDigits n).toArray⟩ : ByteArray) = y := ⟨_, rfl⟩
  have HDC : Hid (∀ W, Calls Tryd.prog 22 #[.int .i64 (n : Int)] W fun e w' => e = .returned (.string y) ∧ Bel W w') := fun W => by rw [← hy]; exact decimal_any n (by omega) W
  obtain ⟨z1, hz1⟩ : ∃ z, y.size = z := ⟨_, rfl⟩
  have hz1b : z1 ≤ 20 := by
    rw [← hz1, ← hy, Lib.size_eq]
    show (Lib.decDigits n).length ≤ 20
    rw [Lib.decDigits_length]
    have := nd_13 (n := n) (by omega)
    omega
  have g1 : (9223372036854775807 < z1) = False := eq_false (by omega)
  have HR : Hid ((⟨#[]⟩ : ByteArray) ++ y = (⟨(rt x 0).toArray⟩ : ByteArray)) := by
    unfold rt rb
    rw [hn, if_neg (by omega), if_pos rfl, ← hy]
    exact ba_app [] _
  clear hy hz1b
  obtain rfl : x = (n : Int) := by omega
  have x0 : ¬ (n : Int) < 0 := by omega
  clear hn
  go_enter Tryd.func6, Tryd.ntmps6
  go_wp2_with fail
  go_at_call 20
  refine (HDD.out _).mono ?_
  rintro e v1 ⟨rfl, hb⟩
  have HB : Hid (Bel w v1) := (Bel.rf.al _).tr hb
  have kB : Bk v1 w.heap.size 23 #[.int .i64 (n : Int), .int .i64 ((0 : Nat) : Int)] := (Bk.nw w _ _).bel hb
  have k0 : v1.cell? ⟨w.heap.size, 0, none⟩ = some (.int .i64 (n : Int)) := kB.cell 0
  have k1 : v1.cell? ⟨w.heap.size, 1, none⟩ = some (.int .i64 ((0 : Nat) : Int)) := kB.cell 1
  have kl := kB.lt
  clear hb kB
  go_wp2_with fail
  go_quiet (fail)
  go_wp2_with fail
  go_at_call 21
  refine (HPW.out _).mono ?_
  rintro e v2 ⟨rfl, hw2⟩
  subst hw2
  go_wp2_with fail
  go_at_call 22
  refine (HDC.out _).mono ?_
  rintro e v3 ⟨rfl, hb3⟩
  go_wp2
  exact bodyPost_ret (v := .string (⟨#[]⟩ ++ y)) (by simp [results, Tryd.results6, go_sem]) rfl ⟨by rw [HR.out], (HB.out.drwN _).tr hb3⟩
set_option maxHeartbeats 4000000 in
set_option maxRecDepth 100000 in
theorem rf_0n (x : Int) (p : Nat) (h0 : -1000000000 ≤ x) (h1 : x ≤ 1000000000) (hp : p ≤ 6) (hz : p = 0) (hx : x < 0) (w : World) :
    Calls Tryd.prog 6 #[.agg #[.int .i64 x, .int .i64 (p : Int)]] w fun e w' => e = .returned (.string ⟨(rt x p).toArray⟩) ∧ Bel w w' := by
  obtain ⟨n, hn⟩ : ∃ n, x.natAbs = n := ⟨_, rfl⟩
  have hnb : n ≤ 1000000000 := by omega
  subst hz
  have HDD : Hid (∀ W, Calls Tryd.prog 20 #[.agg #[.int .i64 x, .int .i64 ((0 : Nat) : Int)]] W fun e w' => e = .returned (.bool true) ∧ Bel W w') := fun W => proper_yes x 0 h0 h1 hp W
  have HPW : Hid (∀ W, Calls Tryd.prog 21 #[.int .i64 ((0 : Nat) : Int)] W fun e w' => e = .returned (.int .i64 1) ∧ W = w') := fun W => by exact power_any 0 hp W
  obtain ⟨y, hy⟩ : ∃ y : ByteArray, (⟨(Lib.decDigits n).toArray⟩ : ByteArray) = y := ⟨_, rfl⟩
  have HDC : Hid (∀ W, Calls Tryd.prog 22 #[.int .i64 (n : Int)] W fun e w' => e = .returned (.string y) ∧ Bel W w') := fun W => by rw [← hy]; exact decimal_any n (by omega) W
  obtain ⟨z1, hz1⟩ : ∃ z, y.size = z := ⟨_, rfl⟩
  have hz1b : z1 ≤ 20 := by
    rw [← hz1, ← hy, Lib.size_eq]
    show (Lib.decDigits n).length ≤ 20
    rw [Lib.decDigits_length]
    have := nd_13 (n := n) (by omega)
    omega
  have g1 : (9223372036854775807 < 1 + z1) = False := eq_false (by omega)
  have HR : Hid ((⟨#[45]⟩ : ByteArray) ++ y = (⟨(rt x 0).toArray⟩ : ByteArray)) := by
    unfold rt rb
    rw [hn, if_pos hx, if_pos rfl, ← hy]
    exact ba_app [45] _
  clear hy hz1b
  obtain rfl : x = -(n : Int) := by omega
  have x0 : -(n : Int) < 0 := by omega
  clear hn
  go_enter Tryd.func6, Tryd.ntmps6
  go_wp2_with fail
  go_at_call 20
  refine (HDD.out _).mono ?_
  rintro e v1 ⟨rfl, hb⟩
  have HB : Hid (Bel w v1) := (Bel.rf.al _).tr hb
  have kB : Bk v1 w.heap.size 23 #[.int .i64 (-(n : Int)), .int .i64 ((0 : Nat) : Int)] := (Bk.nw w _ _).bel hb
  have k0 : v1.cell? ⟨w.heap.size, 0, none⟩ = some (.int .i64 (-(n : Int))) := kB.cell 0
  have k1 : v1.cell? ⟨w.heap.size, 1, none⟩ = some (.int .i64 ((0 : Nat) : Int)) := kB.cell 1
  have kl := kB.lt
  clear hb kB
  go_wp2_with fail
  go_quiet (fail)
  go_wp2_with fail
  go_at_call 21
  refine (HPW.out _).mono ?_
  rintro e v2 ⟨rfl, hw2⟩
  subst hw2
  go_wp2_with fail
  go_at_call 22
  refine (HDC.out _).mono ?_
  rintro e v3 ⟨rfl, hb3⟩
  go_wp2
  exact bodyPost_ret (v := .string (⟨#[45]⟩ ++ y)) (by simp [results, Tryd.results6, go_sem]) rfl ⟨by rw [HR.out], (HB.out.drwN _).tr hb3⟩
set_option maxHeartbeats 4000000 in
set_option maxRecDepth 100000 in
theorem rf_1p (x : Int) (p : Nat) (h0 : -1000000000 ≤ x) (h1 : x ≤ 1000000000) (hp : p ≤ 6) (hz : 1 ≤ p) (hx : 0 ≤ x) (w : World) :
    Calls Tryd.prog 6 #[.agg #[.int .i64 x, .int .i64 (p : Int)]] w fun e w' => e = .returned (.string ⟨(rt x p).toArray⟩) ∧ Bel w w' := by
  obtain ⟨n, hn⟩ : ∃ n, x.natAbs = n := ⟨_, rfl⟩
  have hnb : n ≤ 1000000000 := by omega
  obtain ⟨P, hP⟩ : ∃ P, 10 ^ p = P := ⟨_, rfl⟩
  have hPi : (10 : Int) ^ p = (P : Int) := by rw [← hP]; exact (Int.natCast_pow 10 p).symm
  have hPb := pow_bd hp
  rw [hPi] at hPb
  have hP1 : 1 ≤ P := by omega
  have hP2 : P ≤ 1000000 := by omega
  obtain ⟨q, hq⟩ : ∃ q, n / P = q := ⟨_, rfl⟩
  obtain ⟨r, hr⟩ : ∃ r, n % P = r := ⟨_, rfl⟩
  have hq2 : q ≤ n := by rw [← hq]; exact Nat.div_le_self _ _
  have hr2 : r < P := by rw [← hr]; exact Nat.mod_lt _ hP1
  obtain ⟨B, b1, b2, b3, b4⟩ := dec_one p r (by rw [hP]; exact hr2)
  rw [hP] at b1
  have HDD : Hid (∀ W, Calls Tryd.prog 20 #[.agg #[.int .i64 x, .int .i64 (p : Int)]] W fun e w' => e = .returned (.bool true) ∧ Bel W w') := fun W => proper_yes x p h0 h1 hp W
  have HPW : Hid (∀ W, Calls Tryd.prog 21 #[.int .i64 (p : Int)] W fun e w' => e = .returned (.int .i64 (P : Int)) ∧ W = w') := fun W => by have := power_any p hp W; rwa [hPi] at this
  obtain ⟨y1, hy1⟩ : ∃ y : ByteArray, (⟨(Lib.decDigits q).toArray⟩ : ByteArray) = y := ⟨_, rfl⟩
  obtain ⟨y2, hy2⟩ : ∃ y : ByteArray, (⟨(49 :: B).toArray⟩ : ByteArray) = y := ⟨_, rfl⟩
  have IQ : Hid (∀ W, Calls Tryd.prog 22 #[.int .i64 (q : Int)] W fun e w' => e = .returned (.string y1) ∧ Bel W w') := fun W => by rw [← hy1]; exact decimal_any q (by omega) W
  have IR : Hid (∀ W, Calls Tryd.prog 22 #[.int .i64 ((P : Int) + (r : Int))] W fun e w' => e = .returned (.string y2) ∧ Bel W w') := fun W => by
    have := decimal_any (P + r) (by omega) W
    rw [b1, hy2] at this
    exact this
  obtain ⟨z1, hz1⟩ : ∃ z, y1.size = z := ⟨_, rfl⟩
  have hz1b : z1 ≤ 20 := by
    rw [← hz1, ← hy1, Lib.size_eq]
    show (Lib.decDigits q).length ≤ 20
    rw [Lib.decDigits_length]
    have := nd_13 (n := q) (by omega)
    omega
  have hy2s : y2.size = p + 1 := by rw [← hy2, Lib.size_eq]; show (49 :: B).length = _; rw [List.length_cons, b2]
  obtain ⟨y3, hy3⟩ : ∃ y : ByteArray, y2.extract 1 (p + 1) = y := ⟨_, rfl⟩
  have hy3d : y3 = (⟨B.toArray⟩ : ByteArray) := by
    have e : y3.data.toList = B := by
      rw [← hy3, Lib.extract_data, ← hy2]
      show (List.drop 1 (49 :: B)).take (p + 1 - 1) = B
      rw [show p + 1 - 1 = p by omega, List.drop_one, List.tail_cons, List.take_of_length_le (by omega)]
    rw [← e]
    try exact (Lib.mk_data _).symm
  have hy3s : y3.size = p := by rw [hy3d, Lib.size_eq]; exact b2
  have HR : Hid (⟨#[]⟩ ++ y1 ++ ⟨#[46]⟩ ++ y3 = (⟨(rt x p).toArray⟩ : ByteArray)) := by
    have e : rt x p = [] ++ (Lib.decDigits q ++ 46 :: B) := by
      unfold rt rb
      rw [hn, if_neg (by omega), if_neg (by omega), hP, hq, hr, b1]; rfl
    rw [e, hy3d, ← hy1]
    exact ba_sum [] (Lib.decDigits q) B
  have t1 : Int.tdiv (n : Int) (P : Int) = (q : Int) := by rw [Int.tdiv_eq_ediv_of_nonneg (by omega), ← hq]; rfl
  have t2 : Int.tmod (n : Int) (P : Int) = (r : Int) := by rw [Int.tmod_eq_emod_of_nonneg (by omega), ← hr]; rfl
  have t3 : ((n : Int) / (P : Int)) = (q : Int) := by rw [← hq]; rfl
  have t4 : ((n : Int) % (P : Int)) = (r : Int) := by rw [← hr]; rfl
  have t5 : n / P = q := hq
  have t6 : n % P = r := hr
  have p0 : ¬ (P : Int) = 0 := by omega
  have p1 : ¬ P = 0 := by omega
  have w1 : IntKind.i64.wrap ((P : Int) + (r : Int)) = (P : Int) + (r : Int) := IntWalk.i64_in _ (by omega)
  have w2 : IntKind.i64.wrap (q : Int) = (q : Int) := IntWalk.i64_in _ (by omega)
  have w3 : IntKind.i64.wrap (r : Int) = (r : Int) := IntWalk.i64_in _ (by omega)
  have g1 : (9223372036854775807 < z1) = False := eq_false (by omega)
  have g2 : (9223372036854775807 < z1 + 1) = False := eq_false (by omega)
  have g3 : (9223372036854775807 < z1 + 1 + p) = False := eq_false (by omega)
  have i1 : (1 : Int) ≤ (p : Int) + 1 := by omega
  have i2 : ((p : Int) == 0) = false := by simp; omega
  have i3 : ¬ (p : Int) = 0 := by omega
  have i4 : ¬ p = 0 := by omega
  have HPP := Lib.hid (And.intro hPi hP)
  clear hPi hP hPb hy1 hy2 hy3d b1 b2 b3 b4 hq hr hP1 hP2 hq2 hr2 hz1b
  obtain rfl : x = (n : Int) := by omega
  have x0 : ¬ (n : Int) < 0 := by omega
  clear hn
  go_enter Tryd.func6, Tryd.ntmps6
  go_wp2_with fail
  go_at_call 20
  refine (HDD.out _).mono ?_
  rintro e v1 ⟨rfl, hb⟩
  have HB : Hid (Bel w v1) := (Bel.rf.al _).tr hb
  have kB : Bk v1 w.heap.size 23 #[.int .i64 (n : Int), .int .i64 (p : Int)] := (Bk.nw w _ _).bel hb
  have k0 : v1.cell? ⟨w.heap.size, 0, none⟩ = some (.int .i64 (n : Int)) := kB.cell 0
  have k1 : v1.cell? ⟨w.heap.size, 1, none⟩ = some (.int .i64 (p : Int)) := kB.cell 1
  have kl := kB.lt
  clear hb kB
  go_wp2_with fail
  go_quiet (fail)
  go_wp2_with fail
  go_at_call 21
  refine (HPW.out _).mono ?_
  rintro e v2 ⟨rfl, hw2⟩
  subst hw2
  have KS : Hid (∀ W', Bel v1 W' → ((fun w' => w'.cell? ⟨w.heap.size, 0, none⟩ = some (.int .i64 (n : Int))) W')) := fun W' h => h.kp k0
  have HPP2 := Lib.hid (And.intro t1 t2)
  go_wp2_with fail
  go_region_held3 (fun w' => w'.cell? ⟨w.heap.size, 0, none⟩ = some (.int .i64 (n : Int)))
    (exact KS.out _ (by repeat (first | exact Bel.rf | (with_reducible refine Bel.drwN ?_ _) | (with_reducible refine Bel.drw ?_) | (with_reducible refine Bel.tr ?_ h2) | (with_reducible refine Bel.tr ?_ h1))))
    ((go_at_call 22; first
      | ((with_reducible refine (IQ.out _).mono ?_); rintro r s1 ⟨rfl, h1⟩)
      | ((with_reducible refine (IR.out _).mono ?_); rintro r s2 ⟨rfl, h2⟩)))
  go_wp2_with fail
  refine bodyPost_ret (v := .string (⟨#[]⟩ ++ y1 ++ ⟨#[46]⟩ ++ y3)) (by simp [results, Tryd.results6, go_sem]) rfl ⟨by rw [HR.out], HB.out.tr ?_⟩
  repeat (first | exact Bel.rf | (with_reducible refine Bel.drwN ?_ _) | (with_reducible refine Bel.drw ?_) | (with_reducible refine Bel.tr ?_ h2) | (with_reducible refine Bel.tr ?_ h1))
set_option maxHeartbeats 4000000 in
set_option maxRecDepth 100000 in
theorem rf_1n (x : Int) (p : Nat) (h0 : -1000000000 ≤ x) (h1 : x ≤ 1000000000) (hp : p ≤ 6) (hz : 1 ≤ p) (hx : x < 0) (w : World) :
    Calls Tryd.prog 6 #[.agg #[.int .i64 x, .int .i64 (p : Int)]] w fun e w' => e = .returned (.string ⟨(rt x p).toArray⟩) ∧ Bel w w' := by
  obtain ⟨n, hn⟩ : ∃ n, x.natAbs = n := ⟨_, rfl⟩
  have hnb : n ≤ 1000000000 := by omega
  obtain ⟨P, hP⟩ : ∃ P, 10 ^ p = P := ⟨_, rfl⟩
  have hPi : (10 : Int) ^ p = (P : Int) := by rw [← hP]; exact (Int.natCast_pow 10 p).symm
  have hPb := pow_bd hp
  rw [hPi] at hPb
  have hP1 : 1 ≤ P := by omega
  have hP2 : P ≤ 1000000 := by omega
  obtain ⟨q, hq⟩ : ∃ q, n / P = q := ⟨_, rfl⟩
  obtain ⟨r, hr⟩ : ∃ r, n % P = r := ⟨_, rfl⟩
  have hq2 : q ≤ n := by rw [← hq]; exact Nat.div_le_self _ _
  have hr2 : r < P := by rw [← hr]; exact Nat.mod_lt _ hP1
  obtain ⟨B, b1, b2, b3, b4⟩ := dec_one p r (by rw [hP]; exact hr2)
  rw [hP] at b1
  have HDD : Hid (∀ W, Calls Tryd.prog 20 #[.agg #[.int .i64 x, .int .i64 (p : Int)]] W fun e w' => e = .returned (.bool true) ∧ Bel W w') := fun W => proper_yes x p h0 h1 hp W
  have HPW : Hid (∀ W, Calls Tryd.prog 21 #[.int .i64 (p : Int)] W fun e w' => e = .returned (.int .i64 (P : Int)) ∧ W = w') := fun W => by have := power_any p hp W; rwa [hPi] at this
  obtain ⟨y1, hy1⟩ : ∃ y : ByteArray, (⟨(Lib.decDigits q).toArray⟩ : ByteArray) = y := ⟨_, rfl⟩
  obtain ⟨y2, hy2⟩ : ∃ y : ByteArray, (⟨(49 :: B).toArray⟩ : ByteArray) = y := ⟨_, rfl⟩
  have IQ : Hid (∀ W, Calls Tryd.prog 22 #[.int .i64 (q : Int)] W fun e w' => e = .returned (.string y1) ∧ Bel W w') := fun W => by rw [← hy1]; exact decimal_any q (by omega) W
  have IR : Hid (∀ W, Calls Tryd.prog 22 #[.int .i64 ((P : Int) + (r : Int))] W fun e w' => e = .returned (.string y2) ∧ Bel W w') := fun W => by
    have := decimal_any (P + r) (by omega) W
    rw [b1, hy2] at this
    exact this
  obtain ⟨z1, hz1⟩ : ∃ z, y1.size = z := ⟨_, rfl⟩
  have hz1b : z1 ≤ 20 := by
    rw [← hz1, ← hy1, Lib.size_eq]
    show (Lib.decDigits q).length ≤ 20
    rw [Lib.decDigits_length]
    have := nd_13 (n := q) (by omega)
    omega
  have hy2s : y2.size = p + 1 := by rw [← hy2, Lib.size_eq]; show (49 :: B).length = _; rw [List.length_cons, b2]
  obtain ⟨y3, hy3⟩ : ∃ y : ByteArray, y2.extract 1 (p + 1) = y := ⟨_, rfl⟩
  have hy3d : y3 = (⟨B.toArray⟩ : ByteArray) := by
    have e : y3.data.toList = B := by
      rw [← hy3, Lib.extract_data, ← hy2]
      show (List.drop 1 (49 :: B)).take (p + 1 - 1) = B
      rw [show p + 1 - 1 = p by omega, List.drop_one, List.tail_cons, List.take_of_length_le (by omega)]
    rw [← e]
    try exact (Lib.mk_data _).symm
  have hy3s : y3.size = p := by rw [hy3d, Lib.size_eq]; exact b2
  have HR : Hid (⟨#[45]⟩ ++ y1 ++ ⟨#[46]⟩ ++ y3 = (⟨(rt x p).toArray⟩ : ByteArray)) := by
    have e : rt x p = [45] ++ (Lib.decDigits q ++ 46 :: B) := by
      unfold rt rb
      rw [hn, if_pos hx, if_neg (by omega), hP, hq, hr, b1]; rfl
    rw [e, hy3d, ← hy1]
    exact ba_sum [45] (Lib.decDigits q) B
  have t1 : Int.tdiv (n : Int) (P : Int) = (q : Int) := by rw [Int.tdiv_eq_ediv_of_nonneg (by omega), ← hq]; rfl
  have t2 : Int.tmod (n : Int) (P : Int) = (r : Int) := by rw [Int.tmod_eq_emod_of_nonneg (by omega), ← hr]; rfl
  have t3 : ((n : Int) / (P : Int)) = (q : Int) := by rw [← hq]; rfl
  have t4 : ((n : Int) % (P : Int)) = (r : Int) := by rw [← hr]; rfl
  have t5 : n / P = q := hq
  have t6 : n % P = r := hr
  have p0 : ¬ (P : Int) = 0 := by omega
  have p1 : ¬ P = 0 := by omega
  have w1 : IntKind.i64.wrap ((P : Int) + (r : Int)) = (P : Int) + (r : Int) := IntWalk.i64_in _ (by omega)
  have w2 : IntKind.i64.wrap (q : Int) = (q : Int) := IntWalk.i64_in _ (by omega)
  have w3 : IntKind.i64.wrap (r : Int) = (r : Int) := IntWalk.i64_in _ (by omega)
  have g1 : (9223372036854775807 < 1 + z1) = False := eq_false (by omega)
  have g2 : (9223372036854775807 < 1 + z1 + 1) = False := eq_false (by omega)
  have g3 : (9223372036854775807 < 1 + z1 + 1 + p) = False := eq_false (by omega)
  have i1 : (1 : Int) ≤ (p : Int) + 1 := by omega
  have i2 : ((p : Int) == 0) = false := by simp; omega
  have i3 : ¬ (p : Int) = 0 := by omega
  have i4 : ¬ p = 0 := by omega
  have HPP := Lib.hid (And.intro hPi hP)
  clear hPi hP hPb hy1 hy2 hy3d b1 b2 b3 b4 hq hr hP1 hP2 hq2 hr2 hz1b
  obtain rfl : x = -(n : Int) := by omega
  have x0 : -(n : Int) < 0 := by omega
  clear hn
  go_enter Tryd.func6, Tryd.ntmps6
  go_wp2_with fail
  go_at_call 20
  refine (HDD.out _).mono ?_
  rintro e v1 ⟨rfl, hb⟩
  have HB : Hid (Bel w v1) := (Bel.rf.al _).tr hb
  have kB : Bk v1 w.heap.size 23 #[.int .i64 (-(n : Int)), .int .i64 (p : Int)] := (Bk.nw w _ _).bel hb
  have k0 : v1.cell? ⟨w.heap.size, 0, none⟩ = some (.int .i64 (-(n : Int))) := kB.cell 0
  have k1 : v1.cell? ⟨w.heap.size, 1, none⟩ = some (.int .i64 (p : Int)) := kB.cell 1
  have kl := kB.lt
  clear hb kB
  go_wp2_with fail
  go_quiet (fail)
  go_wp2_with fail
  go_at_call 21
  refine (HPW.out _).mono ?_
  rintro e v2 ⟨rfl, hw2⟩
  subst hw2
  have KS : Hid (∀ W', Bel v1 W' → ((fun w' => w'.cell? ⟨w.heap.size, 0, none⟩ = some (.int .i64 (-(n : Int)))) W')) := fun W' h => h.kp k0
  have HPP2 := Lib.hid (And.intro t1 t2)
  go_wp2_with fail
  go_region_held3 (fun w' => w'.cell? ⟨w.heap.size, 0, none⟩ = some (.int .i64 (-(n : Int))))
    (exact KS.out _ (by repeat (first | exact Bel.rf | (with_reducible refine Bel.drwN ?_ _) | (with_reducible refine Bel.drw ?_) | (with_reducible refine Bel.tr ?_ h2) | (with_reducible refine Bel.tr ?_ h1))))
    ((go_at_call 22; first
      | ((with_reducible refine (IQ.out _).mono ?_); rintro r s1 ⟨rfl, h1⟩)
      | ((with_reducible refine (IR.out _).mono ?_); rintro r s2 ⟨rfl, h2⟩)))
  go_wp2_with fail
  refine bodyPost_ret (v := .string (⟨#[45]⟩ ++ y1 ++ ⟨#[46]⟩ ++ y3)) (by simp [results, Tryd.results6, go_sem]) rfl ⟨by rw [HR.out], HB.out.tr ?_⟩
  repeat (first | exact Bel.rf | (with_reducible refine Bel.drwN ?_ _) | (with_reducible refine Bel.drw ?_) | (with_reducible refine Bel.tr ?_ h2) | (with_reducible refine Bel.tr ?_ h1))
theorem format_any (x : Int) (p : Nat) (h0 : -1000000000 ≤ x) (h1 : x ≤ 1000000000) (hp : p ≤ 6) (w : World) :
    Calls Tryd.prog 6 #[.agg #[.int .i64 x, .int .i64 (p : Int)]] w fun e w' => e = .returned (.string ⟨(rt x p).toArray⟩) ∧ Bel w w' := by
  rcases Nat.eq_zero_or_pos p with h | h
  · subst h
    rcases Int.lt_or_le x 0 with hx | hx
    · exact rf_0n x 0 h0 h1 hp rfl hx w
    · exact rf_0p x 0 h0 h1 hp rfl hx w
  · rcases Int.lt_or_le x 0 with hx | hx
    · exact rf_1n x p h0 h1 hp h hx w
    · exact rf_1p x p h0 h1 hp h hx w
end Go.Proofs.YtgclojonjglikaaDoor.Rd1
