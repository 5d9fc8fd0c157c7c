/- measure.name, measure.Check and Format of the measures that Parse tries. -/
import Derived.Test.YtabmpnmhjdbdmaaGreatDoorMsC
import Derived.Test.YtabmpnmhjdbdmaaGreatDoorMsS
import Derived.Lib.AppendIntMem
import Derived.Lib.ItoaLen
namespace Go.Proofs.YtabmpnmhjdbdmaaGreatDoor.Ms
open Go.ChangeShapes Go.WideShapes Go.RowKit Wo Sr Wi Ra Rr
set_option linter.unusedVariables false
/-- the name of a kind -/
def nm (k : Nat) : List UInt8 := if k = 1 then [101, 117, 99, 108, 105, 100] else if k = 2 then [115, 104, 105, 102, 116, 101, 100] else if k = 3 then [110, 111, 114, 109, 97, 108] else if k = 4 then [119, 97, 114, 112] else [101, 100, 105, 116]
/-- the measure that Parse tries -/
def bd (k : Nat) (n : Int) : Int := if k = 4 then n else 0
def gp (k : Nat) (n : Int) : Int := if k = 5 then n else 0
/-- it is valid -/
def okm (k : Nat) (n : Int) : Prop := k ≤ 3 ∨ (k = 4 ∧ 0 ≤ n ∧ n ≤ 32) ∨ (k = 5 ∧ -1000 ≤ n ∧ n ≤ 1000)
instance (k : Nat) (n : Int) : Decidable (okm k n) := by unfold okm; infer_instance
/-- its text -/
def fmt (k : Nat) (n : Int) : List UInt8 := if okm k n then (if k ≤ 3 then nm k else nm k ++ 32 :: Lib.itoa n) else []
theorem itoa_any (n : Int) (h0 : -9223372036854775808 ≤ n) (h1 : n ≤ 9223372036854775807) (W : World) (hW : Itab W) : Calls Tryz.prog 62 #[.int .i64 n] W fun e w' => e = .returned (.string ⟨(Lib.itoa n).toArray⟩) ∧ Bel W w' :=
  (Tryz.strconv_Itoa n h0 h1 W hW).mono fun e w' ⟨he, k, os, hh⟩ => ⟨he, by rw [hh]; exact Lib.below_grow _ W (Nat.le_refl _) k os⟩
set_option maxRecDepth 100000 in
theorem name_ok (k : Nat) (h1 : 1 ≤ k) (h5 : k ≤ 5) (w : World) : Calls Tryz.prog 44 #[.int .i64 (k : Int)] w fun e w' => e = .returned (.string ⟨(nm k).toArray⟩) ∧ w = w' := by
  rcases (by omega : k = 1 ∨ k = 2 ∨ k = 3 ∨ k = 4 ∨ k = 5) with rfl | rfl | rfl | rfl | rfl
  · go_enter Tryz.func44, Tryz.ntmps44
    go_wp2
    go_ret
    exact ⟨rfl, rfl⟩
  · go_enter Tryz.func44, Tryz.ntmps44
    go_wp2
    go_ret
    exact ⟨rfl, rfl⟩
  · go_enter Tryz.func44, Tryz.ntmps44
    go_wp2
    go_ret
    exact ⟨rfl, rfl⟩
  · go_enter Tryz.func44, Tryz.ntmps44
    go_wp2
    go_ret
    exact ⟨rfl, rfl⟩
  · go_enter Tryz.func44, Tryz.ntmps44
    go_wp2
    go_ret
    exact ⟨rfl, rfl⟩
theorem sample_no (n : Int) (h : n < -1000 ∨ 1000 < n) (w : World) : Calls Tryz.prog 28 #[.int .i64 n] w fun e w' => e = .returned (.bool false) ∧ w = w' := by
  rcases h with h | h
  · have h2 : ¬ -1000 ≤ n := by omega
    go_enter Tryz.func28, Tryz.ntmps28
    go_wp2
    go_ret
    exact ⟨rfl, rfl⟩
  · have h2 : ¬ n ≤ 1000 := by omega
    have h3 : -1000 ≤ n := by omega
    go_enter Tryz.func28, Tryz.ntmps28
    go_wp2
    go_ret
    exact ⟨rfl, rfl⟩
set_option maxHeartbeats 2000000 in
set_option maxRecDepth 100000 in
theorem check_no (k : Nat) (n : Int) (h5 : k ≤ 5) (h : ¬ okm k n) (w : World) : Calls Tryz.prog 16 #[.agg #[.int .i64 (k : Int), .int .i64 (bd k n), .int .i64 (gp k n)]] w fun e w' => e = .returned (.int .i64 9) ∧ Bel w w' := by
  unfold okm at h
  rcases (by omega : k = 4 ∨ k = 5) with rfl | rfl
  · have hn : n < 0 ∨ 32 < n := by omega
    show Calls _ _ #[.agg #[.int .i64 4, .int .i64 n, .int .i64 0]] _ _
    rcases hn with hn | hn
    · have h2 : ¬ 0 ≤ n := by omega
      go_enter Tryz.func16, Tryz.ntmps16
      go_wp2
      go_ret
      exact ⟨rfl, Bel.rf.al _⟩
    · have h2 : ¬ n ≤ 32 := by omega
      have h3 : 0 ≤ n := by omega
      go_enter Tryz.func16, Tryz.ntmps16
      go_wp2
      go_ret
      exact ⟨rfl, Bel.rf.al _⟩
  · have SO : Hid (∀ W, _) := fun W => sample_no n (by omega) W
    clear h
    show Calls _ _ #[.agg #[.int .i64 5, .int .i64 0, .int .i64 n]] _ _
    go_enter Tryz.func16, Tryz.ntmps16
    go_wp2_with (go_at_call 28; refine (SO.out _).mono ?_; rintro e w1 ⟨rfl, rfl⟩)
    go_ret
    exact ⟨rfl, Bel.rf.al _⟩
theorem mv_of (k : Nat) (n : Int) (h1 : 1 ≤ k) (h5 : k ≤ 5) (h : okm k n) : Mv (k : Int) (bd k n) (gp k n) := by
  unfold okm at h
  unfold Mv bd gp
  rcases (by omega : k = 1 ∨ k = 2 ∨ k = 3 ∨ k = 4 ∨ k = 5) with rfl | rfl | rfl | rfl | rfl <;> simp <;> omega
theorem itoa_sz (n : Int) (h0 : -9223372036854775808 ≤ n) (h1 : n ≤ 9223372036854775807) : (⟨(Lib.itoa n).toArray⟩ : ByteArray).size ≤ 21 := by
  show (Lib.itoa n).toArray.size ≤ 21
  rw [List.size_toArray]
  exact Lib.itoa_length_le n h0 h1
set_option maxHeartbeats 4000000 in
set_option maxRecDepth 100000 in
theorem format_ok (k : Nat) (n : Int) (h1 : 1 ≤ k) (h5 : k ≤ 5) (n0 : -9223372036854775808 ≤ n) (n1 : n ≤ 9223372036854775807) (w : World) (hw : Itab w) : Calls Tryz.prog 45 #[.agg #[.int .i64 (k : Int), .int .i64 (bd k n), .int .i64 (gp k n)]] w fun e w' => e = .returned (.string ⟨(fmt k n).toArray⟩) ∧ Bel w w' := by
  rcases Classical.em (okm k n) with hv | hv
  · have CK : Hid (∀ W, _) := fun W => check_ok (k : Int) (bd k n) (gp k n) (mv_of k n h1 h5 hv) W
    have NM : Hid (∀ W, _) := fun W => name_ok k h1 h5 W
    have HW := Lib.hid hw
    have HV := Lib.hid hv
    obtain ⟨x, hx⟩ : ∃ x : ByteArray, (⟨(Lib.itoa n).toArray⟩ : ByteArray) = x := ⟨_, rfl⟩
    have IN : Hid (∀ W, Itab W → Calls Tryz.prog 62 #[.int .i64 n] W fun e w' => e = .returned (.string x) ∧ Bel W w') := by
      rw [← hx]; exact Lib.hid (itoa_any n n0 n1)
    obtain ⟨kx, hkx⟩ : ∃ k, x.size = k := ⟨_, rfl⟩
    have kx1 : kx ≤ 21 := by rw [← hkx, ← hx]; exact itoa_sz n n0 n1
    have HX := Lib.hid hx
    clear hw hv hx n0 n1
    rcases (by omega : k = 1 ∨ k = 2 ∨ k = 3 ∨ k = 4 ∨ k = 5) with rfl | rfl | rfl | rfl | rfl
    · rw [show bd 1 n = 0 from rfl, show gp 1 n = 0 from rfl] at CK ⊢
      clear IN
      go_enter Tryz.func45, Tryz.ntmps45
      go_wp2_with fail
      go_at_call 16
      refine (CK.out _).mono ?_
      rintro e w1 ⟨rfl, hb⟩
      have HB0 := (Bk.nw w 26 #[.int .i64 1, .int .i64 0, .int .i64 0]).bel hb
      have k0 : w1.cell? ⟨w.heap.size, 0, none⟩ = some (.int .i64 1) := HB0.cell 0
      have HB : Hid (Bel w w1) := (Bel.rf.al _).tr hb
      clear hb HB0
      go_wp2_with fail
      go_at_call 44
      refine (NM.out _).mono ?_
      rintro e w2 ⟨rfl, rfl⟩
      go_wp2
      go_ret
      exact ⟨by rw [show fmt 1 n = nm 1 by unfold fmt; rw [if_pos HV.out, if_pos (by decide)]]; rfl, HB.out⟩
    · rw [show bd 2 n = 0 from rfl, show gp 2 n = 0 from rfl] at CK ⊢
      clear IN
      go_enter Tryz.func45, Tryz.ntmps45
      go_wp2_with fail
      go_at_call 16
      refine (CK.out _).mono ?_
      rintro e w1 ⟨rfl, hb⟩
      have HB0 := (Bk.nw w 26 #[.int .i64 2, .int .i64 0, .int .i64 0]).bel hb
      have k0 : w1.cell? ⟨w.heap.size, 0, none⟩ = some (.int .i64 2) := HB0.cell 0
      have HB : Hid (Bel w w1) := (Bel.rf.al _).tr hb
      clear hb HB0
      go_wp2_with fail
      go_at_call 44
      refine (NM.out _).mono ?_
      rintro e w2 ⟨rfl, rfl⟩
      go_wp2
      go_ret
      exact ⟨by rw [show fmt 2 n = nm 2 by unfold fmt; rw [if_pos HV.out, if_pos (by decide)]]; rfl, HB.out⟩
    · rw [show bd 3 n = 0 from rfl, show gp 3 n = 0 from rfl] at CK ⊢
      clear IN
      go_enter Tryz.func45, Tryz.ntmps45
      go_wp2_with fail
      go_at_call 16
      refine (CK.out _).mono ?_
      rintro e w1 ⟨rfl, hb⟩
      have HB0 := (Bk.nw w 26 #[.int .i64 3, .int .i64 0, .int .i64 0]).bel hb
      have k0 : w1.cell? ⟨w.heap.size, 0, none⟩ = some (.int .i64 3) := HB0.cell 0
      have HB : Hid (Bel w w1) := (Bel.rf.al _).tr hb
      clear hb HB0
      go_wp2_with fail
      go_at_call 44
      refine (NM.out _).mono ?_
      rintro e w2 ⟨rfl, rfl⟩
      go_wp2
      go_ret
      exact ⟨by rw [show fmt 3 n = nm 3 by unfold fmt; rw [if_pos HV.out, if_pos (by decide)]]; rfl, HB.out⟩
    · rw [show bd 4 n = n from rfl, show gp 4 n = 0 from rfl] at CK ⊢
      have nsz : (⟨(nm 4).toArray⟩ : ByteArray).size = 4 := rfl
      obtain ⟨y, hy⟩ : ∃ y : ByteArray, (⟨(nm 4).toArray⟩ : ByteArray) = y := ⟨_, rfl⟩
      rw [hy] at NM nsz
      have HY := Lib.hid hy
      have g1 : (9223372036854775807 < 4 + 1) = False := eq_false (by omega)
      have g2 : (9223372036854775807 < 4 + 1 + kx) = False := eq_false (by omega)
      clear hy
      go_enter Tryz.func45, Tryz.ntmps45
      go_wp2_with fail
      go_at_call 16
      refine (CK.out _).mono ?_
      rintro e w1 ⟨rfl, hb⟩
      have HB0 := (Bk.nw w 26 #[.int .i64 4, .int .i64 n, .int .i64 0]).bel hb
      have k0 : w1.cell? ⟨w.heap.size, 0, none⟩ = some (.int .i64 4) := HB0.cell 0
      have k1 : w1.cell? ⟨w.heap.size, 1, none⟩ = some (.int .i64 n) := HB0.cell 1
      have HB : Hid (Bel w w1) := (Bel.rf.al _).tr hb
      have HT : Hid (Itab w1) := HW.out.bel HB.out
      have KS : Hid (∀ W', Bel w1 W' → ((fun w' => w'.cell? ⟨w.heap.size, 0, none⟩ = some (.int .i64 4) ∧ w'.cell? ⟨w.heap.size, 1, none⟩ = some (.int .i64 n)) W')) := fun W' h => ⟨h.kp k0, h.kp k1⟩
      have IN2 : Hid (∀ W, Bel w1 W → Calls Tryz.prog 62 #[.int .i64 n] W fun e w' => e = .returned (.string x) ∧ Bel W w') := fun W h => IN.out W (HT.out.bel h)
      clear hb HB0
      go_wp2_with fail
      clear IN HT k0 k1
      go_region_held3 (fun w' => w'.cell? ⟨w.heap.size, 0, none⟩ = some (.int .i64 4) ∧ w'.cell? ⟨w.heap.size, 1, none⟩ = some (.int .i64 n))
        (exact KS.out _ (by repeat (first | with_reducible exact Bel.rf | (with_reducible refine Bel.drwN ?_ _) | (with_reducible refine Bel.drw ?_) | (refine Bel.tr ?_ (by assumption)))))
        (first
          | (go_at_call 44; refine (NM.out _).mono ?_; rintro r s1 ⟨rfl, rfl⟩)
          | (go_at_call 62; refine (IN2.out _ (by repeat (first | with_reducible exact Bel.rf | (with_reducible refine Bel.drwN ?_ _) | (with_reducible refine Bel.drw ?_) | refine Bel.tr ?_ (by assumption)))).mono ?_; rintro r s2 ⟨rfl, h2⟩))
      all_goals
        go_wp2
        go_ret
        refine ⟨?_, (HB.out.tr (by repeat (first | with_reducible exact Bel.rf | (with_reducible refine Bel.drwN ?_ _) | (with_reducible refine Bel.drw ?_) | refine Bel.tr ?_ (by assumption))))⟩
        have key : y ++ ⟨#[32]⟩ ++ x = ⟨(fmt 4 n).toArray⟩ := by
          rw [← HY.out, ← HX.out]
          refine ba_of _ _ ?_
          unfold fmt
          rw [if_pos HV.out, if_neg (by decide), ByteArray.data_append, Array.toList_append, ByteArray.data_append, Array.toList_append]
          simp
        exact congrArg (fun b => Ending.returned (.string b)) key
    · rw [show bd 5 n = 0 from rfl, show gp 5 n = n from rfl] at CK ⊢
      have nsz : (⟨(nm 5).toArray⟩ : ByteArray).size = 4 := rfl
      obtain ⟨y, hy⟩ : ∃ y : ByteArray, (⟨(nm 5).toArray⟩ : ByteArray) = y := ⟨_, rfl⟩
      rw [hy] at NM nsz
      have HY := Lib.hid hy
      have g1 : (9223372036854775807 < 4 + 1) = False := eq_false (by omega)
      have g2 : (9223372036854775807 < 4 + 1 + kx) = False := eq_false (by omega)
      clear hy
      go_enter Tryz.func45, Tryz.ntmps45
      go_wp2_with fail
      go_at_call 16
      refine (CK.out _).mono ?_
      rintro e w1 ⟨rfl, hb⟩
      have HB0 := (Bk.nw w 26 #[.int .i64 5, .int .i64 0, .int .i64 n]).bel hb
      have k0 : w1.cell? ⟨w.heap.size, 0, none⟩ = some (.int .i64 5) := HB0.cell 0
      have k1 : w1.cell? ⟨w.heap.size, 2, none⟩ = some (.int .i64 n) := HB0.cell 2
      have HB : Hid (Bel w w1) := (Bel.rf.al _).tr hb
      have HT : Hid (Itab w1) := HW.out.bel HB.out
      have KS : Hid (∀ W', Bel w1 W' → ((fun w' => w'.cell? ⟨w.heap.size, 0, none⟩ = some (.int .i64 5) ∧ w'.cell? ⟨w.heap.size, 2, none⟩ = some (.int .i64 n)) W')) := fun W' h => ⟨h.kp k0, h.kp k1⟩
      have IN2 : Hid (∀ W, Bel w1 W → Calls Tryz.prog 62 #[.int .i64 n] W fun e w' => e = .returned (.string x) ∧ Bel W w') := fun W h => IN.out W (HT.out.bel h)
      clear hb HB0
      go_wp2_with fail
      clear IN HT k0 k1
      go_region_held3 (fun w' => w'.cell? ⟨w.heap.size, 0, none⟩ = some (.int .i64 5) ∧ w'.cell? ⟨w.heap.size, 2, none⟩ = some (.int .i64 n))
        (exact KS.out _ (by repeat (first | with_reducible exact Bel.rf | (with_reducible refine Bel.drwN ?_ _) | (with_reducible refine Bel.drw ?_) | (refine Bel.tr ?_ (by assumption)))))
        (first
          | (go_at_call 44; refine (NM.out _).mono ?_; rintro r s1 ⟨rfl, rfl⟩)
          | (go_at_call 62; refine (IN2.out _ (by repeat (first | with_reducible exact Bel.rf | (with_reducible refine Bel.drwN ?_ _) | (with_reducible refine Bel.drw ?_) | refine Bel.tr ?_ (by assumption)))).mono ?_; rintro r s2 ⟨rfl, h2⟩))
      all_goals
        go_wp2
        go_ret
        refine ⟨?_, (HB.out.tr (by repeat (first | with_reducible exact Bel.rf | (with_reducible refine Bel.drwN ?_ _) | (with_reducible refine Bel.drw ?_) | refine Bel.tr ?_ (by assumption))))⟩
        have key : y ++ ⟨#[32]⟩ ++ x = ⟨(fmt 5 n).toArray⟩ := by
          rw [← HY.out, ← HX.out]
          refine ba_of _ _ ?_
          unfold fmt
          rw [if_pos HV.out, if_neg (by decide), ByteArray.data_append, Array.toList_append, ByteArray.data_append, Array.toList_append]
          simp
        exact congrArg (fun b => Ending.returned (.string b)) key
  · have CK : Hid (∀ W, _) := fun W => check_no k n h5 hv W
    have HF : Hid (fmt k n = []) := by unfold fmt; rw [if_neg hv]; exact Lib.hid rfl
    clear hw
    go_enter Tryz.func45, Tryz.ntmps45
    go_wp2_with fail
    go_at_call 16
    refine (CK.out _).mono ?_
    rintro e w1 ⟨rfl, hb⟩
    have HB : Hid (Bel w w1) := (Bel.rf.al _).tr hb
    clear hb
    go_wp2
    go_ret
    exact ⟨by rw [HF.out]; rfl, HB.out⟩
end Go.Proofs.YtabmpnmhjdbdmaaGreatDoor.Ms
