/- That the law SketchBounds returns true for every input that can be read, and leaves its arguments as they were; no further condition. -/
import Derived.Test.YtpbnabibnkohdaaRows
import Derived.WalkKit
import Derived.ProofKit
import Derived.OpenShut
import Derived.Test.YtpbnabibnkohdaaWords
import Derived.Test.YtpbnabibnkohdaaSrcNew0
import Derived.Test.YtpbnabibnkohdaaSkL
import Derived.ShutString
import Derived.ChangeOld
import Derived.Below
namespace Go.Proofs.Ytpbnabibnkohdaa.sketchBounds
open Go.ChangeShapes Go.WideShapes Go.ChangeAt Go.RowKit Wo
open Go.ChangeMaps (open_string shut_string)
set_option linter.unusedVariables false

theorem own : ownKnob Try.prog.godebug = none := by kernel_rfl
theorem laidOut : laidOutB Try.prog = true := by kernel_rfl

/-- WHAT THE WALK IS TOLD OF A SLICE OF INTEGERS THAT CAME IN: it is nil; or it leads to a row of 'cap' cells, the numbers 'zs' (the first 'len' are its elements, the rest its spare room), each fitting its kind. -/
def IsRow (k : IntKind) (w : World) (a : Option Addr) (len cap : Nat) (zs : List Int) : Prop :=
  (a = none ∧ len = 0 ∧ cap = 0 ∧ zs = []) ∨
  ∃ x, a = some x ∧ len ≤ cap ∧ cap ≤ maxLen ∧ zs.length = cap ∧ (∀ i, i < zs.length → w.cell? (x.add i) = some (.int k (zs.getD i 0))) ∧ ∀ n ∈ zs, (Lit.int k n).wf = true

open Go.Proofs.Ytpbnabibnkohdaa.Sk Go.Proofs.Ytpbnabibnkohdaa.Pc Go.Proofs.Ytpbnabibnkohdaa.Nr Go.Proofs.Ytpbnabibnkohdaa.Eu Go.Proofs.Ytpbnabibnkohdaa.Wi Go.Proofs.Ytpbnabibnkohdaa.Wo Go.Proofs.Ytpbnabibnkohdaa.Sr Go.Proofs.Ytpbnabibnkohdaa.Ra Go.Proofs.Ytpbnabibnkohdaa.Ch in
set_option maxHeartbeats 16000000 in
set_option maxRecDepth 100000 in
theorem walk (a0 : Option Addr) (len0 cap0 : Nat) (z0 : List Int) (w : World) (w0 : IsRow .i64 w a0 len0 cap0 z0) :
    Calls Try.prog 4 #[.slice a0 len0 cap0] w fun e w' => e = .returned (.bool true) ∧ Below w.heap.size w w' := by
  have AW : Hid (∀ W, Calls Try.prog 21 #[] W fun e w' => e = .returned (.bool true) ∧ Bel W w') := awake_any
  go_enter Try.func4, Try.ntmps4
  go_wp2_with fail
  go_at_call 12
  refine (new_any a0 len0 cap0 z0 w w0).mono ?_
  rintro e v1 ⟨g, rfl, hg, ho1, hb1⟩
  have HO1 := Lib.hid ho1
  have HB1 := Lib.hid hb1
  clear ho1 hb1 w0
  go_wp2_with fail
  go_at_call 22
  refine (pair_any g _ HO1.out).mono ?_
  rintro e v0 ⟨xa, xb, ya, yb, m, L, M, rfl, m2, m32, hxy, hox, hoy, lL, lM, sL, sM, ho2, hc2⟩
  have HO2 := Lib.hid ho2
  have HC2 := Lib.hid hc2
  have HOX := Lib.hid hox
  have HOY := Lib.hid hoy
  have hgv := HO1.out.lt
  have ni1 : 2 ≤ (m : Int) := by omega
  have ni2 : (m : Int) ≤ 32 := by omega
  obtain ⟨Z, hZ⟩ : ∃ Z : Nat, min 8 m = Z := ⟨_, rfl⟩
  have Z1 : 1 ≤ Z := by omega
  have Z8 : Z ≤ 8 := by omega
  have Zm : Z ≤ m := by omega
  have hz8 : (if (m : Int) < 8 then (m : Int) else 8) = (Z : Int) := by split <;> omega
  have cx := row_cap hox
  have cy := row_cap hoy
  have HLL := Lib.hid (And.intro lL (And.intro lM (And.intro sL (And.intro sM (And.intro cx cy)))))
  clear ho2 hc2 hox hoy lL lM sL sM hZ cx cy
  go_wp2_with fail
  go_at_call 13
  refine (range_any g 1 _ (by omega) (by omega) (by omega) _ HO2.out).mono ?_
  rintro e v2 ⟨x, rfl, hx0, hx1, ho3, hc3⟩
  obtain ⟨n, rfl⟩ := Int.eq_ofNat_of_zero_le (show 0 ≤ x by omega)
  have HBw : Hid (Bel w v2) := Bel.ch (Bel.ch HB1.out HC2.out hg) hc3 hg
  obtain ⟨lL, lM, sL, sM, cx, cy⟩ := HLL.out
  have zx := own_zi (own_ch HOX.out hc3 hgv) lL
  have zy := own_zi (own_ch HOY.out hc3 hgv) lM
  clear ho3 hc3 HOX HOY HO1 HO2 HC2 HB1 HLL hz8
  have n1 : 1 ≤ n := by omega
  have n8 : n ≤ 8 := by omega
  have nm : n ≤ m := by omega
  have OX : Hid (∀ W, Bel v2 W → Calls Try.prog 16 #[.slice (some ⟨xa, 0, none⟩) m xb, .int .i64 (n : Int)] W fun e w' => ∃ h c', e = .returned (.tuple #[.agg #[.int .i64 (m : Int), .slice (some ⟨h, 0, none⟩) n c', .int .i64 ((m : Int) * vr L)], .int .i64 0]) ∧ Skz w' h n m L ∧ Bel W w') := fun W hW => (Of_ok xa xb m n L m2 m32 n1 n8 nm cx sL W (zx.bel hW)).mono fun _ _ ⟨h, c', e, _, _, z, b⟩ => ⟨h, c', e, z, b⟩
  have OY : Hid (∀ W, Bel v2 W → Calls Try.prog 16 #[.slice (some ⟨ya, 0, none⟩) m yb, .int .i64 (n : Int)] W fun e w' => ∃ h c', e = .returned (.tuple #[.agg #[.int .i64 (m : Int), .slice (some ⟨h, 0, none⟩) n c', .int .i64 ((m : Int) * vr M)], .int .i64 0]) ∧ Skz w' h n m M ∧ Bel W w') := fun W hW => (Of_ok ya yb m n M m2 m32 n1 n8 nm cy sM W (zy.bel hW)).mono fun _ _ ⟨h, c', e, _, _, z, b⟩ => ⟨h, c', e, z, b⟩
  have UP : Hid (∀ h c h' c' W, Skz W h n m L → Skz W h' n m M → Calls Try.prog 17 #[.agg #[.int .i64 (m : Int), .slice (some ⟨h, 0, none⟩) n c, .int .i64 ((m : Int) * vr L)], .agg #[.int .i64 (m : Int), .slice (some ⟨h', 0, none⟩) n c', .int .i64 ((m : Int) * vr M)]] W fun e w' => e = .returned (.tuple #[.int .i64 (upv L M m n), .int .i64 0]) ∧ Bel W w') := fun h c h' c' W z1 z2 => Upper_ok h c h' c' m n L M m2 m32 n1 n8 nm sL sM lL lM W z1 z2
  have GP : Hid (∀ h c h' c' W, Skz W h n m L → Skz W h' n m M → Calls Try.prog 18 #[.agg #[.int .i64 (m : Int), .slice (some ⟨h, 0, none⟩) n c, .int .i64 ((m : Int) * vr L)], .agg #[.int .i64 (m : Int), .slice (some ⟨h', 0, none⟩) n c', .int .i64 ((m : Int) * vr M)]] W fun e w' => e = .returned (.tuple #[.agg #[.int .i64 (mN (vr L) (vr M) (upv L M m n)), .int .i64 (mD (vr L) (vr M) (upv L M m n))], .int .i64 0]) ∧ Bel W w') := fun h c h' c' W z1 z2 => Gap_ok h c h' c' m n L M m2 m32 n1 n8 nm sL sM lL lM W z1 z2
  have GQ : Hid (∀ h c h' c' W, Skz W h n m M → Skz W h' n m L → Calls Try.prog 18 #[.agg #[.int .i64 (m : Int), .slice (some ⟨h, 0, none⟩) n c, .int .i64 ((m : Int) * vr M)], .agg #[.int .i64 (m : Int), .slice (some ⟨h', 0, none⟩) n c', .int .i64 ((m : Int) * vr L)]] W fun e w' => e = .returned (.tuple #[.agg #[.int .i64 (mN (vr L) (vr M) (upv L M m n)), .int .i64 (mD (vr L) (vr M) (upv L M m n))], .int .i64 0]) ∧ Bel W w') := fun h c h' c' W z1 z2 => by
    rw [(m_swap (vr L) (vr M) (upv L M m n)).1, (m_swap (vr L) (vr M) (upv L M m n)).2, upv_comm L M m n]
    exact Gap_ok h c h' c' m n M L m2 m32 n1 n8 nm sM sL lM lL W z1 z2
  have PR : Hid (∀ W, Bel v2 W → Calls Try.prog 19 #[.slice (some ⟨xa, 0, none⟩) m xb, .slice (some ⟨ya, 0, none⟩) m yb] W fun e w' => e = .returned (.tuple #[.int .i64 (pr L M), .int .i64 0]) ∧ Bel W w') := fun W hW => rProd_ok (some ⟨xa, 0, none⟩) (some ⟨ya, 0, none⟩) xb yb m L M m2 m32 sL sM W (zx.bel hW) (zy.bel hW)
  have RG : Hid (∀ W, Bel v2 W → Calls Try.prog 20 #[.slice (some ⟨xa, 0, none⟩) m xb, .slice (some ⟨ya, 0, none⟩) m yb] W fun e w' => e = .returned (.tuple #[.agg #[.int .i64 (rN (vr L) (vr M) (pr L M)), .int .i64 (rD (vr L) (vr M) (pr L M))], .int .i64 0]) ∧ Bel W w') := fun W hW => rGap_ok (some ⟨xa, 0, none⟩) (some ⟨ya, 0, none⟩) xb yb m L M m2 m32 sL sM W (zx.bel hW) (zy.bel hW)
  have v := vr_le sL (by omega)
  have u := vr_le sM (by omega)
  have cs := pr_cs (X := L) (Y := M) (by omega)
  have ui := upv_in lL lM n1 nm n8 m2 m32 sL sM
  obtain ⟨C, hC⟩ : ∃ c, upv L M m n = c := ⟨_, rfl⟩
  obtain ⟨P, hP⟩ : ∃ c, pr L M = c := ⟨_, rfl⟩
  rw [hC] at UP GP GQ ui
  rw [hP] at PR RG ui cs
  obtain ⟨V, hV⟩ : ∃ c, vr L = c := ⟨_, rfl⟩
  obtain ⟨U, hU⟩ : ∃ c, vr M = c := ⟨_, rfl⟩
  rw [hV] at OX UP GP GQ RG v cs
  rw [hU] at OY UP GP GQ RG u cs
  obtain ⟨E1, hE1⟩ : ∃ c, (m : Int) * V = c := ⟨_, rfl⟩
  obtain ⟨E2, hE2⟩ : ∃ c, (m : Int) * U = c := ⟨_, rfl⟩
  rw [hE1] at OX UP GP GQ
  rw [hE2] at OY UP GP GQ
  have ml := m_vl C v.1 u.1 v.2 u.2
  have rl := r_vl (c := P) v.1 u.1 v.2 u.2 cs
  have gl := gM_le cs ui.1
  have gi := gM_in C v.1 u.1 v.2 u.2
  have CM : Hid (∀ W, _) := fun W => cmp_le gi.2.2.1 ml rl gl W
  have VT : Hid (∀ W, _) := fun W => rvalid_ok _ _ ml.1 W
  obtain ⟨t1, ht1⟩ : ∃ c, mN V U C = c := ⟨_, rfl⟩
  obtain ⟨t2, ht2⟩ : ∃ c, mD V U C = c := ⟨_, rfl⟩
  obtain ⟨r1, hr1⟩ : ∃ c, rN V U P = c := ⟨_, rfl⟩
  obtain ⟨r2, hr2⟩ : ∃ c, rD V U P = c := ⟨_, rfl⟩
  rw [ht1, ht2] at GP GQ VT CM
  rw [hr1, hr2] at RG CM
  have hCP : decide (P ≤ C) = true := decide_eq_true ui.1
  have q1 : (t1 == t1) = true := by simp
  have q2 : (t2 == t2) = true := by simp
  have q3 := ne_self t1
  have q4 := ne_self t2
  have HPC : Hid (P ≤ C) := ui.1
  clear zx zy lL lM sL sM cx cy v u cs ui ml rl gl gi hC hP hV hU hE1 hE2 ht1 ht2 hr1 hr2 hCP
  have HB : Hid (Bel v2 v2) := Bel.rf
  go_wp2_with fail
  go_at_call 16
  refine (OX.out _ HB.out).mono ?_
  rintro e v3 ⟨h1, k1, rfl, hz1, hb⟩
  have HBa : Hid (Bel v2 v3) := HB.out.tr hb
  replace HB : Hid (Bel v2 (v3.alloc (.cells #[.int .i64 (m : Int), .slice (some ⟨h1, 0, none⟩) n k1, .int .i64 E1] 29))) := HBa.out.al _
  have HKA : Hid (Bk (v3.alloc (.cells #[.int .i64 (m : Int), .slice (some ⟨h1, 0, none⟩) n k1, .int .i64 E1] 29)) v3.heap.size 29 #[.int .i64 (m : Int), .slice (some ⟨h1, 0, none⟩) n k1, .int .i64 E1]) := Bk.nw _ _ _
  clear hb HBa 
  have HZA : Hid (Skz (v3.alloc (.cells #[.int .i64 (m : Int), .slice (some ⟨h1, 0, none⟩) n k1, .int .i64 E1] 29)) h1 n m L) := hz1.bel (Bel.rf.al _)
  clear hz1
  go_wp2_with fail
  go_at_call 16
  refine (OY.out _ HB.out).mono ?_
  rintro e v4 ⟨h2, k2, rfl, hz2, hb⟩
  have HBa : Hid (Bel v2 v4) := HB.out.tr hb
  have KA : Bk v4 v3.heap.size 29 #[.int .i64 (m : Int), .slice (some ⟨h1, 0, none⟩) n k1, .int .i64 E1] := HKA.out.bel hb
  have cA0 : v4.cell? ⟨v3.heap.size, 0, none⟩ = some (.int .i64 (m : Int)) := KA.cell 0
  have cA1 : v4.cell? ⟨v3.heap.size, 1, none⟩ = some (.slice (some ⟨h1, 0, none⟩) n k1) := KA.cell 1
  have cA2 : v4.cell? ⟨v3.heap.size, 2, none⟩ = some (.int .i64 E1) := KA.cell 2
  have lA := KA.lt
  replace HB : Hid (Bel v2 (v4.alloc (.cells #[.int .i64 (m : Int), .slice (some ⟨h2, 0, none⟩) n k2, .int .i64 E2] 29))) := HBa.out.al _
  replace HKA : Hid (Bk (v4.alloc (.cells #[.int .i64 (m : Int), .slice (some ⟨h2, 0, none⟩) n k2, .int .i64 E2] 29)) v3.heap.size 29 #[.int .i64 (m : Int), .slice (some ⟨h1, 0, none⟩) n k1, .int .i64 E1]) := KA.al _
  have HKB : Hid (Bk (v4.alloc (.cells #[.int .i64 (m : Int), .slice (some ⟨h2, 0, none⟩) n k2, .int .i64 E2] 29)) v4.heap.size 29 #[.int .i64 (m : Int), .slice (some ⟨h2, 0, none⟩) n k2, .int .i64 E2]) := Bk.nw _ _ _
  replace HZA : Hid (Skz (v4.alloc (.cells #[.int .i64 (m : Int), .slice (some ⟨h2, 0, none⟩) n k2, .int .i64 E2] 29)) h1 n m L) := (HZA.out.bel hb).bel (Bel.rf.al _)
  clear hb HBa KA
  have HZB : Hid (Skz (v4.alloc (.cells #[.int .i64 (m : Int), .slice (some ⟨h2, 0, none⟩) n k2, .int .i64 E2] 29)) h2 n m M) := hz2.bel (Bel.rf.al _)
  clear hz2
  go_wp2_with fail
  go_at_call 17
  refine (UP.out h1 k1 h2 k2 _ HZA.out HZB.out).mono ?_
  rintro e v5 ⟨rfl, hb⟩
  have HBa : Hid (Bel v2 v5) := HB.out.tr hb
  have KA : Bk v5 v3.heap.size 29 #[.int .i64 (m : Int), .slice (some ⟨h1, 0, none⟩) n k1, .int .i64 E1] := HKA.out.bel hb
  have cA0 : v5.cell? ⟨v3.heap.size, 0, none⟩ = some (.int .i64 (m : Int)) := KA.cell 0
  have cA1 : v5.cell? ⟨v3.heap.size, 1, none⟩ = some (.slice (some ⟨h1, 0, none⟩) n k1) := KA.cell 1
  have cA2 : v5.cell? ⟨v3.heap.size, 2, none⟩ = some (.int .i64 E1) := KA.cell 2
  have lA := KA.lt
  have KB : Bk v5 v4.heap.size 29 #[.int .i64 (m : Int), .slice (some ⟨h2, 0, none⟩) n k2, .int .i64 E2] := HKB.out.bel hb
  have cB0 : v5.cell? ⟨v4.heap.size, 0, none⟩ = some (.int .i64 (m : Int)) := KB.cell 0
  have cB1 : v5.cell? ⟨v4.heap.size, 1, none⟩ = some (.slice (some ⟨h2, 0, none⟩) n k2) := KB.cell 1
  have cB2 : v5.cell? ⟨v4.heap.size, 2, none⟩ = some (.int .i64 E2) := KB.cell 2
  have lB := KB.lt
  replace HB : Hid (Bel v2 v5) := HBa.out
  replace HKA : Hid (Bk v5 v3.heap.size 29 #[.int .i64 (m : Int), .slice (some ⟨h1, 0, none⟩) n k1, .int .i64 E1]) := KA
  replace HKB : Hid (Bk v5 v4.heap.size 29 #[.int .i64 (m : Int), .slice (some ⟨h2, 0, none⟩) n k2, .int .i64 E2]) := KB
  replace HZA : Hid (Skz v5 h1 n m L) := HZA.out.bel hb
  replace HZB : Hid (Skz v5 h2 n m M) := HZB.out.bel hb
  clear hb HBa KA KB
  go_wp2_with fail
  go_at_call 18
  refine (GP.out h1 k1 h2 k2 _ HZA.out HZB.out).mono ?_
  rintro e v6 ⟨rfl, hb⟩
  have HBa : Hid (Bel v2 v6) := HB.out.tr hb
  have KA : Bk v6 v3.heap.size 29 #[.int .i64 (m : Int), .slice (some ⟨h1, 0, none⟩) n k1, .int .i64 E1] := HKA.out.bel hb
  have cA0 : v6.cell? ⟨v3.heap.size, 0, none⟩ = some (.int .i64 (m : Int)) := KA.cell 0
  have cA1 : v6.cell? ⟨v3.heap.size, 1, none⟩ = some (.slice (some ⟨h1, 0, none⟩) n k1) := KA.cell 1
  have cA2 : v6.cell? ⟨v3.heap.size, 2, none⟩ = some (.int .i64 E1) := KA.cell 2
  have lA := KA.lt
  have KB : Bk v6 v4.heap.size 29 #[.int .i64 (m : Int), .slice (some ⟨h2, 0, none⟩) n k2, .int .i64 E2] := HKB.out.bel hb
  have cB0 : v6.cell? ⟨v4.heap.size, 0, none⟩ = some (.int .i64 (m : Int)) := KB.cell 0
  have cB1 : v6.cell? ⟨v4.heap.size, 1, none⟩ = some (.slice (some ⟨h2, 0, none⟩) n k2) := KB.cell 1
  have cB2 : v6.cell? ⟨v4.heap.size, 2, none⟩ = some (.int .i64 E2) := KB.cell 2
  have lB := KB.lt
  replace HB : Hid (Bel v2 (v6.alloc (.cells #[.int .i64 t1, .int .i64 t2] 36))) := HBa.out.al _
  replace HKA : Hid (Bk (v6.alloc (.cells #[.int .i64 t1, .int .i64 t2] 36)) v3.heap.size 29 #[.int .i64 (m : Int), .slice (some ⟨h1, 0, none⟩) n k1, .int .i64 E1]) := KA.al _
  replace HKB : Hid (Bk (v6.alloc (.cells #[.int .i64 t1, .int .i64 t2] 36)) v4.heap.size 29 #[.int .i64 (m : Int), .slice (some ⟨h2, 0, none⟩) n k2, .int .i64 E2]) := KB.al _
  have HKR : Hid (Bk (v6.alloc (.cells #[.int .i64 t1, .int .i64 t2] 36)) v6.heap.size 36 #[.int .i64 t1, .int .i64 t2]) := Bk.nw _ _ _
  replace HZA : Hid (Skz (v6.alloc (.cells #[.int .i64 t1, .int .i64 t2] 36)) h1 n m L) := (HZA.out.bel hb).bel (Bel.rf.al _)
  replace HZB : Hid (Skz (v6.alloc (.cells #[.int .i64 t1, .int .i64 t2] 36)) h2 n m M) := (HZB.out.bel hb).bel (Bel.rf.al _)
  clear hb HBa KA KB
  go_wp2_with fail
  go_at_call 18
  refine (GQ.out h2 k2 h1 k1 _ HZB.out HZA.out).mono ?_
  rintro e v7 ⟨rfl, hb⟩
  have HBa : Hid (Bel v2 v7) := HB.out.tr hb
  have KA : Bk v7 v3.heap.size 29 #[.int .i64 (m : Int), .slice (some ⟨h1, 0, none⟩) n k1, .int .i64 E1] := HKA.out.bel hb
  have cA0 : v7.cell? ⟨v3.heap.size, 0, none⟩ = some (.int .i64 (m : Int)) := KA.cell 0
  have cA1 : v7.cell? ⟨v3.heap.size, 1, none⟩ = some (.slice (some ⟨h1, 0, none⟩) n k1) := KA.cell 1
  have cA2 : v7.cell? ⟨v3.heap.size, 2, none⟩ = some (.int .i64 E1) := KA.cell 2
  have lA := KA.lt
  have KB : Bk v7 v4.heap.size 29 #[.int .i64 (m : Int), .slice (some ⟨h2, 0, none⟩) n k2, .int .i64 E2] := HKB.out.bel hb
  have cB0 : v7.cell? ⟨v4.heap.size, 0, none⟩ = some (.int .i64 (m : Int)) := KB.cell 0
  have cB1 : v7.cell? ⟨v4.heap.size, 1, none⟩ = some (.slice (some ⟨h2, 0, none⟩) n k2) := KB.cell 1
  have cB2 : v7.cell? ⟨v4.heap.size, 2, none⟩ = some (.int .i64 E2) := KB.cell 2
  have lB := KB.lt
  have KR : Bk v7 v6.heap.size 36 #[.int .i64 t1, .int .i64 t2] := HKR.out.bel hb
  have cR0 : v7.cell? ⟨v6.heap.size, 0, none⟩ = some (.int .i64 t1) := KR.cell 0
  have cR1 : v7.cell? ⟨v6.heap.size, 1, none⟩ = some (.int .i64 t2) := KR.cell 1
  have lR := KR.lt
  replace HB : Hid (Bel v2 (v7.alloc (.cells #[.int .i64 t1, .int .i64 t2] 36))) := HBa.out.al _
  replace HKA : Hid (Bk (v7.alloc (.cells #[.int .i64 t1, .int .i64 t2] 36)) v3.heap.size 29 #[.int .i64 (m : Int), .slice (some ⟨h1, 0, none⟩) n k1, .int .i64 E1]) := KA.al _
  replace HKB : Hid (Bk (v7.alloc (.cells #[.int .i64 t1, .int .i64 t2] 36)) v4.heap.size 29 #[.int .i64 (m : Int), .slice (some ⟨h2, 0, none⟩) n k2, .int .i64 E2]) := KB.al _
  replace HKR : Hid (Bk (v7.alloc (.cells #[.int .i64 t1, .int .i64 t2] 36)) v6.heap.size 36 #[.int .i64 t1, .int .i64 t2]) := KR.al _
  have HKS : Hid (Bk (v7.alloc (.cells #[.int .i64 t1, .int .i64 t2] 36)) v7.heap.size 36 #[.int .i64 t1, .int .i64 t2]) := Bk.nw _ _ _
  replace HZA : Hid (Skz (v7.alloc (.cells #[.int .i64 t1, .int .i64 t2] 36)) h1 n m L) := (HZA.out.bel hb).bel (Bel.rf.al _)
  replace HZB : Hid (Skz (v7.alloc (.cells #[.int .i64 t1, .int .i64 t2] 36)) h2 n m M) := (HZB.out.bel hb).bel (Bel.rf.al _)
  clear hb HBa KA KB KR
  go_wp2_with fail
  go_at_call 19
  refine (PR.out _ HB.out).mono ?_
  rintro e v8 ⟨rfl, hb⟩
  have HBa : Hid (Bel v2 v8) := HB.out.tr hb
  have KA : Bk v8 v3.heap.size 29 #[.int .i64 (m : Int), .slice (some ⟨h1, 0, none⟩) n k1, .int .i64 E1] := HKA.out.bel hb
  have cA0 : v8.cell? ⟨v3.heap.size, 0, none⟩ = some (.int .i64 (m : Int)) := KA.cell 0
  have cA1 : v8.cell? ⟨v3.heap.size, 1, none⟩ = some (.slice (some ⟨h1, 0, none⟩) n k1) := KA.cell 1
  have cA2 : v8.cell? ⟨v3.heap.size, 2, none⟩ = some (.int .i64 E1) := KA.cell 2
  have lA := KA.lt
  have KB : Bk v8 v4.heap.size 29 #[.int .i64 (m : Int), .slice (some ⟨h2, 0, none⟩) n k2, .int .i64 E2] := HKB.out.bel hb
  have cB0 : v8.cell? ⟨v4.heap.size, 0, none⟩ = some (.int .i64 (m : Int)) := KB.cell 0
  have cB1 : v8.cell? ⟨v4.heap.size, 1, none⟩ = some (.slice (some ⟨h2, 0, none⟩) n k2) := KB.cell 1
  have cB2 : v8.cell? ⟨v4.heap.size, 2, none⟩ = some (.int .i64 E2) := KB.cell 2
  have lB := KB.lt
  have KR : Bk v8 v6.heap.size 36 #[.int .i64 t1, .int .i64 t2] := HKR.out.bel hb
  have cR0 : v8.cell? ⟨v6.heap.size, 0, none⟩ = some (.int .i64 t1) := KR.cell 0
  have cR1 : v8.cell? ⟨v6.heap.size, 1, none⟩ = some (.int .i64 t2) := KR.cell 1
  have lR := KR.lt
  have KS : Bk v8 v7.heap.size 36 #[.int .i64 t1, .int .i64 t2] := HKS.out.bel hb
  have cS0 : v8.cell? ⟨v7.heap.size, 0, none⟩ = some (.int .i64 t1) := KS.cell 0
  have cS1 : v8.cell? ⟨v7.heap.size, 1, none⟩ = some (.int .i64 t2) := KS.cell 1
  have lS := KS.lt
  replace HB : Hid (Bel v2 v8) := HBa.out
  replace HKA : Hid (Bk v8 v3.heap.size 29 #[.int .i64 (m : Int), .slice (some ⟨h1, 0, none⟩) n k1, .int .i64 E1]) := KA
  replace HKB : Hid (Bk v8 v4.heap.size 29 #[.int .i64 (m : Int), .slice (some ⟨h2, 0, none⟩) n k2, .int .i64 E2]) := KB
  replace HKR : Hid (Bk v8 v6.heap.size 36 #[.int .i64 t1, .int .i64 t2]) := KR
  replace HKS : Hid (Bk v8 v7.heap.size 36 #[.int .i64 t1, .int .i64 t2]) := KS
  replace HZA : Hid (Skz v8 h1 n m L) := HZA.out.bel hb
  replace HZB : Hid (Skz v8 h2 n m M) := HZB.out.bel hb
  clear hb HBa KA KB KR KS
  go_wp2_with fail
  go_at_call 20
  refine (RG.out _ HB.out).mono ?_
  rintro e v9 ⟨rfl, hb⟩
  have HBa : Hid (Bel v2 v9) := HB.out.tr hb
  have KA : Bk v9 v3.heap.size 29 #[.int .i64 (m : Int), .slice (some ⟨h1, 0, none⟩) n k1, .int .i64 E1] := HKA.out.bel hb
  have cA0 : v9.cell? ⟨v3.heap.size, 0, none⟩ = some (.int .i64 (m : Int)) := KA.cell 0
  have cA1 : v9.cell? ⟨v3.heap.size, 1, none⟩ = some (.slice (some ⟨h1, 0, none⟩) n k1) := KA.cell 1
  have cA2 : v9.cell? ⟨v3.heap.size, 2, none⟩ = some (.int .i64 E1) := KA.cell 2
  have lA := KA.lt
  have KB : Bk v9 v4.heap.size 29 #[.int .i64 (m : Int), .slice (some ⟨h2, 0, none⟩) n k2, .int .i64 E2] := HKB.out.bel hb
  have cB0 : v9.cell? ⟨v4.heap.size, 0, none⟩ = some (.int .i64 (m : Int)) := KB.cell 0
  have cB1 : v9.cell? ⟨v4.heap.size, 1, none⟩ = some (.slice (some ⟨h2, 0, none⟩) n k2) := KB.cell 1
  have cB2 : v9.cell? ⟨v4.heap.size, 2, none⟩ = some (.int .i64 E2) := KB.cell 2
  have lB := KB.lt
  have KR : Bk v9 v6.heap.size 36 #[.int .i64 t1, .int .i64 t2] := HKR.out.bel hb
  have cR0 : v9.cell? ⟨v6.heap.size, 0, none⟩ = some (.int .i64 t1) := KR.cell 0
  have cR1 : v9.cell? ⟨v6.heap.size, 1, none⟩ = some (.int .i64 t2) := KR.cell 1
  have lR := KR.lt
  have KS : Bk v9 v7.heap.size 36 #[.int .i64 t1, .int .i64 t2] := HKS.out.bel hb
  have cS0 : v9.cell? ⟨v7.heap.size, 0, none⟩ = some (.int .i64 t1) := KS.cell 0
  have cS1 : v9.cell? ⟨v7.heap.size, 1, none⟩ = some (.int .i64 t2) := KS.cell 1
  have lS := KS.lt
  replace HB : Hid (Bel v2 (v9.alloc (.cells #[.int .i64 r1, .int .i64 r2] 36))) := HBa.out.al _
  replace HKA : Hid (Bk (v9.alloc (.cells #[.int .i64 r1, .int .i64 r2] 36)) v3.heap.size 29 #[.int .i64 (m : Int), .slice (some ⟨h1, 0, none⟩) n k1, .int .i64 E1]) := KA.al _
  replace HKB : Hid (Bk (v9.alloc (.cells #[.int .i64 r1, .int .i64 r2] 36)) v4.heap.size 29 #[.int .i64 (m : Int), .slice (some ⟨h2, 0, none⟩) n k2, .int .i64 E2]) := KB.al _
  replace HKR : Hid (Bk (v9.alloc (.cells #[.int .i64 r1, .int .i64 r2] 36)) v6.heap.size 36 #[.int .i64 t1, .int .i64 t2]) := KR.al _
  replace HKS : Hid (Bk (v9.alloc (.cells #[.int .i64 r1, .int .i64 r2] 36)) v7.heap.size 36 #[.int .i64 t1, .int .i64 t2]) := KS.al _
  have HKT : Hid (Bk (v9.alloc (.cells #[.int .i64 r1, .int .i64 r2] 36)) v9.heap.size 36 #[.int .i64 r1, .int .i64 r2]) := Bk.nw _ _ _
  replace HZA : Hid (Skz (v9.alloc (.cells #[.int .i64 r1, .int .i64 r2] 36)) h1 n m L) := (HZA.out.bel hb).bel (Bel.rf.al _)
  replace HZB : Hid (Skz (v9.alloc (.cells #[.int .i64 r1, .int .i64 r2] 36)) h2 n m M) := (HZB.out.bel hb).bel (Bel.rf.al _)
  clear hb HBa KA KB KR KS
  have hCP : decide (P ≤ C) = true := decide_eq_true HPC.out
  go_wp2_with fail
  go_at_call 23
  refine (VT.out _).mono ?_
  rintro e v10 ⟨rfl, hb⟩
  have KR := HKR.out.bel hb
  have KT := HKT.out.bel hb
  have HB10 : Hid (Bel v2 v10) := HB.out.tr hb
  have x0 : v10.cell? ⟨v6.heap.size, 0, none⟩ = some (.int .i64 t1) := KR.cell 0
  have x1 : v10.cell? ⟨v6.heap.size, 1, none⟩ = some (.int .i64 t2) := KR.cell 1
  have y0 : v10.cell? ⟨v9.heap.size, 0, none⟩ = some (.int .i64 r1) := KT.cell 0
  have y1 : v10.cell? ⟨v9.heap.size, 1, none⟩ = some (.int .i64 r2) := KT.cell 1
  have lx := KR.lt
  have ly := KT.lt
  clear hb KR KT
  go_wp2_with fail
  go_at_call 24
  refine (CM.out _).mono ?_
  rintro e v11 ⟨k, rfl, hk, hb⟩
  have HB11 : Hid (Bel v2 v11) := HB10.out.tr hb
  have dk : decide (k ≤ 0) = true := decide_eq_true hk
  clear hb
  go_wp2_with (go_at_call 21; refine (AW.out _).mono ?_; rintro e v12 ⟨rfl, h12⟩)
  go_ret
  exact ⟨rfl, (HBw.out.tr (HB11.out.tr h12)).bl⟩

set_option maxRecDepth 100000 in
theorem lifted (os : Os) (started : os.Started) (H : Type) (enc : TypeId × Value → H) :
    ReturnsInHanded {} Try.checked os 4 .any (Rows.sketchBoundsSpec.pre6 enc Try.prog Try.f4 Rows.sketchBoundsRow.domain false) (Rows.sketchBoundsSpec.post enc Try.prog Try.f4 false true false false) := by
  refine returnsInHanded_of_change (C := Try.checked) own started (by kernel_rfl) Try.func4
    (ChangeSpec.witness6 (enc := enc) (C := Try.checked) false ⟨#[], #[.slice none 0 0], []⟩ 8 (by kernel_rfl) (by kernel_rfl) (by kernel_rfl) (by kernel_rfl)) ?_
  intro W base args ds gs before hval0 hW hcnd _
  have hval : ∀ (j : Nat) t v, Try.f4.params[j]? = some t → args[j]? = some v → Value.okWide Try.prog W .any base t v := hval0
  have hW' := hW
  obtain ⟨p, q, hA0, hV, rfl, hfz, hnd⟩ := hW
  have hA : DataW.TrodAll enc Try.prog W 0 (fun _ => true) true Try.f4.params.toList args.toList ds p := hA0
  rw [Try.params4] at hA hval
  obtain ⟨v0, vs0, d0, ds0, p0, q0, hargs, rfl, rfl, h0, r0⟩ := trodAll_cons hA
  obtain ⟨rfl, rfl, rfl⟩ := trodAll_nil r0
  obtain rfl : args = #[v0] := by cases args; simp_all
  obtain ⟨rfl, rfl⟩ := trodVars_none hV
  obtain ⟨a0, len0, cap0, rfl⟩ := okWide_slice Try.underlying22 (hval 0 22 v0 rfl rfl)
  have k0 := h0
  have lt0 : ∀ x ∈ p0, x.block < W.heap.size := by obtain ⟨m, hm⟩ := k0; exact DataW.trod_lt m _ _ _ hm
  obtain ⟨z0, w0⟩ : ∃ zs, IsRow .i64 W a0 len0 cap0 zs := by
    obtain ⟨fuel, hf⟩ := h0
    rcases open_ints Try.underlying22 Try.underlying3 (by kernel_rfl) hf with ⟨hcs, _⟩ | ⟨x, l, c, zs, hcs, _, hl, hm, hz, _, hcell, hwz⟩
    · simp [Value.cells] at hcs
      obtain ⟨rfl, rfl, rfl⟩ := hcs
      exact ⟨[], .inl ⟨rfl, rfl, rfl, rfl⟩⟩
    · simp [Value.cells] at hcs
      obtain ⟨rfl, rfl, rfl⟩ := hcs
      exact ⟨zs, .inr ⟨_, rfl, hl, hm, by simpa using hz, hcell, hwz⟩⟩
  clear hA0 hval0
  refine (walk a0 len0 cap0 z0 W w0).mono fun e W' ⟨he, bel⟩ => ?_
  subst he
  exact ⟨_, rfl, _, _, _, [], _, [], hW', trodAll_mk1 (shut_bool Try.underlying4 _), (trodAll_cons_mk (Below.trod laidOut (by kernel_rfl) (of_decide_eq_true (by kernel_rfl)) k0 bel lt0) trodAll_mk0), rfl, bel.frame _, fun h => by cases h⟩

theorem over : Rows.sketchBoundsRow.holds Try.pinned (OpenSpec.ofChange Rows.sketchBoundsSpec) :=
  OpenClaim.holds_of_wide 4 Try.f4 rfl rfl rfl rfl rfl rfl rfl ⟨rfl, rfl, rfl, rfl, rfl⟩ rfl rfl rfl rfl rfl (by kernel_rfl) Try.func4 (by kernel_rfl)
    (of_decide_eq_true (by kernel_rfl)) (by unfold Func.isWrapper; first | (rw [if_pos (by decide +kernel)]; kernel_rfl) | (rw [if_neg (by decide +kernel)]; exact ⟨rfl, rfl⟩))
    (fun os started H enc _ => lifted os started H enc)

theorem proved : Rows.SketchBoundsSaid := over
end Go.Proofs.Ytpbnabibnkohdaa.sketchBounds
