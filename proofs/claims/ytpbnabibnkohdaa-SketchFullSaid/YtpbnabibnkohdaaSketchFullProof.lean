/- That the law SketchFull returns true for every input that can be read, and leaves its arguments as they were; no further condition. -/
import Derived.Test.YtpbnabibnkohdaaRows
import Derived.WalkKit
import Derived.ProofKit
import Derived.OpenShut
import Derived.Test.YtpbnabibnkohdaaWords
import Derived.Test.YtpbnabibnkohdaaSrcNew0
import Derived.Test.YtpbnabibnkohdaaSkL
import Derived.ShutString
import Derived.ChangeOld
import Derived.Below
namespace Go.Proofs.Ytpbnabibnkohdaa.sketchFull
open Go.ChangeShapes Go.WideShapes Go.ChangeAt Go.RowKit Wo
open Go.ChangeMaps (open_string shut_string)
set_option linter.unusedVariables false

theorem own : ownKnob Try.prog.godebug = none := by kernel_rfl
theorem laidOut : laidOutB Try.prog = true := by kernel_rfl

/-- WHAT THE WALK IS TOLD OF A SLICE OF INTEGERS THAT CAME IN: it is nil; or it leads to a row of 'cap' cells, the numbers 'zs' (the first 'len' are its elements, the rest its spare room), each fitting its kind. -/
def IsRow (k : IntKind) (w : World) (a : Option Addr) (len cap : Nat) (zs : List Int) : Prop :=
  (a = none ∧ len = 0 ∧ cap = 0 ∧ zs = []) ∨
  ∃ x, a = some x ∧ len ≤ cap ∧ cap ≤ maxLen ∧ zs.length = cap ∧ (∀ i, i < zs.length → w.cell? (x.add i) = some (.int k (zs.getD i 0))) ∧ ∀ n ∈ zs, (Lit.int k n).wf = true

open Go.Proofs.Ytpbnabibnkohdaa.Sk Go.Proofs.Ytpbnabibnkohdaa.Pc Go.Proofs.Ytpbnabibnkohdaa.Nr Go.Proofs.Ytpbnabibnkohdaa.Eu Go.Proofs.Ytpbnabibnkohdaa.Wi Go.Proofs.Ytpbnabibnkohdaa.Wo Go.Proofs.Ytpbnabibnkohdaa.Sr Go.Proofs.Ytpbnabibnkohdaa.Ra Go.Proofs.Ytpbnabibnkohdaa.Ch in
set_option maxHeartbeats 16000000 in
set_option maxRecDepth 100000 in
theorem walk (a0 : Option Addr) (len0 cap0 : Nat) (z0 : List Int) (w : World) (w0 : IsRow .i64 w a0 len0 cap0 z0) :
    Calls Try.prog 3 #[.slice a0 len0 cap0] w fun e w' => e = .returned (.bool true) ∧ Below w.heap.size w w' := by
  have AW : Hid (∀ W, Calls Try.prog 21 #[] W fun e w' => e = .returned (.bool true) ∧ Bel W w') := awake_any
  go_enter Try.func3, Try.ntmps3
  go_wp2_with fail
  go_at_call 12
  refine (new_any a0 len0 cap0 z0 w w0).mono ?_
  rintro e v1 ⟨g, rfl, hg, ho1, hb1⟩
  have HO1 := Lib.hid ho1
  have HB1 := Lib.hid hb1
  clear ho1 hb1 w0
  go_wp2_with fail
  go_at_call 13
  refine (range_any g 2 8 (by decide) (by decide) (by decide) _ HO1.out).mono ?_
  rintro e u1 ⟨x, rfl, hx0, hx1, ho, hc⟩
  obtain ⟨m, rfl⟩ := Int.eq_ofNat_of_zero_le (show 0 ≤ x by omega)
  have HBu1 : Hid (Bel w u1) := Bel.ch HB1.out hc hg
  have HOu1 := Lib.hid ho
  clear ho hc
  have m2 : 2 ≤ m := by omega
  have n8 : m ≤ 8 := by omega
  go_wp2_with fail
  go_at_call 14
  refine (list_any g m (by omega) _ HOu1.out).mono ?_
  rintro e u2 ⟨vx, L, rfl, hox, lL, sL, ho, hc⟩
  obtain ⟨xa, xb, rfl, cx, hxg⟩ := row_form (L := L) hox (by omega)
  have HBu2 : Hid (Bel w u2) := Bel.ch HBu1.out hc hg
  have HOu2 := Lib.hid ho
  have gl := HOu1.out.lt
  have HOX := Lib.hid hox
  have HLL := Lib.hid (And.intro lL (And.intro sL cx))
  have hxne : xa ≠ g := by omega
  clear ho hc hox lL sL cx
  go_wp2_with fail
  go_at_call 15
  refine (near_any g (some ⟨xa, 0, none⟩) xb m L (by omega) (by omega) HLL.out.2.1 _ HOu2.out (own_zi HOX.out HLL.out.1) (fun ad e => by cases e; exact hxne)).mono ?_
  rintro e v2 ⟨vy, M, rfl, hoy, lM, sM, ho, hc⟩
  obtain ⟨ya, yb, rfl, cy, hyg⟩ := row_form (L := M) hoy (by omega)
  have HBw : Hid (Bel w v2) := Bel.ch HBu2.out hc hg
  obtain ⟨lL, sL, cx⟩ := HLL.out
  have zx := own_zi (own_ch HOX.out hc (by omega)) lL
  have zy := own_zi hoy lM
  clear ho hc hoy HOX HO1 HOu1 HOu2 HBu1 HBu2 HB1 HLL
  have n1 : 1 ≤ m := by omega
  have nm : m ≤ m := Nat.le_refl m
  have m32 : m ≤ 32 := by omega
  have OX : Hid (∀ W, Bel v2 W → Calls Try.prog 16 #[.slice (some ⟨xa, 0, none⟩) m xb, .int .i64 (m : Int)] W fun e w' => ∃ h c', e = .returned (.tuple #[.agg #[.int .i64 (m : Int), .slice (some ⟨h, 0, none⟩) m c', .int .i64 ((m : Int) * vr L)], .int .i64 0]) ∧ Skz w' h m m L ∧ Bel W w') := fun W hW => (Of_ok xa xb m m L m2 m32 n1 n8 nm cx sL W (zx.bel hW)).mono fun _ _ ⟨h, c', e, _, _, z, b⟩ => ⟨h, c', e, z, b⟩
  have OY : Hid (∀ W, Bel v2 W → Calls Try.prog 16 #[.slice (some ⟨ya, 0, none⟩) m yb, .int .i64 (m : Int)] W fun e w' => ∃ h c', e = .returned (.tuple #[.agg #[.int .i64 (m : Int), .slice (some ⟨h, 0, none⟩) m c', .int .i64 ((m : Int) * vr M)], .int .i64 0]) ∧ Skz w' h m m M ∧ Bel W w') := fun W hW => (Of_ok ya yb m m M m2 m32 n1 n8 nm cy sM W (zy.bel hW)).mono fun _ _ ⟨h, c', e, _, _, z, b⟩ => ⟨h, c', e, z, b⟩
  have UP : Hid (∀ h c h' c' W, Skz W h m m L → Skz W h' m m M → Calls Try.prog 17 #[.agg #[.int .i64 (m : Int), .slice (some ⟨h, 0, none⟩) m c, .int .i64 ((m : Int) * vr L)], .agg #[.int .i64 (m : Int), .slice (some ⟨h', 0, none⟩) m c', .int .i64 ((m : Int) * vr M)]] W fun e w' => e = .returned (.tuple #[.int .i64 (upv L M m m), .int .i64 0]) ∧ Bel W w') := fun h c h' c' W z1 z2 => Upper_ok h c h' c' m m L M m2 m32 n1 n8 nm sL sM lL lM W z1 z2
  have GP : Hid (∀ h c h' c' W, Skz W h m m L → Skz W h' m m M → Calls Try.prog 18 #[.agg #[.int .i64 (m : Int), .slice (some ⟨h, 0, none⟩) m c, .int .i64 ((m : Int) * vr L)], .agg #[.int .i64 (m : Int), .slice (some ⟨h', 0, none⟩) m c', .int .i64 ((m : Int) * vr M)]] W fun e w' => e = .returned (.tuple #[.agg #[.int .i64 (mN (vr L) (vr M) (upv L M m m)), .int .i64 (mD (vr L) (vr M) (upv L M m m))], .int .i64 0]) ∧ Bel W w') := fun h c h' c' W z1 z2 => Gap_ok h c h' c' m m L M m2 m32 n1 n8 nm sL sM lL lM W z1 z2
  have GQ : Hid (∀ h c h' c' W, Skz W h m m M → Skz W h' m m L → Calls Try.prog 18 #[.agg #[.int .i64 (m : Int), .slice (some ⟨h, 0, none⟩) m c, .int .i64 ((m : Int) * vr M)], .agg #[.int .i64 (m : Int), .slice (some ⟨h', 0, none⟩) m c', .int .i64 ((m : Int) * vr L)]] W fun e w' => e = .returned (.tuple #[.agg #[.int .i64 (mN (vr L) (vr M) (upv L M m m)), .int .i64 (mD (vr L) (vr M) (upv L M m m))], .int .i64 0]) ∧ Bel W w') := fun h c h' c' W z1 z2 => by
    rw [(m_swap (vr L) (vr M) (upv L M m m)).1, (m_swap (vr L) (vr M) (upv L M m m)).2, upv_comm L M m m]
    exact Gap_ok h c h' c' m m M L m2 m32 n1 n8 nm sM sL lM lL W z1 z2
  have PR : Hid (∀ W, Bel v2 W → Calls Try.prog 19 #[.slice (some ⟨xa, 0, none⟩) m xb, .slice (some ⟨ya, 0, none⟩) m yb] W fun e w' => e = .returned (.tuple #[.int .i64 (pr L M), .int .i64 0]) ∧ Bel W w') := fun W hW => rProd_ok (some ⟨xa, 0, none⟩) (some ⟨ya, 0, none⟩) xb yb m L M m2 m32 sL sM W (zx.bel hW) (zy.bel hW)
  have RG : Hid (∀ W, Bel v2 W → Calls Try.prog 20 #[.slice (some ⟨xa, 0, none⟩) m xb, .slice (some ⟨ya, 0, none⟩) m yb] W fun e w' => e = .returned (.tuple #[.agg #[.int .i64 (rN (vr L) (vr M) (pr L M)), .int .i64 (rD (vr L) (vr M) (pr L M))], .int .i64 0]) ∧ Bel W w') := fun W hW => rGap_ok (some ⟨xa, 0, none⟩) (some ⟨ya, 0, none⟩) xb yb m L M m2 m32 sL sM W (zx.bel hW) (zy.bel hW)
  have v := vr_le sL (by omega)
  have u := vr_le sM (by omega)
  have cs := pr_cs (X := L) (Y := M) (by omega)
  have uf := upv_full lL lM m2
  have mq := m_eq (c := pr L M) cs
  rw [uf] at UP GP
  rw [mq.1, mq.2] at GP
  clear GQ
  obtain ⟨P, hP⟩ : ∃ c, pr L M = c := ⟨_, rfl⟩
  rw [hP] at UP GP PR RG
  obtain ⟨V, hV⟩ : ∃ c, vr L = c := ⟨_, rfl⟩
  obtain ⟨U, hU⟩ : ∃ c, vr M = c := ⟨_, rfl⟩
  rw [hV] at OX UP GP RG
  rw [hU] at OY UP GP RG
  obtain ⟨E1, hE1⟩ : ∃ c, (m : Int) * V = c := ⟨_, rfl⟩
  obtain ⟨E2, hE2⟩ : ∃ c, (m : Int) * U = c := ⟨_, rfl⟩
  rw [hE1] at OX UP GP
  rw [hE2] at OY UP GP
  obtain ⟨t1, ht1⟩ : ∃ c, rN V U P = c := ⟨_, rfl⟩
  obtain ⟨t2, ht2⟩ : ∃ c, rD V U P = c := ⟨_, rfl⟩
  rw [ht1, ht2] at GP RG
  have q1 : (t1 == t1) = true := by simp
  have q2 : (t2 == t2) = true := by simp
  have q3 := ne_self t1
  have q4 := ne_self t2
  have q5 : (P == P) = true := by simp
  have q6 := ne_self P
  clear zx zy lL lM sL sM cx cy v u cs uf mq hP hV hU hE1 hE2 ht1 ht2
  have HB : Hid (Bel v2 v2) := Bel.rf
  go_wp2_with fail
  go_at_call 16
  refine (OX.out _ HB.out).mono ?_
  rintro e v3 ⟨h1, k1, rfl, hz1, hb⟩
  have HBa : Hid (Bel v2 v3) := HB.out.tr hb
  replace HB : Hid (Bel v2 (v3.alloc (.cells #[.int .i64 (m : Int), .slice (some ⟨h1, 0, none⟩) m k1, .int .i64 E1] 29))) := HBa.out.al _
  have HKA : Hid (Bk (v3.alloc (.cells #[.int .i64 (m : Int), .slice (some ⟨h1, 0, none⟩) m k1, .int .i64 E1] 29)) v3.heap.size 29 #[.int .i64 (m : Int), .slice (some ⟨h1, 0, none⟩) m k1, .int .i64 E1]) := Bk.nw _ _ _
  clear hb HBa 
  have HZA : Hid (Skz (v3.alloc (.cells #[.int .i64 (m : Int), .slice (some ⟨h1, 0, none⟩) m k1, .int .i64 E1] 29)) h1 m m L) := hz1.bel (Bel.rf.al _)
  clear hz1
  go_wp2_with fail
  go_at_call 16
  refine (OY.out _ HB.out).mono ?_
  rintro e v4 ⟨h2, k2, rfl, hz2, hb⟩
  have HBa : Hid (Bel v2 v4) := HB.out.tr hb
  have KA : Bk v4 v3.heap.size 29 #[.int .i64 (m : Int), .slice (some ⟨h1, 0, none⟩) m k1, .int .i64 E1] := HKA.out.bel hb
  have cA0 : v4.cell? ⟨v3.heap.size, 0, none⟩ = some (.int .i64 (m : Int)) := KA.cell 0
  have cA1 : v4.cell? ⟨v3.heap.size, 1, none⟩ = some (.slice (some ⟨h1, 0, none⟩) m k1) := KA.cell 1
  have cA2 : v4.cell? ⟨v3.heap.size, 2, none⟩ = some (.int .i64 E1) := KA.cell 2
  have lA := KA.lt
  replace HB : Hid (Bel v2 (v4.alloc (.cells #[.int .i64 (m : Int), .slice (some ⟨h2, 0, none⟩) m k2, .int .i64 E2] 29))) := HBa.out.al _
  replace HKA : Hid (Bk (v4.alloc (.cells #[.int .i64 (m : Int), .slice (some ⟨h2, 0, none⟩) m k2, .int .i64 E2] 29)) v3.heap.size 29 #[.int .i64 (m : Int), .slice (some ⟨h1, 0, none⟩) m k1, .int .i64 E1]) := KA.al _
  have HKB : Hid (Bk (v4.alloc (.cells #[.int .i64 (m : Int), .slice (some ⟨h2, 0, none⟩) m k2, .int .i64 E2] 29)) v4.heap.size 29 #[.int .i64 (m : Int), .slice (some ⟨h2, 0, none⟩) m k2, .int .i64 E2]) := Bk.nw _ _ _
  replace HZA : Hid (Skz (v4.alloc (.cells #[.int .i64 (m : Int), .slice (some ⟨h2, 0, none⟩) m k2, .int .i64 E2] 29)) h1 m m L) := (HZA.out.bel hb).bel (Bel.rf.al _)
  clear hb HBa KA
  have HZB : Hid (Skz (v4.alloc (.cells #[.int .i64 (m : Int), .slice (some ⟨h2, 0, none⟩) m k2, .int .i64 E2] 29)) h2 m m M) := hz2.bel (Bel.rf.al _)
  clear hz2
  go_wp2_with fail
  go_at_call 17
  refine (UP.out h1 k1 h2 k2 _ HZA.out HZB.out).mono ?_
  rintro e v5 ⟨rfl, hb⟩
  have HBa : Hid (Bel v2 v5) := HB.out.tr hb
  have KA : Bk v5 v3.heap.size 29 #[.int .i64 (m : Int), .slice (some ⟨h1, 0, none⟩) m k1, .int .i64 E1] := HKA.out.bel hb
  have cA0 : v5.cell? ⟨v3.heap.size, 0, none⟩ = some (.int .i64 (m : Int)) := KA.cell 0
  have cA1 : v5.cell? ⟨v3.heap.size, 1, none⟩ = some (.slice (some ⟨h1, 0, none⟩) m k1) := KA.cell 1
  have cA2 : v5.cell? ⟨v3.heap.size, 2, none⟩ = some (.int .i64 E1) := KA.cell 2
  have lA := KA.lt
  have KB : Bk v5 v4.heap.size 29 #[.int .i64 (m : Int), .slice (some ⟨h2, 0, none⟩) m k2, .int .i64 E2] := HKB.out.bel hb
  have cB0 : v5.cell? ⟨v4.heap.size, 0, none⟩ = some (.int .i64 (m : Int)) := KB.cell 0
  have cB1 : v5.cell? ⟨v4.heap.size, 1, none⟩ = some (.slice (some ⟨h2, 0, none⟩) m k2) := KB.cell 1
  have cB2 : v5.cell? ⟨v4.heap.size, 2, none⟩ = some (.int .i64 E2) := KB.cell 2
  have lB := KB.lt
  replace HB : Hid (Bel v2 v5) := HBa.out
  replace HKA : Hid (Bk v5 v3.heap.size 29 #[.int .i64 (m : Int), .slice (some ⟨h1, 0, none⟩) m k1, .int .i64 E1]) := KA
  replace HKB : Hid (Bk v5 v4.heap.size 29 #[.int .i64 (m : Int), .slice (some ⟨h2, 0, none⟩) m k2, .int .i64 E2]) := KB
  replace HZA : Hid (Skz v5 h1 m m L) := HZA.out.bel hb
  replace HZB : Hid (Skz v5 h2 m m M) := HZB.out.bel hb
  clear hb HBa KA KB
  go_wp2_with fail
  go_at_call 18
  refine (GP.out h1 k1 h2 k2 _ HZA.out HZB.out).mono ?_
  rintro e v6 ⟨rfl, hb⟩
  have HBa : Hid (Bel v2 v6) := HB.out.tr hb
  have KA : Bk v6 v3.heap.size 29 #[.int .i64 (m : Int), .slice (some ⟨h1, 0, none⟩) m k1, .int .i64 E1] := HKA.out.bel hb
  have cA0 : v6.cell? ⟨v3.heap.size, 0, none⟩ = some (.int .i64 (m : Int)) := KA.cell 0
  have cA1 : v6.cell? ⟨v3.heap.size, 1, none⟩ = some (.slice (some ⟨h1, 0, none⟩) m k1) := KA.cell 1
  have cA2 : v6.cell? ⟨v3.heap.size, 2, none⟩ = some (.int .i64 E1) := KA.cell 2
  have lA := KA.lt
  have KB : Bk v6 v4.heap.size 29 #[.int .i64 (m : Int), .slice (some ⟨h2, 0, none⟩) m k2, .int .i64 E2] := HKB.out.bel hb
  have cB0 : v6.cell? ⟨v4.heap.size, 0, none⟩ = some (.int .i64 (m : Int)) := KB.cell 0
  have cB1 : v6.cell? ⟨v4.heap.size, 1, none⟩ = some (.slice (some ⟨h2, 0, none⟩) m k2) := KB.cell 1
  have cB2 : v6.cell? ⟨v4.heap.size, 2, none⟩ = some (.int .i64 E2) := KB.cell 2
  have lB := KB.lt
  replace HB : Hid (Bel v2 (v6.alloc (.cells #[.int .i64 t1, .int .i64 t2] 36))) := HBa.out.al _
  replace HKA : Hid (Bk (v6.alloc (.cells #[.int .i64 t1, .int .i64 t2] 36)) v3.heap.size 29 #[.int .i64 (m : Int), .slice (some ⟨h1, 0, none⟩) m k1, .int .i64 E1]) := KA.al _
  replace HKB : Hid (Bk (v6.alloc (.cells #[.int .i64 t1, .int .i64 t2] 36)) v4.heap.size 29 #[.int .i64 (m : Int), .slice (some ⟨h2, 0, none⟩) m k2, .int .i64 E2]) := KB.al _
  have HKR : Hid (Bk (v6.alloc (.cells #[.int .i64 t1, .int .i64 t2] 36)) v6.heap.size 36 #[.int .i64 t1, .int .i64 t2]) := Bk.nw _ _ _
  replace HZA : Hid (Skz (v6.alloc (.cells #[.int .i64 t1, .int .i64 t2] 36)) h1 m m L) := (HZA.out.bel hb).bel (Bel.rf.al _)
  replace HZB : Hid (Skz (v6.alloc (.cells #[.int .i64 t1, .int .i64 t2] 36)) h2 m m M) := (HZB.out.bel hb).bel (Bel.rf.al _)
  clear hb HBa KA KB
  go_wp2_with fail
  go_at_call 19
  refine (PR.out _ HB.out).mono ?_
  rintro e v8 ⟨rfl, hb⟩
  have HBa : Hid (Bel v2 v8) := HB.out.tr hb
  have KA : Bk v8 v3.heap.size 29 #[.int .i64 (m : Int), .slice (some ⟨h1, 0, none⟩) m k1, .int .i64 E1] := HKA.out.bel hb
  have cA0 : v8.cell? ⟨v3.heap.size, 0, none⟩ = some (.int .i64 (m : Int)) := KA.cell 0
  have cA1 : v8.cell? ⟨v3.heap.size, 1, none⟩ = some (.slice (some ⟨h1, 0, none⟩) m k1) := KA.cell 1
  have cA2 : v8.cell? ⟨v3.heap.size, 2, none⟩ = some (.int .i64 E1) := KA.cell 2
  have lA := KA.lt
  have KB : Bk v8 v4.heap.size 29 #[.int .i64 (m : Int), .slice (some ⟨h2, 0, none⟩) m k2, .int .i64 E2] := HKB.out.bel hb
  have cB0 : v8.cell? ⟨v4.heap.size, 0, none⟩ = some (.int .i64 (m : Int)) := KB.cell 0
  have cB1 : v8.cell? ⟨v4.heap.size, 1, none⟩ = some (.slice (some ⟨h2, 0, none⟩) m k2) := KB.cell 1
  have cB2 : v8.cell? ⟨v4.heap.size, 2, none⟩ = some (.int .i64 E2) := KB.cell 2
  have lB := KB.lt
  have KR : Bk v8 v6.heap.size 36 #[.int .i64 t1, .int .i64 t2] := HKR.out.bel hb
  have cR0 : v8.cell? ⟨v6.heap.size, 0, none⟩ = some (.int .i64 t1) := KR.cell 0
  have cR1 : v8.cell? ⟨v6.heap.size, 1, none⟩ = some (.int .i64 t2) := KR.cell 1
  have lR := KR.lt
  replace HB : Hid (Bel v2 v8) := HBa.out
  replace HKA : Hid (Bk v8 v3.heap.size 29 #[.int .i64 (m : Int), .slice (some ⟨h1, 0, none⟩) m k1, .int .i64 E1]) := KA
  replace HKB : Hid (Bk v8 v4.heap.size 29 #[.int .i64 (m : Int), .slice (some ⟨h2, 0, none⟩) m k2, .int .i64 E2]) := KB
  replace HKR : Hid (Bk v8 v6.heap.size 36 #[.int .i64 t1, .int .i64 t2]) := KR
  replace HZA : Hid (Skz v8 h1 m m L) := HZA.out.bel hb
  replace HZB : Hid (Skz v8 h2 m m M) := HZB.out.bel hb
  clear hb HBa KA KB KR
  go_wp2_with fail
  go_at_call 20
  refine (RG.out _ HB.out).mono ?_
  rintro e v9 ⟨rfl, hb⟩
  have HBa : Hid (Bel v2 v9) := HB.out.tr hb
  have KA : Bk v9 v3.heap.size 29 #[.int .i64 (m : Int), .slice (some ⟨h1, 0, none⟩) m k1, .int .i64 E1] := HKA.out.bel hb
  have cA0 : v9.cell? ⟨v3.heap.size, 0, none⟩ = some (.int .i64 (m : Int)) := KA.cell 0
  have cA1 : v9.cell? ⟨v3.heap.size, 1, none⟩ = some (.slice (some ⟨h1, 0, none⟩) m k1) := KA.cell 1
  have cA2 : v9.cell? ⟨v3.heap.size, 2, none⟩ = some (.int .i64 E1) := KA.cell 2
  have lA := KA.lt
  have KB : Bk v9 v4.heap.size 29 #[.int .i64 (m : Int), .slice (some ⟨h2, 0, none⟩) m k2, .int .i64 E2] := HKB.out.bel hb
  have cB0 : v9.cell? ⟨v4.heap.size, 0, none⟩ = some (.int .i64 (m : Int)) := KB.cell 0
  have cB1 : v9.cell? ⟨v4.heap.size, 1, none⟩ = some (.slice (some ⟨h2, 0, none⟩) m k2) := KB.cell 1
  have cB2 : v9.cell? ⟨v4.heap.size, 2, none⟩ = some (.int .i64 E2) := KB.cell 2
  have lB := KB.lt
  have KR : Bk v9 v6.heap.size 36 #[.int .i64 t1, .int .i64 t2] := HKR.out.bel hb
  have cR0 : v9.cell? ⟨v6.heap.size, 0, none⟩ = some (.int .i64 t1) := KR.cell 0
  have cR1 : v9.cell? ⟨v6.heap.size, 1, none⟩ = some (.int .i64 t2) := KR.cell 1
  have lR := KR.lt
  replace HB : Hid (Bel v2 (v9.alloc (.cells #[.int .i64 t1, .int .i64 t2] 36))) := HBa.out.al _
  replace HKA : Hid (Bk (v9.alloc (.cells #[.int .i64 t1, .int .i64 t2] 36)) v3.heap.size 29 #[.int .i64 (m : Int), .slice (some ⟨h1, 0, none⟩) m k1, .int .i64 E1]) := KA.al _
  replace HKB : Hid (Bk (v9.alloc (.cells #[.int .i64 t1, .int .i64 t2] 36)) v4.heap.size 29 #[.int .i64 (m : Int), .slice (some ⟨h2, 0, none⟩) m k2, .int .i64 E2]) := KB.al _
  replace HKR : Hid (Bk (v9.alloc (.cells #[.int .i64 t1, .int .i64 t2] 36)) v6.heap.size 36 #[.int .i64 t1, .int .i64 t2]) := KR.al _
  have HKT : Hid (Bk (v9.alloc (.cells #[.int .i64 t1, .int .i64 t2] 36)) v9.heap.size 36 #[.int .i64 t1, .int .i64 t2]) := Bk.nw _ _ _
  replace HZA : Hid (Skz (v9.alloc (.cells #[.int .i64 t1, .int .i64 t2] 36)) h1 m m L) := (HZA.out.bel hb).bel (Bel.rf.al _)
  replace HZB : Hid (Skz (v9.alloc (.cells #[.int .i64 t1, .int .i64 t2] 36)) h2 m m M) := (HZB.out.bel hb).bel (Bel.rf.al _)
  clear hb HBa KA KB KR
  go_wp2_with (go_at_call 21; refine (AW.out _).mono ?_; rintro e v12 ⟨rfl, h12⟩)
  go_ret
  exact ⟨rfl, (HBw.out.tr (HB.out.tr h12)).bl⟩

set_option maxRecDepth 100000 in
theorem lifted (os : Os) (started : os.Started) (H : Type) (enc : TypeId × Value → H) :
    ReturnsInHanded {} Try.checked os 3 .any (Rows.sketchFullSpec.pre6 enc Try.prog Try.f3 Rows.sketchFullRow.domain false) (Rows.sketchFullSpec.post enc Try.prog Try.f3 false true false false) := by
  refine returnsInHanded_of_change (C := Try.checked) own started (by kernel_rfl) Try.func3
    (ChangeSpec.witness6 (enc := enc) (C := Try.checked) false ⟨#[], #[.slice none 0 0], []⟩ 8 (by kernel_rfl) (by kernel_rfl) (by kernel_rfl) (by kernel_rfl)) ?_
  intro W base args ds gs before hval0 hW hcnd _
  have hval : ∀ (j : Nat) t v, Try.f3.params[j]? = some t → args[j]? = some v → Value.okWide Try.prog W .any base t v := hval0
  have hW' := hW
  obtain ⟨p, q, hA0, hV, rfl, hfz, hnd⟩ := hW
  have hA : DataW.TrodAll enc Try.prog W 0 (fun _ => true) true Try.f3.params.toList args.toList ds p := hA0
  rw [Try.params3] at hA hval
  obtain ⟨v0, vs0, d0, ds0, p0, q0, hargs, rfl, rfl, h0, r0⟩ := trodAll_cons hA
  obtain ⟨rfl, rfl, rfl⟩ := trodAll_nil r0
  obtain rfl : args = #[v0] := by cases args; simp_all
  obtain ⟨rfl, rfl⟩ := trodVars_none hV
  obtain ⟨a0, len0, cap0, rfl⟩ := okWide_slice Try.underlying22 (hval 0 22 v0 rfl rfl)
  have k0 := h0
  have lt0 : ∀ x ∈ p0, x.block < W.heap.size := by obtain ⟨m, hm⟩ := k0; exact DataW.trod_lt m _ _ _ hm
  obtain ⟨z0, w0⟩ : ∃ zs, IsRow .i64 W a0 len0 cap0 zs := by
    obtain ⟨fuel, hf⟩ := h0
    rcases open_ints Try.underlying22 Try.underlying3 (by kernel_rfl) hf with ⟨hcs, _⟩ | ⟨x, l, c, zs, hcs, _, hl, hm, hz, _, hcell, hwz⟩
    · simp [Value.cells] at hcs
      obtain ⟨rfl, rfl, rfl⟩ := hcs
      exact ⟨[], .inl ⟨rfl, rfl, rfl, rfl⟩⟩
    · simp [Value.cells] at hcs
      obtain ⟨rfl, rfl, rfl⟩ := hcs
      exact ⟨zs, .inr ⟨_, rfl, hl, hm, by simpa using hz, hcell, hwz⟩⟩
  clear hA0 hval0
  refine (walk a0 len0 cap0 z0 W w0).mono fun e W' ⟨he, bel⟩ => ?_
  subst he
  exact ⟨_, rfl, _, _, _, [], _, [], hW', trodAll_mk1 (shut_bool Try.underlying4 _), (trodAll_cons_mk (Below.trod laidOut (by kernel_rfl) (of_decide_eq_true (by kernel_rfl)) k0 bel lt0) trodAll_mk0), rfl, bel.frame _, fun h => by cases h⟩

theorem over : Rows.sketchFullRow.holds Try.pinned (OpenSpec.ofChange Rows.sketchFullSpec) :=
  OpenClaim.holds_of_wide 3 Try.f3 rfl rfl rfl rfl rfl rfl rfl ⟨rfl, rfl, rfl, rfl, rfl⟩ rfl rfl rfl rfl rfl (by kernel_rfl) Try.func3 (by kernel_rfl)
    (of_decide_eq_true (by kernel_rfl)) (by unfold Func.isWrapper; first | (rw [if_pos (by decide +kernel)]; kernel_rfl) | (rw [if_neg (by decide +kernel)]; exact ⟨rfl, rfl⟩))
    (fun os started H enc _ => lifted os started H enc)

theorem proved : Rows.SketchFullSaid := over
end Go.Proofs.Ytpbnabibnkohdaa.sketchFull
