/- That the law NormalOrders returns true for every input that can be read, and leaves its arguments as they were; no further condition. -/
import Derived.Test.YtkbpcaggkngpnaaRows
import Derived.WalkKit
import Derived.ProofKit
import Derived.OpenShut
import Derived.Test.YtkbpcaggkngpnaaWords
import Derived.Test.YtkbpcaggkngpnaaSrcNew0
import Derived.Test.YtkbpcaggkngpnaaNear
import Derived.Test.YtkbpcaggkngpnaaNorAwake
import Derived.Test.YtkbpcaggkngpnaaApp
import Derived.ShutString
import Derived.ChangeOld
import Derived.Below
namespace Go.Proofs.Ytkbpcaggkngpnaa.normalOrders
open Go.ChangeShapes Go.WideShapes Go.ChangeAt Go.RowKit Wo
open Go.ChangeMaps (open_string shut_string)
set_option linter.unusedVariables false

theorem own : ownKnob Try.prog.godebug = none := by kernel_rfl
theorem laidOut : laidOutB Try.prog = true := by kernel_rfl

/-- WHAT THE WALK IS TOLD OF A SLICE OF INTEGERS THAT CAME IN: it is nil; or it leads to a row of 'cap' cells, the numbers 'zs' (the first 'len' are its elements, the rest its spare room), each fitting its kind. -/
def IsRow (k : IntKind) (w : World) (a : Option Addr) (len cap : Nat) (zs : List Int) : Prop :=
  (a = none ∧ len = 0 ∧ cap = 0 ∧ zs = []) ∨
  ∃ x, a = some x ∧ len ≤ cap ∧ cap ≤ maxLen ∧ zs.length = cap ∧ (∀ i, i < zs.length → w.cell? (x.add i) = some (.int k (zs.getD i 0))) ∧ ∀ n ∈ zs, (Lit.int k n).wf = true

theorem own_cap {w : World} {base h n c : Nat} {xs : List Value} {e : TypeId} (hown : w.ownsRow base e 1 (.slice (some ⟨h, 0, none⟩) n c) n xs) : n ≤ c := by
  rcases hown.2 with ⟨h0, _⟩ | ⟨g, cap, cur, e1, hb, hg, h1, _⟩
  · cases h0
  · injection e1 with e1 e2 e3
    subst e3
    exact h1
open Go.Proofs.Ytkbpcaggkngpnaa.Nr Go.Proofs.Ytkbpcaggkngpnaa.Eu Go.Proofs.Ytkbpcaggkngpnaa.Wi Go.Proofs.Ytkbpcaggkngpnaa.Wo Go.Proofs.Ytkbpcaggkngpnaa.Sr Go.Proofs.Ytkbpcaggkngpnaa.Ra in
set_option maxHeartbeats 16000000 in
set_option maxRecDepth 100000 in
theorem walk (a0 : Option Addr) (len0 cap0 : Nat) (z0 : List Int) (a1 : Int) (w : World) (w0 : IsRow .i64 w a0 len0 cap0 z0) (w1 : (Lit.int .u8 a1).wf = true) :
    Calls Try.prog 6 #[.slice a0 len0 cap0, .int .u8 a1] w fun e w' => e = .returned (.bool true) ∧ Below w.heap.size w w' := by
  have b1 := bounds_u8 w1
  obtain ⟨i1, i2⟩ := b1
  have HW := Lib.hid w1
  clear w1
  have AW : Hid (∀ W, Calls Try.prog 17 #[] W fun e w' => e = .returned (.bool true) ∧ Bel W w') := awake_any
  go_enter Try.func6, Try.ntmps6
  go_wp2_with fail
  go_at_call 13
  refine (new_any a0 len0 cap0 z0 w w0).mono ?_
  rintro e v1 ⟨g, rfl, hg, ho1, hb1⟩
  have HO1 := Lib.hid ho1
  have HB1 := Lib.hid hb1
  clear ho1 hb1 w0
  go_wp2_with fail
  go_at_call 14
  refine (pair_any g _ HO1.out).mono ?_
  rintro e v2 ⟨xa, xb, ya, yb, n, L, M, rfl, n1, n2, hxy, hox, hoy, lL, lM, sL, sM, ho2, hc2⟩
  have HB2 : Hid (Bel w v2) := Bel.ch HB1.out hc2 hg
  have HOX := Lib.hid hox
  have HOY := Lib.hid hoy
  have zx : Zi v2 (some ⟨xa, 0, none⟩) n L := own_zi hox lL
  have zy : Zi v2 (some ⟨ya, 0, none⟩) n M := own_zi hoy lM
  have hlm : L.length = M.length := by rw [lL, lM]
  have ni1 : 2 ≤ (n : Int) := by omega
  have ni2 : (n : Int) ≤ 32 := by omega
  have HLL := Lib.hid (And.intro lL (And.intro lM (And.intro sL sM)))
  clear ho2 hc2 hox hoy
  have hxv := HOX.out.lt xa rfl
  have hyv := HOY.out.lt ya rfl
  have m0 := Int.emod_nonneg a1 (b := (n : Int)) (by omega)
  have m1 := Int.emod_lt_of_pos a1 (b := (n : Int)) (by omega)
  have mt : a1.tmod (n : Int) = a1 % (n : Int) := Int.tmod_eq_emod_of_nonneg (by omega)
  obtain ⟨k, hk⟩ := Int.eq_ofNat_of_zero_le m0
  rw [hk] at m1 mt
  have kn : k < n := by omega
  have ni : n ≠ 0 := by omega
  obtain ⟨Y, hY⟩ : ∃ Y, M.drop k ++ M.take k = Y := ⟨_, rfl⟩
  have lY : Y.length = n := by rw [← hY]; simp; omega
  have sY : Sam Y := by
    intro x hx
    rw [← hY] at hx
    rcases List.mem_append.1 hx with h | h
    · exact sM.drop k x h
    · exact sM.take k x h
  have vY : vr Y = vr M := by rw [← hY]; exact vr_turn M k
  have ky : n ≤ yb := own_cap HOY.out
  have ky2 : ¬ (yb = k) := by omega
  have ki : (k : Int) ≤ (n : Int) := by omega
  have kyb : k ≤ yb := by omega
  have kyi : (n : Int) ≤ (yb : Int) := by omega
  have z1 : ∀ W, Bel v2 W → Zi W (some ⟨ya, k, none⟩) (n - k) (M.drop k) := fun W hW => by
    have h2 := zi_sub (zy.bel hW) k (n - k) (by omega)
    rwa [List.take_of_length_le (by rw [List.length_drop]; omega)] at h2
  have z2 : ∀ W, Bel v2 W → Zi W (some ⟨ya, 0, none⟩) k (M.take k) := fun W hW => by
    have h2 := zi_sub (zy.bel hW) 0 k (by omega)
    rwa [List.drop_zero] at h2
  have Z1 := Lib.hid z1
  have Z2 := Lib.hid z2
  have OWN0 : Hid ((v2.drew.alloc (.cells #[] 3)).ownsRow v2.heap.size 3 1 (.slice (some ⟨v2.heap.size, 0, none⟩) 0 0) 0 (zs [])) := World.ownsRow_made (base := v2.heap.size) (e := 3) (size := 1) v2.drew #[] 0 (Nat.le_refl _) (by unfold maxLen; omega) rfl
  go_wp2_with fail
  go_region_law (first
    | (refine step_app _ rfl (.tmp 30) (.tmp 33) rfl v2.heap.size (.slice (some ⟨v2.heap.size, 0, none⟩) 0 0) 0 [] (by simp [Act.eval]) (by first | exact OWN0.out) ⟨ya, k, none⟩ (n - k) (yb - k) (M.drop k) (by simp [Act.eval, *]) (Z1.out _ (by repeat (first | exact Bel.rf | (with_reducible refine Bel.drwN ?_ _) | (with_reducible refine Bel.drw ?_) | (with_reducible refine Bel.al ?_ _)))) (by omega) (by simp) ?_; intro va wa hoa hga hata; have hba : Bel v2 wa := bel_grown (by repeat (first | exact Bel.rf | (with_reducible refine Bel.drwN ?_ _) | (with_reducible refine Bel.drw ?_) | (with_reducible refine Bel.al ?_ _))) hga (fun q e => by cases e; exact Nat.le_refl _))
    | (refine step_app _ rfl (.tmp 34) (.tmp 37) rfl v2.heap.size va (0 + (n - k)) (M.drop k) (by simp [Act.eval]) hoa ⟨ya, 0, none⟩ k yb (M.take k) (by simp [Act.eval, *]) (Z2.out _ hba) (by omega) hba.size ?_; intro vb wb hob hgb hatb))
  have hbb : Bel v2 wb := bel_grown hba hgb (own_base hoa)
  rw [show 0 + (n - k) + k = n by omega, hY] at hob
  obtain ⟨yq, yc, rfl, hyc, hyq⟩ := row_form hob (by omega)
  have zyy : Zi wb (some ⟨yq, 0, none⟩) n Y := own_zi hob lY
  have HBB := Lib.hid hbb
  have hly : L.length = Y.length := by rw [lL, lY]
  have G1 : Hid (∀ W, Bel wb W → _) := fun W hW => Gap_ok (some ⟨xa, 0, none⟩) (some ⟨ya, 0, none⟩) xb yb n L M n1 n2 sL sM W (zx.bel (hbb.tr hW)) (zy.bel (hbb.tr hW))
  have G2 : Hid (∀ W, Bel wb W → _) := fun W hW => Gap_ok (some ⟨xa, 0, none⟩) (some ⟨yq, 0, none⟩) xb yc n L Y n1 n2 sL sY W (zx.bel (hbb.tr hW)) (zyy.bel hW)
  have P1 : Hid (∀ W, Bel wb W → _) := fun W hW => Product_ok (some ⟨xa, 0, none⟩) (some ⟨ya, 0, none⟩) xb yb n L M n1 n2 sL sM W (zx.bel (hbb.tr hW)) (zy.bel (hbb.tr hW))
  have P2 : Hid (∀ W, Bel wb W → _) := fun W hW => Product_ok (some ⟨xa, 0, none⟩) (some ⟨yq, 0, none⟩) xb yc n L Y n1 n2 sL sY W (zx.bel (hbb.tr hW)) (zyy.bel hW)
  have S1 : Hid (∀ W, Bel wb W → _) := fun W hW => spread_ok xa xb n L (by omega) n2 W (zx.bel (hbb.tr hW))
  have S2 : Hid (∀ W, Bel wb W → _) := fun W hW => spread_ok ya yb n M (by omega) n2 W (zy.bel (hbb.tr hW))
  have v := vr_le sL (by omega)
  have u := vr_le sM (by omega)
  have cs1 := pr_cs hlm
  have cs2 := pr_cs hly
  unfold gv at G1 G2
  rw [vY] at G2 cs2
  have rv1 := red_in (c := pr L M) v.1 u.1 v.2 u.2 cs1
  have rv2 := red_in (c := pr L Y) v.1 u.1 v.2 u.2 cs2
  have ORD : vr L ≠ 0 → vr M ≠ 0 → _ := fun a b => gap_ord (by omega) (by omega) v.2 u.2 cs1 cs2
  obtain ⟨c, hc⟩ : ∃ c, pr L M = c := ⟨_, rfl⟩
  obtain ⟨d, hd⟩ : ∃ c, pr L Y = c := ⟨_, rfl⟩
  obtain ⟨V, hV⟩ : ∃ c, vr L = c := ⟨_, rfl⟩
  obtain ⟨U, hU⟩ : ∃ c, vr M = c := ⟨_, rfl⟩
  rw [hV] at G1 G2 S1 rv1 rv2 ORD
  rw [hU] at G1 G2 S2 rv1 rv2 ORD
  rw [hc] at G1 P1 rv1 ORD
  rw [hd] at G2 P2 rv2 ORD
  have LS : Hid (∀ W, Calls Try.prog 22 #[.agg #[.int .i64 (rN V U c), .int .i64 (rD V U c)], .agg #[.int .i64 (rN V U d), .int .i64 (rD V U d)]] W fun e w' => e = .returned (.bool (decide (rN V U c * rD V U d < rN V U d * rD V U c))) ∧ Bel W w') := rless_any _ _ _ _ rv1.1 rv2.1
  obtain ⟨X1, hX1⟩ : ∃ x, rN V U c = x := ⟨_, rfl⟩
  obtain ⟨Y1, hY1⟩ : ∃ x, rD V U c = x := ⟨_, rfl⟩
  obtain ⟨X2, hX2⟩ : ∃ x, rN V U d = x := ⟨_, rfl⟩
  obtain ⟨Y2, hY2⟩ : ∃ x, rD V U d = x := ⟨_, rfl⟩
  rw [hX1, hY1] at G1 LS ORD
  rw [hX2, hY2] at G2 LS ORD
  have HORD : Hid (V ≠ 0 → U ≠ 0 → (X1 * Y2 < X2 * Y1 ↔ d < c) ∧ ((X1 = X2 ∧ Y1 = Y2) ↔ c = d)) := ORD
  have HALL := Lib.hid (And.intro hc (And.intro hd (And.intro hV (And.intro hU (And.intro hX1 (And.intro hY1 (And.intro hX2 hY2)))))))
  clear hata hatb ORD rv1 rv2 v u cs1 cs2 hc hd hV hU hX1 hY1 hX2 hY2 vY hly hbb hob hgb hba hga hoa zx zy zyy z1 z2 Z1 Z2 OWN0 hlm lL lM sL sM lY sY hY m0 mt hk HOX HOY hxv hyv
  go_wp2_with fail
  go_at_call 18
  refine (G1.out _ Bel.rf).mono ?_
  rintro e p1 ⟨rfl, hb⟩
  have HD_p1 : Hid (Bel wb (p1.alloc (.cells #[.int .i64 X1, .int .i64 Y1] 36))) := (hb).al _
  have HN_p1 : Hid (Bk (p1.alloc (.cells #[.int .i64 X1, .int .i64 Y1] 36)) p1.heap.size 36 #[.int .i64 X1, .int .i64 Y1]) := Bk.nw _ _ _
  clear hb
  go_wp2_with fail
  go_at_call 18
  refine (G2.out _ HD_p1.out).mono ?_
  rintro e p2 ⟨rfl, hb⟩
  have HD_p2 : Hid (Bel wb (p2.alloc (.cells #[.int .i64 X2, .int .i64 Y2] 36))) := (HD_p1.out.tr hb).al _
  have HN_p2 : Hid (Bk (p2.alloc (.cells #[.int .i64 X2, .int .i64 Y2] 36)) p2.heap.size 36 #[.int .i64 X2, .int .i64 Y2]) := Bk.nw _ _ _
  have HN_a_p2 := Lib.hid ((HN_p1.out.bel hb).al (.cells #[.int .i64 X2, .int .i64 Y2] 36))
  clear hb
  go_wp2_with fail
  go_at_call 16
  refine (P1.out _ HD_p2.out).mono ?_
  rintro e p3 ⟨rfl, hb⟩
  have HD_p3 := Lib.hid (HD_p2.out.tr hb)
  have HN_a_p3 := Lib.hid (HN_a_p2.out.bel hb)
  have HN_b_p3 := Lib.hid (HN_p2.out.bel hb)
  clear hb
  go_wp2_with fail
  go_at_call 16
  refine (P2.out _ HD_p3.out).mono ?_
  rintro e p4 ⟨rfl, hb⟩
  have HD_p4 := Lib.hid (HD_p3.out.tr hb)
  have HN_a_p4 := Lib.hid (HN_a_p3.out.bel hb)
  have HN_b_p4 := Lib.hid (HN_b_p3.out.bel hb)
  clear hb
  rcases Classical.em (V = 0) with hv | hv
  · rw [show decide (V ≠ 0) = false by simp [hv]] at S1
    go_wp2_with fail
    go_at_call 19
    refine (S1.out _ HD_p4.out).mono ?_
    rintro e p5 ⟨rfl, hb⟩
    have HD_p5 := Lib.hid (HD_p4.out.tr hb)
    have HN_a_p5 := Lib.hid (HN_a_p4.out.bel hb)
    have HN_b_p5 := Lib.hid (HN_b_p4.out.bel hb)
    clear hb
    go_wp2_with (go_at_call 17; refine (AW.out _).mono ?_; rintro e w9 ⟨rfl, hb9⟩)
    go_ret
    exact ⟨rfl, (((HB2.out.tr HBB.out).tr HD_p5.out).tr hb9).bl⟩
  rw [show decide (V ≠ 0) = true by simp [hv]] at S1
  rcases Classical.em (U = 0) with hu | hu
  · rw [show decide (U ≠ 0) = false by simp [hu]] at S2
    go_wp2_with fail
    go_at_call 19
    refine (S1.out _ HD_p4.out).mono ?_
    rintro e p5 ⟨rfl, hb⟩
    have HD_p5 := Lib.hid (HD_p4.out.tr hb)
    have HN_a_p5 := Lib.hid (HN_a_p4.out.bel hb)
    have HN_b_p5 := Lib.hid (HN_b_p4.out.bel hb)
    clear hb
    go_wp2_with fail
    go_at_call 19
    refine (S2.out _ HD_p5.out).mono ?_
    rintro e p6 ⟨rfl, hb⟩
    have HD_p6 := Lib.hid (HD_p5.out.tr hb)
    have HN_a_p6 := Lib.hid (HN_a_p5.out.bel hb)
    have HN_b_p6 := Lib.hid (HN_b_p5.out.bel hb)
    clear hb
    go_wp2_with (go_at_call 17; refine (AW.out _).mono ?_; rintro e w9 ⟨rfl, hb9⟩)
    go_ret
    exact ⟨rfl, (((HB2.out.tr HBB.out).tr HD_p6.out).tr hb9).bl⟩
  rw [show decide (U ≠ 0) = true by simp [hu]] at S2
  have ORD2 := HORD.out hv hu
  have HW3 : Hid ((c = d ∧ X1 = X2 ∧ Y1 = Y2) ∨ (d < c ∧ X1 * Y2 < X2 * Y1 ∧ (X1 ≠ X2 ∨ (X1 = X2 ∧ Y1 ≠ Y2))) ∨ (c < d ∧ ¬ X1 * Y2 < X2 * Y1 ∧ (X1 ≠ X2 ∨ (X1 = X2 ∧ Y1 ≠ Y2)))) := by
    have hne : c ≠ d → (X1 ≠ X2 ∨ (X1 = X2 ∧ Y1 ≠ Y2)) := fun h => by
      rcases Classical.em (X1 = X2) with h1 | h1
      · exact .inr ⟨h1, fun h2 => h (ORD2.2.1 ⟨h1, h2⟩)⟩
      · exact .inl h1
    show _ ∨ _
    rcases Int.lt_trichotomy c d with g | g | g
    · exact .inr (.inr ⟨g, fun h => by have := ORD2.1.1 h; omega, hne (by omega)⟩)
    · exact .inl ⟨g, ORD2.2.2 g⟩
    · exact .inr (.inl ⟨g, ORD2.1.2 g, hne (by omega)⟩)
  clear ORD2 HALL HORD
  go_wp2_with fail
  go_at_call 19
  refine (S1.out _ HD_p4.out).mono ?_
  rintro e p5 ⟨rfl, hb⟩
  have HD_p5 := Lib.hid (HD_p4.out.tr hb)
  have HN_a_p5 := Lib.hid (HN_a_p4.out.bel hb)
  have HN_b_p5 := Lib.hid (HN_b_p4.out.bel hb)
  clear hb
  go_wp2_with fail
  go_at_call 19
  refine (S2.out _ HD_p5.out).mono ?_
  rintro e p6 ⟨rfl, hb⟩
  have HD_p6 := Lib.hid (HD_p5.out.tr hb)
  have HN_a_p6 := Lib.hid (HN_a_p5.out.bel hb)
  have HN_b_p6 := Lib.hid (HN_b_p5.out.bel hb)
  clear hb

  have l0 : p6.cell? ⟨p1.heap.size, 0, none⟩ = some (.int .i64 X1) := HN_a_p6.out.cell 0
  have l1 : p6.cell? ⟨p1.heap.size, 1, none⟩ = some (.int .i64 Y1) := HN_a_p6.out.cell 1
  have l2 : p6.cell? ⟨p2.heap.size, 0, none⟩ = some (.int .i64 X2) := HN_b_p6.out.cell 0
  have l3 : p6.cell? ⟨p2.heap.size, 1, none⟩ = some (.int .i64 Y2) := HN_b_p6.out.cell 1
  rcases HW3.out with ⟨rfl, rfl, rfl⟩ | ⟨hlt, hl, hne⟩ | ⟨hlt, hl, hne⟩
  · rw [show decide (X1 * Y1 < X1 * Y1) = false from decide_eq_false (by omega)] at LS
    go_wp2_with fail
    go_at_call 22
    refine (LS.out _).mono ?_
    rintro e p7 ⟨rfl, hb⟩
    have HD_p7 := Lib.hid (HD_p6.out.tr hb)
    have B1 := HN_a_p6.out.bel hb
    have B2 := HN_b_p6.out.bel hb
    have k0 : p7.cell? ⟨p1.heap.size, 0, none⟩ = some (.int .i64 X1) := B1.cell 0
    have k1 : p7.cell? ⟨p1.heap.size, 1, none⟩ = some (.int .i64 Y1) := B1.cell 1
    have k2 : p7.cell? ⟨p2.heap.size, 0, none⟩ = some (.int .i64 X1) := B2.cell 0
    have k3 : p7.cell? ⟨p2.heap.size, 1, none⟩ = some (.int .i64 Y1) := B2.cell 1
    clear hb B1 B2
    go_wp2_with (go_at_call 17; refine (AW.out _).mono ?_; rintro e w9 ⟨rfl, hb9⟩)
    go_ret
    exact ⟨rfl, (((HB2.out.tr HBB.out).tr HD_p7.out).tr hb9).bl⟩
  · rw [show decide (X1 * Y2 < X2 * Y1) = true from decide_eq_true hl] at LS
    clear hl
    have e1 : (c == d) = false := by simp; omega
    have e2 : decide (d < c) = true := by simp; omega
    rcases hne with hne | ⟨rfl, hne⟩
    · have e3 : (X1 == X2) = false := by simpa using hne
      go_wp2_with fail
      go_at_call 22
      refine (LS.out _).mono ?_
      rintro e p7 ⟨rfl, hb⟩
      have HD_p7 := Lib.hid (HD_p6.out.tr hb)
      have B1 := HN_a_p6.out.bel hb
      have B2 := HN_b_p6.out.bel hb
      have k0 : p7.cell? ⟨p1.heap.size, 0, none⟩ = some (.int .i64 X1) := B1.cell 0
      have k1 : p7.cell? ⟨p1.heap.size, 1, none⟩ = some (.int .i64 Y1) := B1.cell 1
      have k2 : p7.cell? ⟨p2.heap.size, 0, none⟩ = some (.int .i64 X2) := B2.cell 0
      have k3 : p7.cell? ⟨p2.heap.size, 1, none⟩ = some (.int .i64 Y2) := B2.cell 1
      clear hb B1 B2
      go_wp2_with (go_at_call 17; refine (AW.out _).mono ?_; rintro e w9 ⟨rfl, hb9⟩)
      go_ret
      exact ⟨rfl, (((HB2.out.tr HBB.out).tr HD_p7.out).tr hb9).bl⟩
    · have e3 : (Y1 == Y2) = false := by simpa using hne
      go_wp2_with fail
      go_at_call 22
      refine (LS.out _).mono ?_
      rintro e p7 ⟨rfl, hb⟩
      have HD_p7 := Lib.hid (HD_p6.out.tr hb)
      have B1 := HN_a_p6.out.bel hb
      have B2 := HN_b_p6.out.bel hb
      have k0 : p7.cell? ⟨p1.heap.size, 0, none⟩ = some (.int .i64 X1) := B1.cell 0
      have k1 : p7.cell? ⟨p1.heap.size, 1, none⟩ = some (.int .i64 Y1) := B1.cell 1
      have k2 : p7.cell? ⟨p2.heap.size, 0, none⟩ = some (.int .i64 X1) := B2.cell 0
      have k3 : p7.cell? ⟨p2.heap.size, 1, none⟩ = some (.int .i64 Y2) := B2.cell 1
      clear hb B1 B2
      go_wp2_with (go_at_call 17; refine (AW.out _).mono ?_; rintro e w9 ⟨rfl, hb9⟩)
      go_ret
      exact ⟨rfl, (((HB2.out.tr HBB.out).tr HD_p7.out).tr hb9).bl⟩
  · rw [show decide (X1 * Y2 < X2 * Y1) = false from decide_eq_false (Int.not_lt.2 hl)] at LS
    clear hl
    have e1 : (c == d) = false := by simp; omega
    have e2 : decide (d < c) = false := by simp; omega
    rcases hne with hne | ⟨rfl, hne⟩
    · have e3 : (X1 == X2) = false := by simpa using hne
      go_wp2_with fail
      go_at_call 22
      refine (LS.out _).mono ?_
      rintro e p7 ⟨rfl, hb⟩
      have HD_p7 := Lib.hid (HD_p6.out.tr hb)
      have B1 := HN_a_p6.out.bel hb
      have B2 := HN_b_p6.out.bel hb
      have k0 : p7.cell? ⟨p1.heap.size, 0, none⟩ = some (.int .i64 X1) := B1.cell 0
      have k1 : p7.cell? ⟨p1.heap.size, 1, none⟩ = some (.int .i64 Y1) := B1.cell 1
      have k2 : p7.cell? ⟨p2.heap.size, 0, none⟩ = some (.int .i64 X2) := B2.cell 0
      have k3 : p7.cell? ⟨p2.heap.size, 1, none⟩ = some (.int .i64 Y2) := B2.cell 1
      clear hb B1 B2
      go_wp2_with (go_at_call 17; refine (AW.out _).mono ?_; rintro e w9 ⟨rfl, hb9⟩)
      go_ret
      exact ⟨rfl, (((HB2.out.tr HBB.out).tr HD_p7.out).tr hb9).bl⟩
    · have e3 : (Y1 == Y2) = false := by simpa using hne
      go_wp2_with fail
      go_at_call 22
      refine (LS.out _).mono ?_
      rintro e p7 ⟨rfl, hb⟩
      have HD_p7 := Lib.hid (HD_p6.out.tr hb)
      have B1 := HN_a_p6.out.bel hb
      have B2 := HN_b_p6.out.bel hb
      have k0 : p7.cell? ⟨p1.heap.size, 0, none⟩ = some (.int .i64 X1) := B1.cell 0
      have k1 : p7.cell? ⟨p1.heap.size, 1, none⟩ = some (.int .i64 Y1) := B1.cell 1
      have k2 : p7.cell? ⟨p2.heap.size, 0, none⟩ = some (.int .i64 X1) := B2.cell 0
      have k3 : p7.cell? ⟨p2.heap.size, 1, none⟩ = some (.int .i64 Y2) := B2.cell 1
      clear hb B1 B2
      go_wp2_with (go_at_call 17; refine (AW.out _).mono ?_; rintro e w9 ⟨rfl, hb9⟩)
      go_ret
      exact ⟨rfl, (((HB2.out.tr HBB.out).tr HD_p7.out).tr hb9).bl⟩

set_option maxRecDepth 100000 in
theorem lifted (os : Os) (started : os.Started) (H : Type) (enc : TypeId × Value → H) :
    ReturnsInHanded {} Try.checked os 6 .any (Rows.normalOrdersSpec.pre6 enc Try.prog Try.f6 Rows.normalOrdersRow.domain false) (Rows.normalOrdersSpec.post enc Try.prog Try.f6 false true false false) := by
  refine returnsInHanded_of_change (C := Try.checked) own started (by kernel_rfl) Try.func6
    (ChangeSpec.witness6 (enc := enc) (C := Try.checked) false ⟨#[], #[.slice none 0 0, .int .u8 0], []⟩ 8 (by kernel_rfl) (by kernel_rfl) (by kernel_rfl) (by kernel_rfl)) ?_
  intro W base args ds gs before hval0 hW hcnd _
  have hval : ∀ (j : Nat) t v, Try.f6.params[j]? = some t → args[j]? = some v → Value.okWide Try.prog W .any base t v := hval0
  have hW' := hW
  obtain ⟨p, q, hA0, hV, rfl, hfz, hnd⟩ := hW
  have hA : DataW.TrodAll enc Try.prog W 0 (fun _ => true) true Try.f6.params.toList args.toList ds p := hA0
  rw [Try.params6] at hA hval
  obtain ⟨v0, vs0, d0, ds0, p0, q0, hargs, rfl, rfl, h0, r0⟩ := trodAll_cons hA
  obtain ⟨v1, vs1, d1, ds1, p1, q1, rfl, rfl, rfl, h1, r1⟩ := trodAll_cons r0
  obtain ⟨rfl, rfl, rfl⟩ := trodAll_nil r1
  obtain rfl : args = #[v0, v1] := by cases args; simp_all
  obtain ⟨rfl, rfl⟩ := trodVars_none hV
  obtain ⟨a0, len0, cap0, rfl⟩ := okWide_slice Try.underlying22 (hval 0 22 v0 rfl rfl)
  have k0 := h0
  have lt0 : ∀ x ∈ p0, x.block < W.heap.size := by obtain ⟨m, hm⟩ := k0; exact DataW.trod_lt m _ _ _ hm
  obtain ⟨z0, w0⟩ : ∃ zs, IsRow .i64 W a0 len0 cap0 zs := by
    obtain ⟨fuel, hf⟩ := h0
    rcases open_ints Try.underlying22 Try.underlying3 (by kernel_rfl) hf with ⟨hcs, _⟩ | ⟨x, l, c, zs, hcs, _, hl, hm, hz, _, hcell, hwz⟩
    · simp [Value.cells] at hcs
      obtain ⟨rfl, rfl, rfl⟩ := hcs
      exact ⟨[], .inl ⟨rfl, rfl, rfl, rfl⟩⟩
    · simp [Value.cells] at hcs
      obtain ⟨rfl, rfl, rfl⟩ := hcs
      exact ⟨zs, .inr ⟨_, rfl, hl, hm, by simpa using hz, hcell, hwz⟩⟩
  obtain ⟨a1, rfl, rfl, rfl, w1⟩ := open_int Try.underlying5 (hval 1 5 v1 rfl rfl) h1
  clear hA0 hval0
  refine (walk a0 len0 cap0 z0 a1 W w0 w1).mono fun e W' ⟨he, bel⟩ => ?_
  subst he
  exact ⟨_, rfl, _, _, _, [], _, [], hW', trodAll_mk1 (shut_bool Try.underlying4 _), (trodAll_cons_mk (Below.trod laidOut (by kernel_rfl) (of_decide_eq_true (by kernel_rfl)) k0 bel lt0) (trodAll_cons_mk (shut_int Try.underlying5 w1) trodAll_mk0)), rfl, bel.frame _, fun h => by cases h⟩

theorem over : Rows.normalOrdersRow.holds Try.pinned (OpenSpec.ofChange Rows.normalOrdersSpec) :=
  OpenClaim.holds_of_wide 6 Try.f6 rfl rfl rfl rfl rfl rfl rfl ⟨rfl, rfl, rfl, rfl, rfl⟩ rfl rfl rfl rfl rfl (by kernel_rfl) Try.func6 (by kernel_rfl)
    (of_decide_eq_true (by kernel_rfl)) (by unfold Func.isWrapper; first | (rw [if_pos (by decide +kernel)]; kernel_rfl) | (rw [if_neg (by decide +kernel)]; exact ⟨rfl, rfl⟩))
    (fun os started H enc _ => lifted os started H enc)

theorem proved : Rows.NormalOrdersSaid := over
end Go.Proofs.Ytkbpcaggkngpnaa.normalOrders
