/- That the law EnvelopeAnswers returns true for every input that can be read, and leaves its arguments as they were; no further condition. -/
import Derived.Test.YtkonknkoggfeaaaRows
import Derived.WalkKit
import Derived.ProofKit
import Derived.OpenShut
import Derived.Test.YtkonknkoggfeaaaWords
import Derived.Test.YtkonknkoggfeaaaSrcNew0
import Derived.Test.YtkonknkoggfeaaaEnZ
import Derived.Test.YtkonknkoggfeaaaEuS
import Derived.Test.YtkonknkoggfeaaaEnv4
import Derived.ShutString
import Derived.ChangeOld
import Derived.Below
namespace Go.Proofs.Ytkonknkoggfeaaa.envelopeAnswers
open Go.ChangeShapes Go.WideShapes Go.ChangeAt Go.RowKit Wo
open Go.ChangeMaps (open_string shut_string)
set_option linter.unusedVariables false

theorem own : ownKnob Try.prog.godebug = none := by kernel_rfl
theorem laidOut : laidOutB Try.prog = true := by kernel_rfl

/-- WHAT THE WALK IS TOLD OF A SLICE OF INTEGERS THAT CAME IN: it is nil; or it leads to a row of 'cap' cells, the numbers 'zs' (the first 'len' are its elements, the rest its spare room), each fitting its kind. -/
def IsRow (k : IntKind) (w : World) (a : Option Addr) (len cap : Nat) (zs : List Int) : Prop :=
  (a = none ∧ len = 0 ∧ cap = 0 ∧ zs = []) ∨
  ∃ x, a = some x ∧ len ≤ cap ∧ cap ≤ maxLen ∧ zs.length = cap ∧ (∀ i, i < zs.length → w.cell? (x.add i) = some (.int k (zs.getD i 0))) ∧ ∀ n ∈ zs, (Lit.int k n).wf = true

open Go.Proofs.Ytkonknkoggfeaaa.Eu Go.Proofs.Ytkonknkoggfeaaa.Wi Go.Proofs.Ytkonknkoggfeaaa.Wo Go.Proofs.Ytkonknkoggfeaaa.Sr Go.Proofs.Ytkonknkoggfeaaa.Ra Go.Proofs.Ytkonknkoggfeaaa.Say Go.Proofs.Ytkonknkoggfeaaa.Ev in
set_option maxHeartbeats 16000000 in
set_option maxRecDepth 100000 in
theorem walk (a0 : Option Addr) (len0 cap0 : Nat) (z0 : List Int) (a1 : Option Addr) (len1 cap1 : Nat) (z1 : List Int) (a2 : Int) (a3 : Int) (a4 : Int) (a5 : Option Addr) (len5 cap5 : Nat) (z5 : List Int) (w : World) (w0 : IsRow .i64 w a0 len0 cap0 z0) (w1 : IsRow .i64 w a1 len1 cap1 z1) (w2 : (Lit.int .i64 a2).wf = true) (w3 : (Lit.int .i64 a3).wf = true) (w4 : (Lit.int .i64 a4).wf = true) (w5 : IsRow .i64 w a5 len5 cap5 z5) :
    Calls Try.prog 3 #[.slice a0 len0 cap0, .slice a1 len1 cap1, .int .i64 a2, .int .i64 a3, .int .i64 a4, .slice a5 len5 cap5] w fun e w' => e = .returned (.bool true) ∧ Below w.heap.size w w' := by
  have AW : Hid (∀ W, Calls Try.prog 4 #[] W fun e w' => e = .returned (.bool true) ∧ Bel W w') := awake_any
  rcases Nat.lt_or_ge 100 len0 with k0 | k0
  · have e0 : (100 : Int) < (len0 : Int) := by omega
    have e1 : decide ((100 : Int) < (len0 : Int)) = true := decide_eq_true e0
    go_enter Try.func3, Try.ntmps3
    go_wp2_with (go_at_call 4; refine (AW.out _).mono ?_; rintro e w9 ⟨rfl, hb9⟩)
    go_ret
    exact ⟨rfl, hb9.bl⟩
  have e0 : ¬ (100 : Int) < (len0 : Int) := by omega
  have e1 : decide ((100 : Int) < (len0 : Int)) = false := decide_eq_false e0
  rcases Nat.lt_or_ge 100 len1 with k1 | k1
  · have e2 : (100 : Int) < (len1 : Int) := by omega
    have e3 : decide ((100 : Int) < (len1 : Int)) = true := decide_eq_true e2
    go_enter Try.func3, Try.ntmps3
    go_wp2_with (go_at_call 4; refine (AW.out _).mono ?_; rintro e w9 ⟨rfl, hb9⟩)
    go_ret
    exact ⟨rfl, hb9.bl⟩
  have e2 : ¬ (100 : Int) < (len1 : Int) := by omega
  have e3 : decide ((100 : Int) < (len1 : Int)) = false := decide_eq_false e2
  obtain ⟨hza, hca, hba⟩ := arg_zi w0
  obtain ⟨hzb, hcb, hbb⟩ := arg_zi w1
  have HA := Lib.hid (And.intro hza (And.intro hca hba))
  have HB := Lib.hid (And.intro hzb (And.intro hcb hbb))
  have K0 := Lib.hid k0
  have K1 := Lib.hid k1
  have BB := Lib.hid (bounds_i64 w2)
  have BC := Lib.hid (bounds_i64 w3)
  clear hza hca hba hzb hcb hbb w0 w1 w2 w3 w4 k0 k1
  go_enter Try.func3, Try.ntmps3
  go_wp2_with fail
  go_at_call 5
  refine (new_any a5 len5 cap5 z5 w w5).mono ?_
  rintro e v1 ⟨g, rfl, hg, ho1, hb1⟩
  have HO1 := Lib.hid ho1
  have HB1 := Lib.hid hb1
  have LA : Hid (Ls g v1 (.slice a0 len0 cap0)) := ⟨_, _, _, _, rfl, HA.out.2.1, by have := K0.out; omega, HA.out.1.bel hb1, fun ad e h0 => by have := HA.out.2.2 ad e h0; omega⟩
  have LB : Hid (Ls g v1 (.slice a1 len1 cap1)) := ⟨_, _, _, _, rfl, HB.out.2.1, by have := K1.out; omega, HB.out.1.bel hb1, fun ad e h0 => by have := HB.out.2.2 ad e h0; omega⟩
  clear ho1 hb1 w5 HA HB K0 K1 e0 e1 e2 e3
  have MB : Hid (∀ W, Calls Try.prog 8 #[.int .i64 a2, .int .i64 35] W fun e w' => e = .returned (.int .i64 (a2 % 35)) ∧ W = w') := fun W => mod_any a2 35 (by decide) (by decide) BB.out.1 BB.out.2 W
  have MC : Hid (∀ W, Calls Try.prog 8 #[.int .i64 a3, .int .i64 40] W fun e w' => e = .returned (.int .i64 (a3 % 40)) ∧ W = w') := fun W => mod_any a3 40 (by decide) (by decide) BC.out.1 BC.out.2 W
  go_wp2_with fail
  go_at_call 6
  refine (uneven_any g _ HO1.out).mono ?_
  rintro e v2 ⟨xa, xb, ya, yb, n, m, L, M, K, rfl, n1, n2, m1, m2, hxy, hxc, hyc, _, _, _, _, hox, hoy, lL, lM, sL, sM, ho2, hc2⟩
  obtain ⟨xa', xb', hxe, _, hxg⟩ := row_form hox (by omega)
  obtain ⟨ya', yb', hye, _, hyg⟩ := row_form hoy (by omega)
  cases hxe
  cases hye
  have hgv := HO1.out.lt
  have hgv2 : g < v2.heap.size := ho2.lt
  have HO2 := Lib.hid ho2
  have HC2 := Lib.hid hc2
  have zx := own_zi hox lL
  have zy := own_zi hoy lM
  have nx : ∀ ad, some (⟨xa, 0, none⟩ : Addr) = some ad → 0 < n → ad.block ≠ g := fun ad e _ => by cases e; show xa ≠ g; omega
  have ny : ∀ ad, some (⟨ya, 0, none⟩ : Addr) = some ad → 0 < m → ad.block ≠ g := fun ad e _ => by cases e; show ya ≠ g; omega
  have BX : Hid _ := bent_ch g (some ⟨xa, 0, none⟩) n xb L (by omega) sL v2 hgv2 zx nx
  have BY : Hid _ := bent_ch g (some ⟨ya, 0, none⟩) m yb M (by omega) sM v2 hgv2 zy ny
  have LA2 : Hid (Ls g v2 (.slice a0 len0 cap0)) := LA.out.ch HC2.out
  have LB2 : Hid (Ls g v2 (.slice a1 len1 cap1)) := LB.out.ch HC2.out
  have LX2 : Hid (Ls g v2 (.slice (some ⟨xa, 0, none⟩) n xb)) := ⟨_, _, _, _, rfl, hxc, by omega, zx, nx⟩
  have LY2 : Hid (Ls g v2 (.slice (some ⟨ya, 0, none⟩) m yb)) := ⟨_, _, _, _, rfl, hyc, by omega, zy, ny⟩
  have HBW : Hid (Bel w v2) := Bel.ch HB1.out HC2.out hg
  clear ho2 hc2 hox hoy lL lM sL sM hxy hxg hyg zx zy nx ny hgv hgv2 LA LB HO1 HC2 HB1 BB BC n1 n2 m1 m2 hxc hyc
  go_wp2_with fail
  go_at_call 7
  refine (BY.out _ (by repeat (first | exact Ch.rf | (with_reducible refine Ch.drwN ?_ _) | (with_reducible refine Ch.drw ?_) | (with_reducible refine Ch.al ?_ _) | (refine Ch.tr ?_ (by assumption)))) HO2.out).mono ?_
  rintro e v3 ⟨q1, q2, q3, rfl, ly, oy, cy⟩
  have C23 : Ch g v2 v3 := Ch.tr (by repeat (first | exact Ch.rf | (with_reducible refine Ch.drwN ?_ _) | (with_reducible refine Ch.drw ?_) | (with_reducible refine Ch.al ?_ _) | (refine Ch.tr ?_ (by assumption)))) cy
  have HC3 := Lib.hid C23
  have HO3 := Lib.hid oy
  have HLY := Lib.hid ly
  clear ly oy cy C23
  go_wp2_with fail
  go_at_call 7
  refine (BX.out _ (HC3.out.tr (by repeat (first | exact Ch.rf | (with_reducible refine Ch.drwN ?_ _) | (with_reducible refine Ch.drw ?_) | (with_reducible refine Ch.al ?_ _) | (refine Ch.tr ?_ (by assumption))))) HO3.out).mono ?_
  rintro e v4 ⟨p1, p2, p3, rfl, lx, ox, cx⟩
  have C34 : Ch g v3 v4 := Ch.tr (by repeat (first | exact Ch.rf | (with_reducible refine Ch.drwN ?_ _) | (with_reducible refine Ch.drw ?_) | (with_reducible refine Ch.al ?_ _) | (refine Ch.tr ?_ (by assumption)))) cx
  have C41 := HC3.out.tr C34
  have HR0 := Lib.hid (new_row C41 ox [.slice a0 len0 cap0, .slice a1 len1 cap1, .slice (some ⟨xa, 0, none⟩) n xb, .slice (some ⟨ya, 0, none⟩) m yb, .slice (some ⟨xa, 0, none⟩) n xb, .slice q1 q2 q3, .slice p1 p2 p3, .slice (some ⟨ya, 0, none⟩) m yb] 28 (List.forall_mem_cons.2 ⟨LA2.out.ch C41, List.forall_mem_cons.2 ⟨LB2.out.ch C41, List.forall_mem_cons.2 ⟨LX2.out.ch C41, List.forall_mem_cons.2 ⟨LY2.out.ch C41, List.forall_mem_cons.2 ⟨LX2.out.ch C41, List.forall_mem_cons.2 ⟨HLY.out.ch C34, List.forall_mem_cons.2 ⟨lx, List.forall_mem_cons.2 ⟨LY2.out.ch C41, fun _ h => (List.not_mem_nil h).elim⟩⟩⟩⟩⟩⟩⟩⟩))
  clear lx ox cx C34 C41 HC3 HO3 HO2 HLY BX BY LA2 LB2 LX2 LY2
  go_wp2_with fail
  obtain ⟨v5, hv5⟩ : ∃ x, (v4.alloc (.cells #[.slice a0 len0 cap0, .slice a1 len1 cap1, .slice (some ⟨xa, 0, none⟩) n xb, .slice (some ⟨ya, 0, none⟩) m yb, .slice (some ⟨xa, 0, none⟩) n xb, .slice q1 q2 q3, .slice p1 p2 p3, .slice (some ⟨ya, 0, none⟩) m yb] 28)) = x := ⟨_, rfl⟩
  have HR1 : Hid (Lrow g v5 v4.heap.size 8 ∧ Ok v5 g ∧ Ch g v2 v5) := by rw [← hv5]; exact HR0.out
  obtain ⟨B, hB⟩ : ∃ u, v4.heap.size = u := ⟨_, rfl⟩
  rw [hB] at HR1 ⊢
  rw [hv5]
  clear hv5 hB HR0
  go_loopw [78] (fun s78 wr => ∃ (k : Nat) (V : World), V = wr ∧ k ≤ 4 ∧ s78 = .int .i64 (k : Int) ∧ Lrow g wr B 8 ∧ Ok wr g ∧ Ch g v2 wr) (fun s78 _ => 4 - (intOf s78).toNat)
  case atStart => exact ⟨0, _, rfl, by omega, rfl, HR1.out.1, HR1.out.2.1, HR1.out.2.2⟩
  case round =>
    clear HR1
    obtain ⟨k, V5, hV5, hk, rfl, hrow, hok, hch⟩ := hrel
    subst hV5
    have HR5 := Lib.hid hrow
    have HO5 := Lib.hid hok
    have HC5 := Lib.hid hch
    clear hrow hok hch
    rcases Nat.lt_or_ge k 4 with hlt | hge
    · have kk : (k : Int) < 4 := by omega
      go_upto_region 7 with fail
      go_cut [18] from 80 to 231 (fun s18 wx => ∃ (h : Nat) (A1 A2 : Option Addr) (n1 c1 n2 c2 : Nat) (V : World), V = wx ∧ s18 = .pointer (some ⟨h, 0, none⟩) ∧ Bk wx h 28 #[.slice A1 n1 c1, .slice A2 n2 c2] ∧ g < h ∧ Ls g wx (.slice A1 n1 c1) ∧ Ls g wx (.slice A2 n2 c2) ∧ Lrow g wx B 8 ∧ Ok wx g ∧ Ch g v2 wx)
      case first =>
        rcases (by omega : k = 0 ∨ k = 1 ∨ k = 2 ∨ k = 3) with rfl | rfl | rfl | rfl
        · obtain ⟨_, c0, A1, n1, b1, L1, rfl, k11, k12, k13, k14⟩ := HR5.out.2 0 (by omega)
          obtain ⟨_, c1, A2, n2, b2, L2, rfl, k21, k22, k23, k24⟩ := HR5.out.2 1 (by omega)
          have HP := Lib.hid (And.intro k11 (And.intro k12 (And.intro k13 k14)))
          have HQ := Lib.hid (And.intro k21 (And.intro k22 (And.intro k23 k24)))
          clear k11 k12 k13 k14 k21 k22 k23 k24
          go_wp2_with fail
          go_meet
          case rel => exact ⟨V5.heap.size, A1, A2, n1, b1, n2, b2, _, rfl, rfl, Bk.nw _ _ _, HO5.out.lt, Ls.bel ⟨_, _, _, _, rfl, HP.out.1, HP.out.2.1, HP.out.2.2.1, HP.out.2.2.2⟩ (Bel.rf.al _), Ls.bel ⟨_, _, _, _, rfl, HQ.out.1, HQ.out.2.1, HQ.out.2.2.1, HQ.out.2.2.2⟩ (Bel.rf.al _), HR5.out.bel (Bel.rf.al _), HO5.out.bel (Bel.rf.al _), HC5.out.al _⟩
        · obtain ⟨_, c0, A1, n1, b1, L1, rfl, k11, k12, k13, k14⟩ := HR5.out.2 2 (by omega)
          obtain ⟨_, c1, A2, n2, b2, L2, rfl, k21, k22, k23, k24⟩ := HR5.out.2 3 (by omega)
          have HP := Lib.hid (And.intro k11 (And.intro k12 (And.intro k13 k14)))
          have HQ := Lib.hid (And.intro k21 (And.intro k22 (And.intro k23 k24)))
          clear k11 k12 k13 k14 k21 k22 k23 k24
          go_wp2_with fail
          go_meet
          case rel => exact ⟨V5.heap.size, A1, A2, n1, b1, n2, b2, _, rfl, rfl, Bk.nw _ _ _, HO5.out.lt, Ls.bel ⟨_, _, _, _, rfl, HP.out.1, HP.out.2.1, HP.out.2.2.1, HP.out.2.2.2⟩ (Bel.rf.al _), Ls.bel ⟨_, _, _, _, rfl, HQ.out.1, HQ.out.2.1, HQ.out.2.2.1, HQ.out.2.2.2⟩ (Bel.rf.al _), HR5.out.bel (Bel.rf.al _), HO5.out.bel (Bel.rf.al _), HC5.out.al _⟩
        · obtain ⟨_, c0, A1, n1, b1, L1, rfl, k11, k12, k13, k14⟩ := HR5.out.2 4 (by omega)
          obtain ⟨_, c1, A2, n2, b2, L2, rfl, k21, k22, k23, k24⟩ := HR5.out.2 5 (by omega)
          have HP := Lib.hid (And.intro k11 (And.intro k12 (And.intro k13 k14)))
          have HQ := Lib.hid (And.intro k21 (And.intro k22 (And.intro k23 k24)))
          clear k11 k12 k13 k14 k21 k22 k23 k24
          go_wp2_with fail
          go_meet
          case rel => exact ⟨V5.heap.size, A1, A2, n1, b1, n2, b2, _, rfl, rfl, Bk.nw _ _ _, HO5.out.lt, Ls.bel ⟨_, _, _, _, rfl, HP.out.1, HP.out.2.1, HP.out.2.2.1, HP.out.2.2.2⟩ (Bel.rf.al _), Ls.bel ⟨_, _, _, _, rfl, HQ.out.1, HQ.out.2.1, HQ.out.2.2.1, HQ.out.2.2.2⟩ (Bel.rf.al _), HR5.out.bel (Bel.rf.al _), HO5.out.bel (Bel.rf.al _), HC5.out.al _⟩
        · obtain ⟨_, c0, A1, n1, b1, L1, rfl, k11, k12, k13, k14⟩ := HR5.out.2 6 (by omega)
          obtain ⟨_, c1, A2, n2, b2, L2, rfl, k21, k22, k23, k24⟩ := HR5.out.2 7 (by omega)
          have HP := Lib.hid (And.intro k11 (And.intro k12 (And.intro k13 k14)))
          have HQ := Lib.hid (And.intro k21 (And.intro k22 (And.intro k23 k24)))
          clear k11 k12 k13 k14 k21 k22 k23 k24
          go_wp2_with fail
          go_meet
          case rel => exact ⟨V5.heap.size, A1, A2, n1, b1, n2, b2, _, rfl, rfl, Bk.nw _ _ _, HO5.out.lt, Ls.bel ⟨_, _, _, _, rfl, HP.out.1, HP.out.2.1, HP.out.2.2.1, HP.out.2.2.2⟩ (Bel.rf.al _), Ls.bel ⟨_, _, _, _, rfl, HQ.out.1, HQ.out.2.1, HQ.out.2.2.1, HQ.out.2.2.2⟩ (Bel.rf.al _), HR5.out.bel (Bel.rf.al _), HO5.out.bel (Bel.rf.al _), HC5.out.al _⟩
      case rest =>
      obtain ⟨h, A1, A2, n1, c1, n2, c2, V6, hV6, rfl, hbk, hgh, l1, l2, hrow, hok, hch⟩ := hcut
      subst hV6
      have HR6 := Lib.hid hrow
      have HO6 := Lib.hid hok
      have HC6 := Lib.hid hch
      have HK6 := Lib.hid hbk
      obtain ⟨_, _, _, L1, e1, k11, k12, hz1, hq1⟩ := l1
      obtain ⟨_, _, _, L2, e2, k21, k22, hz2, hq2⟩ := l2
      cases e1
      cases e2
      have HZ : Hid (∀ W, Ch g V6 W → Zi W A1 n1 L1 ∧ Zi W A2 n2 L2) := fun W hc => ⟨zi_chn hz1 hc hq1, zi_chn hz2 hc hq2⟩
      have HGH : Hid (h ≠ g) := by show h ≠ g; omega
      have HN : Hid (n1 ≤ 240 ∧ n2 ≤ 240 ∧ n2 ≤ c2) := ⟨k12, k22, k21⟩
      clear hrow hok hch hbk k11 k12 hq1 k21 k22 hq2 hz1 hz2 HR5 HO5 HC5 hgh
      go_wp2_with fail
      go_at_call 8
      refine (MB.out _).mono ?_
      rintro e v ⟨rfl, rfl⟩
      go_wp2_with fail
      have hq6 : ∀ j, j < 3 → ∃ x, (V6.alloc (.cells #[.int .i64 a2, .int .i64 K, .int .i64 (a2 % 35 - 1)] 3)).cell? ⟨V6.heap.size, j, none⟩ = some (.int .i64 x) := fun j hj => by
        have hB : Bk (V6.alloc (.cells #[.int .i64 a2, .int .i64 K, .int .i64 (a2 % 35 - 1)] 3)) V6.heap.size 3 #[.int .i64 a2, .int .i64 K, .int .i64 (a2 % 35 - 1)] := Bk.nw _ _ _
        rcases (by omega : j = 0 ∨ j = 1 ∨ j = 2) with rfl | rfl | rfl
        all_goals exact ⟨_, hB.cell _⟩
      have hb7 : Bel V6 (V6.alloc (.cells #[.int .i64 a2, .int .i64 K, .int .i64 (a2 % 35 - 1)] 3)) := Bel.rf.al _
      have hgq : g < V6.heap.size := HO6.out.lt
      obtain ⟨V7, hV7⟩ : ∃ x, (V6.alloc (.cells #[.int .i64 a2, .int .i64 K, .int .i64 (a2 % 35 - 1)] 3)) = x := ⟨_, rfl⟩
      obtain ⟨q, hq⟩ : ∃ x, V6.heap.size = x := ⟨_, rfl⟩
      rw [hV7] at hq6 hb7
      rw [hq] at hq6 hgq ⊢
      rw [hV7]
      have HQ7 := Lib.hid hq6
      have HB7 := Lib.hid hb7
      have HQG : Hid (q ≠ g) := by show q ≠ g; omega
      clear hV7 hq hq6 hb7 hgq
      go_loopw [89] (fun s89 wr => ∃ (i : Nat) (V : World), V = wr ∧ i ≤ 3 ∧ s89 = .int .i64 (i : Int) ∧ Ok wr g ∧ Ch g V7 wr) (fun s89 _ => 3 - (intOf s89).toNat)
      case atStart => exact ⟨0, _, rfl, by omega, rfl, HO6.out.bel HB7.out, Ch.rf⟩
      case round =>
        obtain ⟨i, V8, hV8, hi, rfl, hok, hch⟩ := hrel
        subst hV8
        have HO8 := Lib.hid hok
        have HC78 := Lib.hid hch
        have HC8 : Hid (Ch g V6 V8) := (Ch.of_bel HB7.out).tr hch
        clear hok
        rcases Nat.lt_or_ge i 3 with ilt | ige
        · have ii : (i : Int) < 3 := by omega
          obtain ⟨bd, hx⟩ := HQ7.out i ilt
          have cx := hch.kp hx HQG.out
          have HK8 := Lib.hid (HC8.out.bk HK6.out HGH.out)
          have c1 : V8.cell? ⟨h, 1, none⟩ = some (.slice A2 n2 c2) := HK8.out.cell 1
          have HZ8 := Lib.hid (HZ.out V8 HC8.out)
          clear hch hx
          go_upto_region 11 with fail
          clear cx
          have KS : Hid (∀ W', Bel V8 W' → W'.cell? ⟨h, 1, none⟩ = some (.slice A2 n2 c2)) := fun W' hb => hb.kp c1
          go_cut [99, 100, 101] (fun s99 s100 s101 wx => ∃ (q : Nat) (V : World), V = wx ∧ s99 = .slice (some ⟨q, 0, none⟩) 3 3 ∧ s100 = .int .i64 3 ∧ s101 = .int .i64 0 ∧ (∀ j, j < 3 → ∃ x, wx.cell? ⟨q, j, none⟩ = some (.int .i64 x)) ∧ Bel V8 wx)
          case first =>
            clear c1
            go_region_held3 (fun W' => W'.cell? ⟨h, 1, none⟩ = some (.slice A2 n2 c2)) (exact KS.out _ (by repeat (first | exact Bel.rf | (with_reducible refine Bel.drwN ?_ _) | (with_reducible refine Bel.drw ?_) | (with_reducible refine Bel.al ?_ _) | (refine Bel.tr ?_ (by assumption)))))
              (first | (go_at_call 8; refine (MC.out _).mono ?_; rintro e vm ⟨rfl, rfl⟩))
            all_goals
              go_wp2_with fail
              go_meet
              case rel =>
                refine ⟨_, _, rfl, rfl, rfl, rfl, fun j hj => ?_, (by repeat (first | exact Bel.rf | (with_reducible refine Bel.drwN ?_ _) | (with_reducible refine Bel.drw ?_) | (with_reducible refine Bel.al ?_ _) | (refine Bel.tr ?_ (by assumption))))⟩
                rcases (by omega : j = 0 ∨ j = 1 ∨ j = 2) with rfl | rfl | rfl
                all_goals exact ⟨_, (Bk.nw _ _ _).cell _⟩
          case rest =>
          obtain ⟨q2, V9, hV9, rfl, rfl, rfl, hq9, hb9⟩ := hcut
          subst hV9
          have HQ9 := Lib.hid hq9
          have HB9 := Lib.hid hb9
          clear hq9 hb9 c1 KS
          go_wp2_with fail
          go_loopw [101] (fun s101 wr => ∃ (t : Nat) (V : World), V = wr ∧ t ≤ 3 ∧ s101 = .int .i64 (t : Int) ∧ Bel V9 wr) (fun s101 _ => 3 - (intOf s101).toNat)
          case atStart => exact ⟨0, _, rfl, by omega, rfl, Bel.rf⟩
          case round =>
            obtain ⟨t, V10, hV10, ht, rfl, hb10⟩ := hrel
            subst hV10
            have HB10 := Lib.hid hb10
            have HB810 : Hid (Bel V8 V10) := HB9.out.tr hb10
            rcases Nat.lt_or_ge t 3 with tlt | tge
            · have tt : (t : Int) < 3 := by omega
              obtain ⟨cn, hx⟩ := HQ9.out t tlt
              have cx := hb10.kp hx
              obtain ⟨E, N, U, Lo, hN1, hp1, hp2⟩ := both_of A1 c1 n1 L1 bd cn (by have := HN.out; omega)
              have P1 : Hid (∀ W, Bel V10 W → _) := fun W hb => hp1 W (HZ8.out.1.bel (HB810.out.tr hb))
              have P2 : Hid (∀ W, Bel V10 W → _) := fun W hb => hp2 W (HZ8.out.1.bel (HB810.out.tr hb))
              have HN1 := Lib.hid hN1
              have z0 : V10.cell? ⟨h, 0, none⟩ = some (.slice A1 n1 c1) := (HK8.out.bel HB810.out).cell 0
              have ke := ne_self E
              clear hb10 hx hp1 hp2 hN1
              go_wp2_with fail
              go_at_call 9
              refine (P1.out _ (by repeat (first | exact Bel.rf | (with_reducible refine Bel.drwN ?_ _) | (with_reducible refine Bel.drw ?_) | (with_reducible refine Bel.al ?_ _) | (refine Bel.tr ?_ (by assumption))))).mono ?_
              rintro e W1 ⟨Au, cu, Al, cl, rfl, y1, y2, hb1⟩
              have B1 : Bel V10 W1 := (by repeat (first | exact Bel.rf | (with_reducible refine Bel.drwN ?_ _) | (with_reducible refine Bel.drw ?_) | (with_reducible refine Bel.al ?_ _) | (refine Bel.tr ?_ (by assumption))))
              have z1 := B1.kp z0
              have HB1 := Lib.hid B1
              have HY1 := Lib.hid (And.intro y1 y2)
              clear z0 cx hb1 B1 y1 y2
              go_wp2_with fail
              go_at_call 10
              refine (P2.out _ (HB1.out.tr (by repeat (first | exact Bel.rf | (with_reducible refine Bel.drwN ?_ _) | (with_reducible refine Bel.drw ?_) | (with_reducible refine Bel.al ?_ _) | (refine Bel.tr ?_ (by assumption)))))).mono ?_
              rintro e W2 ⟨Bu, du, Bl, dl, rfl, y3, y4, hb2⟩
              have B2 : Bel W1 W2 := (by repeat (first | exact Bel.rf | (with_reducible refine Bel.drwN ?_ _) | (with_reducible refine Bel.drw ?_) | (with_reducible refine Bel.al ?_ _) | (refine Bel.tr ?_ (by assumption))))
              have HB2 := Lib.hid (HB1.out.tr B2)
              have HY2 := Lib.hid (And.intro y3 y4)
              have HY12 := Lib.hid (And.intro (HY1.out.1.bel B2) (HY1.out.2.bel B2))
              clear z1 hb2 B2 y3 y4 HY1
              go_wp2_with fail
              go_at_call 11
              refine (ints_same Au Bu cu du N U (by have := HN1.out; omega) _ (HY12.out.1.bel (by repeat (first | exact Bel.rf | (with_reducible refine Bel.drwN ?_ _) | (with_reducible refine Bel.drw ?_) | (with_reducible refine Bel.al ?_ _) | (refine Bel.tr ?_ (by assumption))))) (HY2.out.1.bel (by repeat (first | exact Bel.rf | (with_reducible refine Bel.drwN ?_ _) | (with_reducible refine Bel.drw ?_) | (with_reducible refine Bel.al ?_ _) | (refine Bel.tr ?_ (by assumption)))))).mono ?_
              rintro e W3 ⟨rfl, hb3⟩
              have B3 : Bel W2 W3 := (by repeat (first | exact Bel.rf | (with_reducible refine Bel.drwN ?_ _) | (with_reducible refine Bel.drw ?_) | (with_reducible refine Bel.al ?_ _) | (refine Bel.tr ?_ (by assumption))))
              have HB3 := Lib.hid (HB2.out.tr B3)
              have HY3 := Lib.hid (And.intro (HY12.out.2.bel B3) (HY2.out.2.bel B3))
              clear hb3 B3 HY12 HY2
              go_wp2_with fail
              go_at_call 11
              refine (ints_same Al Bl cl dl N Lo (by have := HN1.out; omega) _ (HY3.out.1.bel (by repeat (first | exact Bel.rf | (with_reducible refine Bel.drwN ?_ _) | (with_reducible refine Bel.drw ?_) | (with_reducible refine Bel.al ?_ _) | (refine Bel.tr ?_ (by assumption))))) (HY3.out.2.bel (by repeat (first | exact Bel.rf | (with_reducible refine Bel.drwN ?_ _) | (with_reducible refine Bel.drw ?_) | (with_reducible refine Bel.al ?_ _) | (refine Bel.tr ?_ (by assumption)))))).mono ?_
              rintro e W4 ⟨rfl, hb4⟩
              have HB4 : Hid (Bel V9 W4) := (HB10.out.tr HB3.out).tr (by repeat (first | exact Bel.rf | (with_reducible refine Bel.drwN ?_ _) | (with_reducible refine Bel.drw ?_) | (with_reducible refine Bel.al ?_ _) | (refine Bel.tr ?_ (by assumption))))
              clear hb4
              go_wp2
              go_roundw
              case rel => exact ⟨t + 1, _, rfl, by omega, by go_num, by first | exact HB4.out | exact HB4.out.drwN _ | exact HB4.out.drw⟩
              case measure => simp [intOf]; omega
            · have ht3 : t = 3 := by omega
              subst ht3
              obtain ⟨D1, E1, p1, p2⟩ := both_keogh A1 A2 c1 c2 n1 n2 L1 L2 bd (by have := HN.out; omega) (by have := HN.out; omega)
              obtain ⟨D2, E2, p3, p4⟩ := both_improved A1 A2 c1 c2 n1 n2 L1 L2 bd (by have := HN.out; omega) (by have := HN.out; omega)
              have P1 : Hid (∀ W, Bel V10 W → _) := fun W hb => p1 W (HZ8.out.1.bel (HB810.out.tr hb)) (HZ8.out.2.bel (HB810.out.tr hb))
              have P2 : Hid (∀ W, Bel V10 W → _) := fun W hb => p2 W (HZ8.out.1.bel (HB810.out.tr hb)) (HZ8.out.2.bel (HB810.out.tr hb))
              have P3 : Hid (∀ W, Bel V10 W → _) := fun W hb => p3 W (HZ8.out.1.bel (HB810.out.tr hb)) (HZ8.out.2.bel (HB810.out.tr hb))
              have P4 : Hid (∀ W, Bel V10 W → _) := fun W hb => p4 W (HZ8.out.1.bel (HB810.out.tr hb)) (HZ8.out.2.bel (HB810.out.tr hb))
              have z0 : V10.cell? ⟨h, 0, none⟩ = some (.slice A1 n1 c1) := (HK8.out.bel HB810.out).cell 0
              have z1 : V10.cell? ⟨h, 1, none⟩ = some (.slice A2 n2 c2) := (HK8.out.bel HB810.out).cell 1
              clear hb10 p1 p2 p3 p4 HQ9 HB10
              go_wp2_with fail
              go_at_call 12
              refine (P1.out _ ((by repeat (first | exact Bel.rf | (with_reducible refine Bel.drwN ?_ _) | (with_reducible refine Bel.drw ?_) | (with_reducible refine Bel.al ?_ _) | (refine Bel.tr ?_ (by assumption)))))).mono ?_
              rintro e W1 ⟨rfl, hb21⟩
              have B1 : Bel V10 W1 := (by repeat (first | exact Bel.rf | (with_reducible refine Bel.drwN ?_ _) | (with_reducible refine Bel.drw ?_) | (with_reducible refine Bel.al ?_ _) | (refine Bel.tr ?_ (by assumption))))
              have y0 := B1.kp z0
              have y1 := B1.kp z1
              have HB11 := Lib.hid (B1)
              clear z0 z1 hb21 B1
              go_wp2_with fail
              go_at_call 13
              refine (P2.out _ (HB11.out.tr (by repeat (first | exact Bel.rf | (with_reducible refine Bel.drwN ?_ _) | (with_reducible refine Bel.drw ?_) | (with_reducible refine Bel.al ?_ _) | (refine Bel.tr ?_ (by assumption)))))).mono ?_
              rintro e W2 ⟨rfl, hb22⟩
              have B2 : Bel W1 W2 := (by repeat (first | exact Bel.rf | (with_reducible refine Bel.drwN ?_ _) | (with_reducible refine Bel.drw ?_) | (with_reducible refine Bel.al ?_ _) | (refine Bel.tr ?_ (by assumption))))
              have z0 := B2.kp y0
              have z1 := B2.kp y1
              have HB12 := Lib.hid (HB11.out.tr B2)
              clear y0 y1 hb22 B2
              go_wp2_with fail
              go_at_call 14
              refine (P3.out _ (HB12.out.tr (by repeat (first | exact Bel.rf | (with_reducible refine Bel.drwN ?_ _) | (with_reducible refine Bel.drw ?_) | (with_reducible refine Bel.al ?_ _) | (refine Bel.tr ?_ (by assumption)))))).mono ?_
              rintro e W3 ⟨rfl, hb23⟩
              have B3 : Bel W2 W3 := (by repeat (first | exact Bel.rf | (with_reducible refine Bel.drwN ?_ _) | (with_reducible refine Bel.drw ?_) | (with_reducible refine Bel.al ?_ _) | (refine Bel.tr ?_ (by assumption))))
              have y0 := B3.kp z0
              have y1 := B3.kp z1
              have HB13 := Lib.hid (HB12.out.tr B3)
              clear z0 z1 hb23 B3
              go_wp2_with fail
              go_at_call 15
              refine (P4.out _ (HB13.out.tr (by repeat (first | exact Bel.rf | (with_reducible refine Bel.drwN ?_ _) | (with_reducible refine Bel.drw ?_) | (with_reducible refine Bel.al ?_ _) | (refine Bel.tr ?_ (by assumption)))))).mono ?_
              rintro e W4 ⟨rfl, hb24⟩
              have B4 : Bel W3 W4 := (by repeat (first | exact Bel.rf | (with_reducible refine Bel.drwN ?_ _) | (with_reducible refine Bel.drw ?_) | (with_reducible refine Bel.al ?_ _) | (refine Bel.tr ?_ (by assumption))))
              have z0 := B4.kp y0
              have z1 := B4.kp y1
              have HB14 := Lib.hid (HB13.out.tr B4)
              clear y0 y1 hb24 B4
              have kd1 := ne_self D1
              have ke1 := ne_self E1
              have kd2 := ne_self D2
              have ke2 := ne_self E2
              have C11 : Hid (Ch g V8 W4) := Ch.of_bel (HB810.out.tr HB14.out)
              have O11 : Hid (Ok W4 g) := HO8.out.bel (HB810.out.tr HB14.out)
              clear z0 z1 P1 P2 P3 P4 HB11 HB12 HB13
              go_wp2_with fail
              clear kd1 ke1 kd2 ke2
              go_at_call 16
              refine (range_any g 0 9 (by decide) (by decide) (by decide) _ (O11.out.bel (by repeat (first | exact Bel.rf | (with_reducible refine Bel.drwN ?_ _) | (with_reducible refine Bel.drw ?_) | (with_reducible refine Bel.al ?_ _) | (refine Bel.tr ?_ (by assumption)))))).mono ?_
              rintro e W5 ⟨rg, rfl, _, _, oy5, cy5⟩
              have C12 : Hid (Ch g V8 W5) := (C11.out.tr (Ch.of_bel (by repeat (first | exact Bel.rf | (with_reducible refine Bel.drwN ?_ _) | (with_reducible refine Bel.drw ?_) | (with_reducible refine Bel.al ?_ _) | (refine Bel.tr ?_ (by assumption)))))).tr cy5
              have O12 := Lib.hid oy5
              clear oy5 cy5
              go_wp2_with fail
              have hq12 : ∀ j, j < 2 → ∃ x, (W5.alloc (.cells #[.int .i64 a4, .int .i64 rg] 3)).cell? ⟨W5.heap.size, j, none⟩ = some (.int .i64 x) := fun j hj => by
                have hB : Bk (W5.alloc (.cells #[.int .i64 a4, .int .i64 rg] 3)) W5.heap.size 3 #[.int .i64 a4, .int .i64 rg] := Bk.nw _ _ _
                rcases (by omega : j = 0 ∨ j = 1) with rfl | rfl
                all_goals exact ⟨_, hB.cell _⟩
              have C13 : Hid (Ok (W5.alloc (.cells #[.int .i64 a4, .int .i64 rg] 3)) g ∧ Ch g V8 (W5.alloc (.cells #[.int .i64 a4, .int .i64 rg] 3))) := ⟨O12.out.bel (Bel.rf.al _), C12.out.al _⟩
              obtain ⟨V11, hV11⟩ : ∃ x, (W5.alloc (.cells #[.int .i64 a4, .int .i64 rg] 3)) = x := ⟨_, rfl⟩
              obtain ⟨u, hu⟩ : ∃ x, W5.heap.size = x := ⟨_, rfl⟩
              rw [hV11] at hq12 C13
              rw [hu] at hq12 ⊢
              rw [hV11]
              have HQ12 := Lib.hid hq12
              have HK11 := Lib.hid (C13.out.2.bk HK8.out HGH.out)
              have HZ11 := Lib.hid (HZ.out V11 (HC8.out.tr C13.out.2))
              clear hV11 hu hq12 C11 O11 C12 O12 HB14
              go_loopw [198] (fun s198 wr => ∃ (t : Nat) (V : World), V = wr ∧ t ≤ 2 ∧ s198 = .int .i64 (t : Int) ∧ Bel V11 wr) (fun s198 _ => 2 - (intOf s198).toNat)
              case atStart => exact ⟨0, _, rfl, by omega, rfl, Bel.rf⟩
              case round =>
                obtain ⟨t, V12, hV12, ht, rfl, hb12⟩ := hrel
                subst hV12
                have HB12 := Lib.hid hb12
                rcases Nat.lt_or_ge t 2 with tlt | tge
                · have tt : (t : Int) < 2 := by omega
                  obtain ⟨pn, hx⟩ := HQ12.out t tlt
                  have cx := hb12.kp hx
                  obtain ⟨E3, K3, d3, p5, p6⟩ := both_epieces A1 A2 c1 c2 n1 n2 L1 L2 bd pn (by have := HN.out; omega) (by have := HN.out; omega) HN.out.2.2
                  have P5 : Hid (∀ W, Bel V12 W → _) := fun W hb => p5 W (HZ11.out.1.bel (HB12.out.tr hb)) (HZ11.out.2.bel (HB12.out.tr hb))
                  have P6 : Hid (∀ W, Bel V12 W → _) := fun W hb => p6 W (HZ11.out.1.bel (HB12.out.tr hb)) (HZ11.out.2.bel (HB12.out.tr hb))
                  have HD3 := Lib.hid d3
                  have z0 : V12.cell? ⟨h, 0, none⟩ = some (.slice A1 n1 c1) := (HK11.out.bel hb12).cell 0
                  have z1 : V12.cell? ⟨h, 1, none⟩ = some (.slice A2 n2 c2) := (HK11.out.bel hb12).cell 1
                  clear hb12 hx p5 p6 d3
                  go_wp2_with fail
                  go_at_call 17
                  refine (P5.out _ (by repeat (first | exact Bel.rf | (with_reducible refine Bel.drwN ?_ _) | (with_reducible refine Bel.drw ?_) | (with_reducible refine Bel.al ?_ _) | (refine Bel.tr ?_ (by assumption))))).mono ?_
                  rintro e W6 ⟨X3, Y3, rfl, hk3, hb6⟩
                  have B6 : Bel V12 W6 := (by repeat (first | exact Bel.rf | (with_reducible refine Bel.drwN ?_ _) | (with_reducible refine Bel.drw ?_) | (with_reducible refine Bel.al ?_ _) | (refine Bel.tr ?_ (by assumption))))
                  have HB6 := Lib.hid B6
                  have o6 : ∀ o, (W6.alloc o).cell? ⟨h, 0, none⟩ = some (.slice A1 n1 c1) := fun o => kp_al (B6.kp z0) o
                  have q6 : ∀ o, (W6.alloc o).cell? ⟨h, 1, none⟩ = some (.slice A2 n2 c2) := fun o => kp_al (B6.kp z1) o
                  have HK3 := Lib.hid hk3
                  clear z0 z1 cx hb6 B6 hk3
                  go_wp2_with fail
                  go_at_call 18
                  refine (P6.out _ (HB6.out.tr (by repeat (first | exact Bel.rf | (with_reducible refine Bel.drwN ?_ _) | (with_reducible refine Bel.drw ?_) | (with_reducible refine Bel.al ?_ _) | (refine Bel.tr ?_ (by assumption)))))).mono ?_
                  rintro e W7 ⟨X4, Y4, rfl, hk4, hb7⟩
                  obtain ⟨rfl, rfl⟩ := HD3.out _ _ _ _ HK3.out hk4
                  have P7 : Bk W7 W6.heap.size 39 #[.int .i64 X3, .int .i64 Y3] := (Bk.nw W6 _ _).bel hb7
                  have B7 : Bel W6 W7 := (by repeat (first | exact Bel.rf | (with_reducible refine Bel.drwN ?_ _) | (with_reducible refine Bel.drw ?_) | (with_reducible refine Bel.al ?_ _) | (refine Bel.tr ?_ (by assumption))))
                  have s0 : ∀ o, (W7.alloc o).cell? ⟨W6.heap.size, 0, none⟩ = some (.int .i64 X3) := fun o => kp_al (P7.cell 0) o
                  have s1 : ∀ o, (W7.alloc o).cell? ⟨W6.heap.size, 1, none⟩ = some (.int .i64 Y3) := fun o => kp_al (P7.cell 1) o
                  have HB13 : Hid (Bel V11 W7) := HB12.out.tr (HB6.out.tr B7)
                  have ke3 := ne_self E3
                  have kx3 := ne_self X3
                  have ky3 := ne_self Y3
                  clear o6 q6 hb7 B7 hk4 P7 HK3 P5 P6 HB6
                  go_wp2_with fail
                  go_roundw
                  case rel => exact ⟨t + 1, _, rfl, by omega, by go_num, HB13.out.tr (by repeat (first | exact Bel.rf | (with_reducible refine Bel.drwN ?_ _) | (with_reducible refine Bel.drw ?_) | (with_reducible refine Bel.al ?_ _) | (refine Bel.tr ?_ (by assumption))))⟩
                  case measure => simp [intOf]; omega
                · have ht2 : t = 2 := by omega
                  subst ht2
                  have HF : Hid (Ok V12 g ∧ Ch g V7 V12) := ⟨C13.out.1.bel hb12, HC78.out.tr (C13.out.2.tr (Ch.of_bel hb12))⟩
                  clear hb12 HB12 HQ12
                  go_wp2
                  go_roundw
                  case rel => exact ⟨i + 1, _, rfl, by omega, by go_num, HF.out.1.bel (by repeat (first | exact Bel.rf | (with_reducible refine Bel.drwN ?_ _) | (with_reducible refine Bel.drw ?_) | (with_reducible refine Bel.al ?_ _) | (refine Bel.tr ?_ (by assumption)))), HF.out.2.tr (Ch.of_bel (by repeat (first | exact Bel.rf | (with_reducible refine Bel.drwN ?_ _) | (with_reducible refine Bel.drw ?_) | (with_reducible refine Bel.al ?_ _) | (refine Bel.tr ?_ (by assumption)))))⟩
                  case measure => simp [intOf]; omega
        · have hi3 : i = 3 := by omega
          subst hi3
          have HF : Hid (Lrow g V8 B 8 ∧ Ok V8 g ∧ Ch g v2 V8) := ⟨HR6.out.ch HC8.out, HO8.out, HC6.out.tr HC8.out⟩
          clear hch
          go_wp2
          go_roundw
          case rel => exact ⟨k + 1, _, rfl, by omega, by go_num, HF.out.1.bel (by repeat (first | exact Bel.rf | (with_reducible refine Bel.drwN ?_ _) | (with_reducible refine Bel.drw ?_) | (with_reducible refine Bel.al ?_ _) | (refine Bel.tr ?_ (by assumption)))), HF.out.2.1.bel (by repeat (first | exact Bel.rf | (with_reducible refine Bel.drwN ?_ _) | (with_reducible refine Bel.drw ?_) | (with_reducible refine Bel.al ?_ _) | (refine Bel.tr ?_ (by assumption)))), HF.out.2.2.tr (Ch.of_bel (by repeat (first | exact Bel.rf | (with_reducible refine Bel.drwN ?_ _) | (with_reducible refine Bel.drw ?_) | (with_reducible refine Bel.al ?_ _) | (refine Bel.tr ?_ (by assumption)))))⟩
          case measure => simp [intOf]; omega
    · have hk4 : k = 4 := by omega
      subst hk4
      go_wp2_with (go_at_call 4; refine (AW.out _).mono ?_; rintro e w9 ⟨rfl, hb9⟩)
      go_ret
      exact ⟨rfl, ((Bel.ch HBW.out HC5.out (Nat.le_trans hg (Nat.le_refl _))).tr (Bel.tr (by repeat (first | exact Bel.rf | (with_reducible refine Bel.drwN ?_ _) | (with_reducible refine Bel.drw ?_) | (with_reducible refine Bel.al ?_ _) | (refine Bel.tr ?_ (by assumption)))) hb9)).bl⟩

set_option maxRecDepth 100000 in
theorem lifted (os : Os) (started : os.Started) (H : Type) (enc : TypeId × Value → H) :
    ReturnsInHanded {} Try.checked os 3 .any (Rows.envelopeAnswersSpec.pre6 enc Try.prog Try.f3 Rows.envelopeAnswersRow.domain false) (Rows.envelopeAnswersSpec.post enc Try.prog Try.f3 false true false false) := by
  refine returnsInHanded_of_change (C := Try.checked) own started (by kernel_rfl) Try.func3
    (ChangeSpec.witness6 (enc := enc) (C := Try.checked) false ⟨#[], #[.slice none 0 0, .slice none 0 0, .int .i64 0, .int .i64 0, .int .i64 0, .slice none 0 0], []⟩ 8 (by kernel_rfl) (by kernel_rfl) (by kernel_rfl) (by kernel_rfl)) ?_
  intro W base args ds gs before hval0 hW hcnd _
  have hval : ∀ (j : Nat) t v, Try.f3.params[j]? = some t → args[j]? = some v → Value.okWide Try.prog W .any base t v := hval0
  have hW' := hW
  obtain ⟨p, q, hA0, hV, rfl, hfz, hnd⟩ := hW
  have hA : DataW.TrodAll enc Try.prog W 0 (fun _ => true) true Try.f3.params.toList args.toList ds p := hA0
  rw [Try.params3] at hA hval
  obtain ⟨v0, vs0, d0, ds0, p0, q0, hargs, rfl, rfl, h0, r0⟩ := trodAll_cons hA
  obtain ⟨v1, vs1, d1, ds1, p1, q1, rfl, rfl, rfl, h1, r1⟩ := trodAll_cons r0
  obtain ⟨v2, vs2, d2, ds2, p2, q2, rfl, rfl, rfl, h2, r2⟩ := trodAll_cons r1
  obtain ⟨v3, vs3, d3, ds3, p3, q3, rfl, rfl, rfl, h3, r3⟩ := trodAll_cons r2
  obtain ⟨v4, vs4, d4, ds4, p4, q4, rfl, rfl, rfl, h4, r4⟩ := trodAll_cons r3
  obtain ⟨v5, vs5, d5, ds5, p5, q5, rfl, rfl, rfl, h5, r5⟩ := trodAll_cons r4
  obtain ⟨rfl, rfl, rfl⟩ := trodAll_nil r5
  obtain rfl : args = #[v0, v1, v2, v3, v4, v5] := by cases args; simp_all
  obtain ⟨rfl, rfl⟩ := trodVars_none hV
  obtain ⟨a0, len0, cap0, rfl⟩ := okWide_slice Try.underlying22 (hval 0 22 v0 rfl rfl)
  have k0 := h0
  have lt0 : ∀ x ∈ p0, x.block < W.heap.size := by obtain ⟨m, hm⟩ := k0; exact DataW.trod_lt m _ _ _ hm
  obtain ⟨z0, w0⟩ : ∃ zs, IsRow .i64 W a0 len0 cap0 zs := by
    obtain ⟨fuel, hf⟩ := h0
    rcases open_ints Try.underlying22 Try.underlying3 (by kernel_rfl) hf with ⟨hcs, _⟩ | ⟨x, l, c, zs, hcs, _, hl, hm, hz, _, hcell, hwz⟩
    · simp [Value.cells] at hcs
      obtain ⟨rfl, rfl, rfl⟩ := hcs
      exact ⟨[], .inl ⟨rfl, rfl, rfl, rfl⟩⟩
    · simp [Value.cells] at hcs
      obtain ⟨rfl, rfl, rfl⟩ := hcs
      exact ⟨zs, .inr ⟨_, rfl, hl, hm, by simpa using hz, hcell, hwz⟩⟩
  obtain ⟨a1, len1, cap1, rfl⟩ := okWide_slice Try.underlying22 (hval 1 22 v1 rfl rfl)
  have k1 := h1
  have lt1 : ∀ x ∈ p1, x.block < W.heap.size := by obtain ⟨m, hm⟩ := k1; exact DataW.trod_lt m _ _ _ hm
  obtain ⟨z1, w1⟩ : ∃ zs, IsRow .i64 W a1 len1 cap1 zs := by
    obtain ⟨fuel, hf⟩ := h1
    rcases open_ints Try.underlying22 Try.underlying3 (by kernel_rfl) hf with ⟨hcs, _⟩ | ⟨x, l, c, zs, hcs, _, hl, hm, hz, _, hcell, hwz⟩
    · simp [Value.cells] at hcs
      obtain ⟨rfl, rfl, rfl⟩ := hcs
      exact ⟨[], .inl ⟨rfl, rfl, rfl, rfl⟩⟩
    · simp [Value.cells] at hcs
      obtain ⟨rfl, rfl, rfl⟩ := hcs
      exact ⟨zs, .inr ⟨_, rfl, hl, hm, by simpa using hz, hcell, hwz⟩⟩
  obtain ⟨a2, rfl, rfl, rfl, w2⟩ := open_int Try.underlying3 (hval 2 3 v2 rfl rfl) h2
  obtain ⟨a3, rfl, rfl, rfl, w3⟩ := open_int Try.underlying3 (hval 3 3 v3 rfl rfl) h3
  obtain ⟨a4, rfl, rfl, rfl, w4⟩ := open_int Try.underlying3 (hval 4 3 v4 rfl rfl) h4
  obtain ⟨a5, len5, cap5, rfl⟩ := okWide_slice Try.underlying22 (hval 5 22 v5 rfl rfl)
  have k5 := h5
  have lt5 : ∀ x ∈ p5, x.block < W.heap.size := by obtain ⟨m, hm⟩ := k5; exact DataW.trod_lt m _ _ _ hm
  obtain ⟨z5, w5⟩ : ∃ zs, IsRow .i64 W a5 len5 cap5 zs := by
    obtain ⟨fuel, hf⟩ := h5
    rcases open_ints Try.underlying22 Try.underlying3 (by kernel_rfl) hf with ⟨hcs, _⟩ | ⟨x, l, c, zs, hcs, _, hl, hm, hz, _, hcell, hwz⟩
    · simp [Value.cells] at hcs
      obtain ⟨rfl, rfl, rfl⟩ := hcs
      exact ⟨[], .inl ⟨rfl, rfl, rfl, rfl⟩⟩
    · simp [Value.cells] at hcs
      obtain ⟨rfl, rfl, rfl⟩ := hcs
      exact ⟨zs, .inr ⟨_, rfl, hl, hm, by simpa using hz, hcell, hwz⟩⟩
  clear hA0 hval0
  refine (walk a0 len0 cap0 z0 a1 len1 cap1 z1 a2 a3 a4 a5 len5 cap5 z5 W w0 w1 w2 w3 w4 w5).mono fun e W' ⟨he, bel⟩ => ?_
  subst he
  exact ⟨_, rfl, _, _, _, [], _, [], hW', trodAll_mk1 (shut_bool Try.underlying4 _), (trodAll_cons_mk (Below.trod laidOut (by kernel_rfl) (of_decide_eq_true (by kernel_rfl)) k0 bel lt0) (trodAll_cons_mk (Below.trod laidOut (by kernel_rfl) (of_decide_eq_true (by kernel_rfl)) k1 bel lt1) (trodAll_cons_mk (shut_int Try.underlying3 w2) (trodAll_cons_mk (shut_int Try.underlying3 w3) (trodAll_cons_mk (shut_int Try.underlying3 w4) (trodAll_cons_mk (Below.trod laidOut (by kernel_rfl) (of_decide_eq_true (by kernel_rfl)) k5 bel lt5) trodAll_mk0)))))), rfl, bel.frame _, fun h => by cases h⟩

theorem over : Rows.envelopeAnswersRow.holds Try.pinned (OpenSpec.ofChange Rows.envelopeAnswersSpec) :=
  OpenClaim.holds_of_wide 3 Try.f3 rfl rfl rfl rfl rfl rfl rfl ⟨rfl, rfl, rfl, rfl, rfl⟩ rfl rfl rfl rfl rfl (by kernel_rfl) Try.func3 (by kernel_rfl)
    (of_decide_eq_true (by kernel_rfl)) (by unfold Func.isWrapper; first | (rw [if_pos (by decide +kernel)]; kernel_rfl) | (rw [if_neg (by decide +kernel)]; exact ⟨rfl, rfl⟩))
    (fun os started H enc _ => lifted os started H enc)

theorem proved : Rows.EnvelopeAnswersSaid := over
end Go.Proofs.Ytkonknkoggfeaaa.envelopeAnswers
