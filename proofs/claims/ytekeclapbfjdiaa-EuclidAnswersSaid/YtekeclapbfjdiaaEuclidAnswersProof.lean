/- That the law EuclidAnswers returns true for every input that can be read, and leaves its arguments as they were; no further condition. -/
import Derived.Test.YtekeclapbfjdiaaRows
import Derived.WalkKit
import Derived.ProofKit
import Derived.OpenShut
import Derived.Test.YtekeclapbfjdiaaWords
import Derived.Test.YtekeclapbfjdiaaSrcNew0
import Derived.Test.YtekeclapbfjdiaaSrcLen
import Derived.Test.YtekeclapbfjdiaaNear
import Derived.Test.YtekeclapbfjdiaaEuT
import Derived.ShutString
import Derived.ChangeOld
import Derived.Below
namespace Go.Proofs.Ytekeclapbfjdiaa.euclidAnswers
open Go.ChangeShapes Go.WideShapes Go.ChangeAt Go.RowKit Wo
open Go.ChangeMaps (open_string shut_string)
set_option linter.unusedVariables false

theorem own : ownKnob Try.prog.godebug = none := by kernel_rfl
theorem laidOut : laidOutB Try.prog = true := by kernel_rfl

/-- WHAT THE WALK IS TOLD OF A SLICE OF INTEGERS THAT CAME IN: it is nil; or it leads to a row of 'cap' cells, the numbers 'zs' (the first 'len' are its elements, the rest its spare room), each fitting its kind. -/
def IsRow (k : IntKind) (w : World) (a : Option Addr) (len cap : Nat) (zs : List Int) : Prop :=
  (a = none ∧ len = 0 ∧ cap = 0 ∧ zs = []) ∨
  ∃ x, a = some x ∧ len ≤ cap ∧ cap ≤ maxLen ∧ zs.length = cap ∧ (∀ i, i < zs.length → w.cell? (x.add i) = some (.int k (zs.getD i 0))) ∧ ∀ n ∈ zs, (Lit.int k n).wf = true

open Go.Proofs.Ytekeclapbfjdiaa.Eu Go.Proofs.Ytekeclapbfjdiaa.Wi Go.Proofs.Ytekeclapbfjdiaa.Wo Go.Proofs.Ytekeclapbfjdiaa.Sr Go.Proofs.Ytekeclapbfjdiaa.Ra Go.Proofs.Ytekeclapbfjdiaa.Say in
set_option maxHeartbeats 16000000 in
set_option maxRecDepth 100000 in
theorem walk (a0 : Option Addr) (len0 cap0 : Nat) (z0 : List Int) (a1 : Option Addr) (len1 cap1 : Nat) (z1 : List Int) (a2 : Int) (a3 : Option Addr) (len3 cap3 : Nat) (z3 : List Int) (w : World) (w0 : IsRow .i64 w a0 len0 cap0 z0) (w1 : IsRow .i64 w a1 len1 cap1 z1) (w2 : (Lit.int .i64 a2).wf = true) (w3 : IsRow .i64 w a3 len3 cap3 z3) :
    Calls Try.prog 3 #[.slice a0 len0 cap0, .slice a1 len1 cap1, .int .i64 a2, .slice a3 len3 cap3] w fun e w' => e = .returned (.bool true) ∧ Below w.heap.size w w' := by
  have AW : Hid (∀ W, Calls Try.prog 5 #[] W fun e w' => e = .returned (.bool true) ∧ Bel W w') := awake_any
  rcases Nat.lt_or_ge 200 len0 with k0 | k0
  · have e0 : (200 : Int) < (len0 : Int) := by omega
    have e1 : decide ((200 : Int) < (len0 : Int)) = true := decide_eq_true e0
    go_enter Try.func3, Try.ntmps3
    go_wp2_with (go_at_call 5; refine (AW.out _).mono ?_; rintro e w9 ⟨rfl, hb9⟩)
    go_ret
    exact ⟨rfl, hb9.bl⟩
  have e0 : ¬ (200 : Int) < (len0 : Int) := by omega
  have e1 : decide ((200 : Int) < (len0 : Int)) = false := decide_eq_false e0
  rcases Nat.lt_or_ge 200 len1 with k1 | k1
  · have e2 : (200 : Int) < (len1 : Int) := by omega
    have e3 : decide ((200 : Int) < (len1 : Int)) = true := decide_eq_true e2
    go_enter Try.func3, Try.ntmps3
    go_wp2_with (go_at_call 5; refine (AW.out _).mono ?_; rintro e w9 ⟨rfl, hb9⟩)
    go_ret
    exact ⟨rfl, hb9.bl⟩
  have e2 : ¬ (200 : Int) < (len1 : Int) := by omega
  have e3 : decide ((200 : Int) < (len1 : Int)) = false := decide_eq_false e2
  obtain ⟨hza, hca, hba⟩ := arg_zi w0
  obtain ⟨hzb, hcb, hbb⟩ := arg_zi w1
  have HA := Lib.hid (And.intro hza (And.intro hca hba))
  have HB := Lib.hid (And.intro hzb (And.intro hcb hbb))
  have K0 := Lib.hid k0
  have K1 := Lib.hid k1
  clear hza hca hba hzb hcb hbb w0 w1 w2 k0 k1
  go_enter Try.func3, Try.ntmps3
  go_wp2_with fail
  go_at_call 6
  refine (new_any a3 len3 cap3 z3 w w3).mono ?_
  rintro e v1 ⟨g, rfl, hg, ho1, hb1⟩
  have HO1 := Lib.hid ho1
  have HB1 := Lib.hid hb1
  have LA : Hid (Ls g v1 (.slice a0 len0 cap0)) := ⟨_, _, _, _, rfl, HA.out.2.1, by have := K0.out; omega, HA.out.1.bel hb1, fun ad e h0 => by have := HA.out.2.2 ad e h0; omega⟩
  have LB : Hid (Ls g v1 (.slice a1 len1 cap1)) := ⟨_, _, _, _, rfl, HB.out.2.1, by have := K1.out; omega, HB.out.1.bel hb1, fun ad e h0 => by have := HB.out.2.2 ad e h0; omega⟩
  clear ho1 hb1 w3 HA HB K0 K1 e0 e1 e2 e3
  go_wp2_with fail
  go_at_call 7
  refine (pair_any g _ HO1.out).mono ?_
  rintro e v2 ⟨xa, xb, ya, yb, n, L, M, rfl, n1, n2, hxy, hox, hoy, lL, lM, sL, sM, ho2, hc2⟩
  obtain ⟨xa', xb', hxe, hxc, hxg⟩ := row_form hox (by omega)
  obtain ⟨ya', yb', hye, hyc, hyg⟩ := row_form hoy (by omega)
  cases hxe
  cases hye
  have hgv := HO1.out.lt
  have HO2 := Lib.hid ho2
  have HC2 := Lib.hid hc2
  have ZX2 := Lib.hid (own_zi hox lL)
  have ZY2 := Lib.hid (own_zi hoy lM)
  have NX : Hid (∀ ad, some (⟨xa, 0, none⟩ : Addr) = some ad → 0 < n → ad.block ≠ g) := fun ad e _ => by cases e; show xa ≠ g; omega
  have NY : Hid (∀ ad, some (⟨ya, 0, none⟩ : Addr) = some ad → 0 < n → ad.block ≠ g) := fun ad e _ => by cases e; show ya ≠ g; omega
  have SX := Lib.hid sL
  have SY := Lib.hid sM
  have NN := Lib.hid (And.intro n1 (And.intro n2 (And.intro hxc hyc)))
  clear ho2 hc2 hox hoy lL lM sL sM hxy hxg hyg
  go_wp2_with fail
  go_at_call 9
  refine (n_any g 40 (by decide) (by decide) _ HO2.out).mono ?_
  rintro e v3 ⟨T0, rfl, t0, t1, ho3, hc3⟩
  obtain ⟨T, rfl⟩ := Int.eq_ofNat_of_zero_le t0
  have HT : Hid (T ≤ 39) := by show T ≤ 39; omega
  have HO3 := Lib.hid ho3
  have HC3 : Hid (Ch g v1 v3) := HC2.out.tr hc3
  have HC23 := Lib.hid hc3
  clear ho3 hc3 t0 t1
  go_wp2_with fail
  go_at_call 8
  refine (list_any g T (by have := HT.out; omega) _ HO3.out).mono ?_
  rintro e v4 ⟨v, Z, rfl, hown, hL, hS, ho4, hc4⟩
  obtain ⟨az, cz, rfl, hz, hcz, hnz⟩ := row_ls (g := g) hown hL (by have := HC3.out.sz; omega)
  have HO4 := Lib.hid ho4
  have HC4 : Hid (Ch g v1 v4) := HC3.out.tr hc4
  have hgv4 : g < v4.heap.size := HO4.out.lt
  have C24 : Ch g v2 v4 := HC23.out.tr hc4
  have BX : Hid _ := bent_ch g (some ⟨xa, 0, none⟩) n xb L (by have := NN.out.2.1; omega) SX.out v4 hgv4 (zi_chn ZX2.out C24 NX.out) NX.out
  have BY : Hid _ := bent_ch g (some ⟨ya, 0, none⟩) n yb M (by have := NN.out.2.1; omega) SY.out v4 hgv4 (zi_chn ZY2.out C24 NY.out) NY.out
  have BZ : Hid _ := bent_ch g az T cz Z (by have := HT.out; omega) hS v4 hgv4 hz hnz
  have LA4 : Hid (Ls g v4 (.slice a0 len0 cap0)) := LA.out.ch HC4.out
  have LB4 : Hid (Ls g v4 (.slice a1 len1 cap1)) := LB.out.ch HC4.out
  have LX4 : Hid (Ls g v4 (.slice (some ⟨xa, 0, none⟩) n xb)) := ⟨_, _, _, _, rfl, NN.out.2.2.1, by have := NN.out.2.1; omega, zi_chn ZX2.out C24 NX.out, NX.out⟩
  have LY4 : Hid (Ls g v4 (.slice (some ⟨ya, 0, none⟩) n yb)) := ⟨_, _, _, _, rfl, NN.out.2.2.2, by have := NN.out.2.1; omega, zi_chn ZY2.out C24 NY.out, NY.out⟩
  have LT4 : Hid (Ls g v4 (.slice (some ⟨xa, 1, none⟩) (n - 1) (xb - 1))) := ⟨_, _, _, _, rfl, by have := NN.out; omega, by have := NN.out.2.1; omega, zi_part (zi_chn ZX2.out C24 NX.out) 1 (n - 1) (by have := NN.out.1; omega), fun ad e _ => by cases e; exact NX.out ⟨xa, 0, none⟩ rfl (by have := NN.out.1; omega)⟩
  have LZ4 : Hid (Ls g v4 (.slice az T cz)) := ⟨_, _, _, _, rfl, hcz, by have := HT.out; omega, hz, hnz⟩
  have HBW : Hid (Bel w v4) := Bel.ch HB1.out HC4.out hg
  have x1 : 1 ≤ n := by have := NN.out.1; omega
  have x2 : (1 : Int) ≤ (n : Int) := by omega
  have x3 : n ≤ xb := NN.out.2.2.1
  have x4 : (n : Int) ≤ (xb : Int) := by omega
  have x5 : ¬ xb = 1 := by omega
  clear ho4 hown hL hS hz hcz hnz hc4 C24 HO1 HO2 HO3 HC2 HC3 HC4 HC23 ZX2 ZY2 NX NY SX SY NN LA LB HT HB1 hgv hgv4
  go_upto_region 6 with fail
  go_cut [78, 79, 80] (fun s78 s79 s80 wx => ∃ (B : Nat) (V : World), V = wx ∧ s78 = .slice (some ⟨B, 0, none⟩) 6 6 ∧ s79 = .int .i64 6 ∧ s80 = .int .i64 0 ∧ Lrow g wx B 12 ∧ Ok wx g ∧ Ch g v4 wx)
  case first =>
    go_region_held3 (fun _ => True) (exact trivial)
      (first | (go_at_call 10; with_reducible refine (BX.out _ (by repeat (first | exact Ch.rf | (with_reducible refine Ch.drwN ?_ _) | (with_reducible refine Ch.drw ?_) | (with_reducible refine Ch.al ?_ _) | (refine Ch.tr ?_ (by assumption)))) (by repeat (first | exact HO4.out | assumption | (with_reducible refine Ok.drwN ?_ _) | (with_reducible refine Ok.bel ?_ Bel.rf.drw)))).mono ?_; rintro e s1 ⟨p1, p2, p3, rfl, lx, ox, cx⟩) | (go_at_call 10; with_reducible refine (BY.out _ (by repeat (first | exact Ch.rf | (with_reducible refine Ch.drwN ?_ _) | (with_reducible refine Ch.drw ?_) | (with_reducible refine Ch.al ?_ _) | (refine Ch.tr ?_ (by assumption)))) (by repeat (first | exact HO4.out | assumption | (with_reducible refine Ok.drwN ?_ _) | (with_reducible refine Ok.bel ?_ Bel.rf.drw)))).mono ?_; rintro e s2 ⟨q1, q2, q3, rfl, ly, oy, cy⟩))
    all_goals
      go_wp2_with fail
      go_meet
      case rel =>
        have C41 : Ch g v4 s1 := (Ch.rf.drw.tr cy).tr cx
        refine ⟨_, _, rfl, rfl, rfl, rfl, new_row C41 ox [.slice a0 len0 cap0, .slice a1 len1 cap1, .slice (some ⟨xa, 0, none⟩) n xb, .slice (some ⟨ya, 0, none⟩) n yb, .slice (some ⟨xa, 0, none⟩) n xb, .slice q1 q2 q3, .slice p1 p2 p3, .slice (some ⟨ya, 0, none⟩) n yb, .slice (some ⟨xa, 0, none⟩) n xb, .slice a1 len1 cap1, .slice (some ⟨xa, 1, none⟩) (n - 1) (xb - 1), .slice (some ⟨ya, 0, none⟩) n yb] _ ?_⟩
        exact List.forall_mem_cons.2 ⟨LA4.out.ch C41, List.forall_mem_cons.2 ⟨LB4.out.ch C41, List.forall_mem_cons.2 ⟨LX4.out.ch C41, List.forall_mem_cons.2 ⟨LY4.out.ch C41, List.forall_mem_cons.2 ⟨LX4.out.ch C41, List.forall_mem_cons.2 ⟨ly.ch cx, List.forall_mem_cons.2 ⟨lx, List.forall_mem_cons.2 ⟨LY4.out.ch C41, List.forall_mem_cons.2 ⟨LX4.out.ch C41, List.forall_mem_cons.2 ⟨LB4.out.ch C41, List.forall_mem_cons.2 ⟨LT4.out.ch C41, List.forall_mem_cons.2 ⟨LY4.out.ch C41, fun _ h => (List.not_mem_nil h).elim⟩⟩⟩⟩⟩⟩⟩⟩⟩⟩⟩⟩
  case rest =>
  obtain ⟨B, V, hV, rfl, rfl, rfl, hrow, hok, hch⟩ := hcut
  subst hV
  have HR := Lib.hid hrow
  have HO := Lib.hid hok
  have HC := Lib.hid hch
  clear hrow hok hch BX BY LA4 LX4 LY4 LT4 x1 x2 x3 x4 x5 hxc hyc
  go_wp2_with fail
  go_loopw [80] (fun s80 wr => ∃ (k : Nat) (V : World), V = wr ∧ k ≤ 6 ∧ s80 = .int .i64 (k : Int) ∧ Lrow g wr B 12 ∧ Ok wr g ∧ Ch g v4 wr) (fun s80 _ => 6 - (intOf s80).toNat)
  case atStart => exact ⟨0, _, rfl, by omega, rfl, HR.out, HO.out, HC.out⟩
  case round =>
    obtain ⟨k, V5, hV5, hk, rfl, hrow, hok, hch⟩ := hrel
    subst hV5
    have HR5 := Lib.hid hrow
    have HO5 := Lib.hid hok
    have HC5 := Lib.hid hch
    clear hrow hok hch HR HO HC
    rcases Nat.lt_or_ge k 6 with hlt | hge
    · have kk : (k : Int) < 6 := by omega
      go_upto_region 8 with fail
      go_cut [14] from 82 to 205 (fun s14 wx => ∃ (h : Nat) (A1 A2 : Option Addr) (n1 c1 n2 c2 : Nat) (V : World), V = wx ∧ s14 = .pointer (some ⟨h, 0, none⟩) ∧ Bk wx h 30 #[.slice A1 n1 c1, .slice A2 n2 c2] ∧ g < h ∧ Ls g wx (.slice A1 n1 c1) ∧ Ls g wx (.slice A2 n2 c2) ∧ Lrow g wx B 12 ∧ Ok wx g ∧ Ch g v4 wx)
      case first =>
        rcases (by omega : k = 0 ∨ k = 1 ∨ k = 2 ∨ k = 3 ∨ k = 4 ∨ k = 5) with rfl | rfl | rfl | rfl | rfl | rfl
        · obtain ⟨_, c0, A1, n1, b1, L1, rfl, k11, k12, k13, k14⟩ := HR5.out.2 0 (by omega)
          obtain ⟨_, c1, A2, n2, b2, L2, rfl, k21, k22, k23, k24⟩ := HR5.out.2 1 (by omega)
          have HP := Lib.hid (And.intro k11 (And.intro k12 (And.intro k13 k14)))
          have HQ := Lib.hid (And.intro k21 (And.intro k22 (And.intro k23 k24)))
          clear k11 k12 k13 k14 k21 k22 k23 k24
          go_wp2_with fail
          go_meet
          case rel => exact ⟨V5.heap.size, A1, A2, n1, b1, n2, b2, _, rfl, rfl, Bk.nw _ _ _, HO5.out.lt, Ls.bel ⟨_, _, _, _, rfl, HP.out.1, HP.out.2.1, HP.out.2.2.1, HP.out.2.2.2⟩ (Bel.rf.al _), Ls.bel ⟨_, _, _, _, rfl, HQ.out.1, HQ.out.2.1, HQ.out.2.2.1, HQ.out.2.2.2⟩ (Bel.rf.al _), HR5.out.bel (Bel.rf.al _), HO5.out.bel (Bel.rf.al _), HC5.out.al _⟩
        · obtain ⟨_, c0, A1, n1, b1, L1, rfl, k11, k12, k13, k14⟩ := HR5.out.2 2 (by omega)
          obtain ⟨_, c1, A2, n2, b2, L2, rfl, k21, k22, k23, k24⟩ := HR5.out.2 3 (by omega)
          have HP := Lib.hid (And.intro k11 (And.intro k12 (And.intro k13 k14)))
          have HQ := Lib.hid (And.intro k21 (And.intro k22 (And.intro k23 k24)))
          clear k11 k12 k13 k14 k21 k22 k23 k24
          go_wp2_with fail
          go_meet
          case rel => exact ⟨V5.heap.size, A1, A2, n1, b1, n2, b2, _, rfl, rfl, Bk.nw _ _ _, HO5.out.lt, Ls.bel ⟨_, _, _, _, rfl, HP.out.1, HP.out.2.1, HP.out.2.2.1, HP.out.2.2.2⟩ (Bel.rf.al _), Ls.bel ⟨_, _, _, _, rfl, HQ.out.1, HQ.out.2.1, HQ.out.2.2.1, HQ.out.2.2.2⟩ (Bel.rf.al _), HR5.out.bel (Bel.rf.al _), HO5.out.bel (Bel.rf.al _), HC5.out.al _⟩
        · obtain ⟨_, c0, A1, n1, b1, L1, rfl, k11, k12, k13, k14⟩ := HR5.out.2 4 (by omega)
          obtain ⟨_, c1, A2, n2, b2, L2, rfl, k21, k22, k23, k24⟩ := HR5.out.2 5 (by omega)
          have HP := Lib.hid (And.intro k11 (And.intro k12 (And.intro k13 k14)))
          have HQ := Lib.hid (And.intro k21 (And.intro k22 (And.intro k23 k24)))
          clear k11 k12 k13 k14 k21 k22 k23 k24
          go_wp2_with fail
          go_meet
          case rel => exact ⟨V5.heap.size, A1, A2, n1, b1, n2, b2, _, rfl, rfl, Bk.nw _ _ _, HO5.out.lt, Ls.bel ⟨_, _, _, _, rfl, HP.out.1, HP.out.2.1, HP.out.2.2.1, HP.out.2.2.2⟩ (Bel.rf.al _), Ls.bel ⟨_, _, _, _, rfl, HQ.out.1, HQ.out.2.1, HQ.out.2.2.1, HQ.out.2.2.2⟩ (Bel.rf.al _), HR5.out.bel (Bel.rf.al _), HO5.out.bel (Bel.rf.al _), HC5.out.al _⟩
        · obtain ⟨_, c0, A1, n1, b1, L1, rfl, k11, k12, k13, k14⟩ := HR5.out.2 6 (by omega)
          obtain ⟨_, c1, A2, n2, b2, L2, rfl, k21, k22, k23, k24⟩ := HR5.out.2 7 (by omega)
          have HP := Lib.hid (And.intro k11 (And.intro k12 (And.intro k13 k14)))
          have HQ := Lib.hid (And.intro k21 (And.intro k22 (And.intro k23 k24)))
          clear k11 k12 k13 k14 k21 k22 k23 k24
          go_wp2_with fail
          go_meet
          case rel => exact ⟨V5.heap.size, A1, A2, n1, b1, n2, b2, _, rfl, rfl, Bk.nw _ _ _, HO5.out.lt, Ls.bel ⟨_, _, _, _, rfl, HP.out.1, HP.out.2.1, HP.out.2.2.1, HP.out.2.2.2⟩ (Bel.rf.al _), Ls.bel ⟨_, _, _, _, rfl, HQ.out.1, HQ.out.2.1, HQ.out.2.2.1, HQ.out.2.2.2⟩ (Bel.rf.al _), HR5.out.bel (Bel.rf.al _), HO5.out.bel (Bel.rf.al _), HC5.out.al _⟩
        · obtain ⟨_, c0, A1, n1, b1, L1, rfl, k11, k12, k13, k14⟩ := HR5.out.2 8 (by omega)
          obtain ⟨_, c1, A2, n2, b2, L2, rfl, k21, k22, k23, k24⟩ := HR5.out.2 9 (by omega)
          have HP := Lib.hid (And.intro k11 (And.intro k12 (And.intro k13 k14)))
          have HQ := Lib.hid (And.intro k21 (And.intro k22 (And.intro k23 k24)))
          clear k11 k12 k13 k14 k21 k22 k23 k24
          go_wp2_with fail
          go_meet
          case rel => exact ⟨V5.heap.size, A1, A2, n1, b1, n2, b2, _, rfl, rfl, Bk.nw _ _ _, HO5.out.lt, Ls.bel ⟨_, _, _, _, rfl, HP.out.1, HP.out.2.1, HP.out.2.2.1, HP.out.2.2.2⟩ (Bel.rf.al _), Ls.bel ⟨_, _, _, _, rfl, HQ.out.1, HQ.out.2.1, HQ.out.2.2.1, HQ.out.2.2.2⟩ (Bel.rf.al _), HR5.out.bel (Bel.rf.al _), HO5.out.bel (Bel.rf.al _), HC5.out.al _⟩
        · obtain ⟨_, c0, A1, n1, b1, L1, rfl, k11, k12, k13, k14⟩ := HR5.out.2 10 (by omega)
          obtain ⟨_, c1, A2, n2, b2, L2, rfl, k21, k22, k23, k24⟩ := HR5.out.2 11 (by omega)
          have HP := Lib.hid (And.intro k11 (And.intro k12 (And.intro k13 k14)))
          have HQ := Lib.hid (And.intro k21 (And.intro k22 (And.intro k23 k24)))
          clear k11 k12 k13 k14 k21 k22 k23 k24
          go_wp2_with fail
          go_meet
          case rel => exact ⟨V5.heap.size, A1, A2, n1, b1, n2, b2, _, rfl, rfl, Bk.nw _ _ _, HO5.out.lt, Ls.bel ⟨_, _, _, _, rfl, HP.out.1, HP.out.2.1, HP.out.2.2.1, HP.out.2.2.2⟩ (Bel.rf.al _), Ls.bel ⟨_, _, _, _, rfl, HQ.out.1, HQ.out.2.1, HQ.out.2.2.1, HQ.out.2.2.2⟩ (Bel.rf.al _), HR5.out.bel (Bel.rf.al _), HO5.out.bel (Bel.rf.al _), HC5.out.al _⟩
      case rest =>
      obtain ⟨h, A1, A2, n1, c1, n2, c2, V6, hV6, rfl, hbk, hgh, l1, l2, hrow, hok, hch⟩ := hcut
      subst hV6
      have HR6 := Lib.hid hrow
      have HO6 := Lib.hid hok
      have HC6 := Lib.hid hch
      have HK6 := Lib.hid hbk
      have HL1 := Lib.hid l1
      obtain ⟨_, _, _, L1, e1, k11, k12, hz1, hq1⟩ := l1
      obtain ⟨_, _, _, L2, e2, k21, k22, hz2, hq2⟩ := l2
      cases e1
      cases e2
      obtain ⟨D, E, hd1, hd2⟩ := both_dist A1 A2 c1 c2 n1 n2 L1 L2 (by omega) (by omega)
      obtain ⟨X, Y, F, hs1, hs2⟩ := both_shift A1 A2 c1 c2 n1 n2 L1 L2 (by omega) (by omega)
      have HD1 : Hid (∀ W, Bel V6 W → _) := fun W hb => hd1 W (hz1.bel hb) (hz2.bel hb)
      have HD2 : Hid (∀ W, Bel V6 W → _) := fun W hb => hd2 W (hz1.bel hb) (hz2.bel hb)
      have HS1 : Hid (∀ W, Bel V6 W → _) := fun W hb => hs1 W (hz1.bel hb) (hz2.bel hb)
      have HS2 : Hid (∀ W, Bel V6 W → _) := fun W hb => hs2 W (hz1.bel hb) (hz2.bel hb)
      have HZZ := Lib.hid (And.intro hz1 hz2)
      have z0 : V6.cell? ⟨h, 0, none⟩ = some (.slice A1 n1 c1) := hbk.cell 0
      have z1 : V6.cell? ⟨h, 1, none⟩ = some (.slice A2 n2 c2) := hbk.cell 1
      have HQ1 := Lib.hid hq1
      have HGH : Hid (h ≠ g) := by show h ≠ g; omega
      have HN1 : Hid (n1 ≤ 240 ∧ n2 ≤ 240) := ⟨k12, k22⟩
      clear hrow hok hch hbk k11 k12 hq1 k21 k22 hq2 hd1 hd2 hs1 hs2 hz1 hz2 HR5 HO5 HC5
      go_wp2_with fail
      go_at_call 11
      refine (HD1.out _ (by repeat (first | exact Bel.rf | (with_reducible refine Bel.drwN ?_ _) | (with_reducible refine Bel.drw ?_) | (with_reducible refine Bel.al ?_ _) | (refine Bel.tr ?_ (by assumption))))).mono ?_
      rintro e W1 ⟨rfl, hb1⟩
      have B1 : Bel V6 W1 := (by repeat (first | exact Bel.rf | (with_reducible refine Bel.drwN ?_ _) | (with_reducible refine Bel.drw ?_) | (with_reducible refine Bel.al ?_ _) | (refine Bel.tr ?_ (by assumption))))
      have y0 := B1.kp z0
      have y1 := B1.kp z1
      have HB1' := Lib.hid B1
      clear z0 z1 hb1 B1
      go_wp2_with fail
      go_at_call 12
      refine (HD2.out _ (HB1'.out.tr (by repeat (first | exact Bel.rf | (with_reducible refine Bel.drwN ?_ _) | (with_reducible refine Bel.drw ?_) | (with_reducible refine Bel.al ?_ _) | (refine Bel.tr ?_ (by assumption)))))).mono ?_
      rintro e W2 ⟨rfl, hb2⟩
      have B2 : Bel W1 W2 := (by repeat (first | exact Bel.rf | (with_reducible refine Bel.drwN ?_ _) | (with_reducible refine Bel.drw ?_) | (with_reducible refine Bel.al ?_ _) | (refine Bel.tr ?_ (by assumption))))
      have z0 := B2.kp y0
      have z1 := B2.kp y1
      have HB2' := Lib.hid (HB1'.out.tr B2)
      clear y0 y1 hb2 B2
      go_wp2_with fail
      go_at_call 13
      refine (HS1.out _ (HB2'.out.tr (by repeat (first | exact Bel.rf | (with_reducible refine Bel.drwN ?_ _) | (with_reducible refine Bel.drw ?_) | (with_reducible refine Bel.al ?_ _) | (refine Bel.tr ?_ (by assumption)))))).mono ?_
      rintro e W3 ⟨rfl, hb3⟩
      have B3 : Bel W2 W3 := (by repeat (first | exact Bel.rf | (with_reducible refine Bel.drwN ?_ _) | (with_reducible refine Bel.drw ?_) | (with_reducible refine Bel.al ?_ _) | (refine Bel.tr ?_ (by assumption))))
      have y0 : (W3.alloc (.cells #[.int .i64 X, .int .i64 Y] 37)).cell? ⟨h, 0, none⟩ = some (.slice A1 n1 c1) := (B3.al _).kp z0
      have y1 : (W3.alloc (.cells #[.int .i64 X, .int .i64 Y] 37)).cell? ⟨h, 1, none⟩ = some (.slice A2 n2 c2) := (B3.al _).kp z1
      have HR3 : Hid (Bk (W3.alloc (.cells #[.int .i64 X, .int .i64 Y] 37)) W3.heap.size 37 #[.int .i64 X, .int .i64 Y]) := Bk.nw _ _ _
      have HB3' := Lib.hid (HB2'.out.tr (B3.al (.cells #[.int .i64 X, .int .i64 Y] 37)))
      clear z0 z1 hb3 B3
      go_wp2_with fail
      go_at_call 14
      refine (HS2.out _ (HB3'.out.tr (by repeat (first | exact Bel.rf | (with_reducible refine Bel.drwN ?_ _) | (with_reducible refine Bel.drw ?_) | (with_reducible refine Bel.al ?_ _) | (refine Bel.tr ?_ (by assumption)))))).mono ?_
      rintro e W4 ⟨rfl, hb4⟩
      have R3 := HR3.out.bel hb4
      have s0 : ∀ o, (W4.alloc o).cell? ⟨W3.heap.size, 0, none⟩ = some (.int .i64 X) := fun o => kp_al (R3.cell 0) o
      have s1 : ∀ o, (W4.alloc o).cell? ⟨W3.heap.size, 1, none⟩ = some (.int .i64 Y) := fun o => kp_al (R3.cell 1) o
      have HB4' := Lib.hid (HB3'.out.tr hb4)
      have kd := ne_self D
      have ke := ne_self E
      have kf := ne_self F
      have kx := ne_self X
      have ky := ne_self Y
      clear y0 y1 hb4 R3 HD1 HD2 HS1 HS2 HR3
      go_wp2_with fail
      clear s0 s1 kx ky kf
      have hq5 : ∀ j, j < 4 → ∃ x, ((W4.alloc (.cells #[.int .i64 X, .int .i64 Y] 37)).alloc (.cells #[.int .i64 a2, .int .i64 D, .int .i64 (wrap64 (D - 1)), .int .i64 (-1)] 3)).cell? ⟨W4.heap.size + 1, j, none⟩ = some (.int .i64 x) := fun j hj => by
        have hB : Bk ((W4.alloc (.cells #[.int .i64 X, .int .i64 Y] 37)).alloc (.cells #[.int .i64 a2, .int .i64 D, .int .i64 (wrap64 (D - 1)), .int .i64 (-1)] 3)) (W4.heap.size + 1) 3 #[.int .i64 a2, .int .i64 D, .int .i64 (wrap64 (D - 1)), .int .i64 (-1)] := Bk.nq _ _ _ (by simp)
        rcases (by omega : j = 0 ∨ j = 1 ∨ j = 2 ∨ j = 3) with rfl | rfl | rfl | rfl
        all_goals exact ⟨_, hB.cell _⟩
      have hb5 : Bel V6 ((W4.alloc (.cells #[.int .i64 X, .int .i64 Y] 37)).alloc (.cells #[.int .i64 a2, .int .i64 D, .int .i64 (wrap64 (D - 1)), .int .i64 (-1)] 3)) := (HB4'.out.al _).al _
      have HQ5 := Lib.hid hq5
      have HB5 := Lib.hid hb5
      clear hq5 hb5 HB4' HB3' HB2' HB1'
      obtain ⟨q, hq⟩ : ∃ q, W4.heap.size + 1 = q := ⟨_, rfl⟩
      rw [hq] at HQ5 ⊢
      clear hq
      obtain ⟨W5, hW5⟩ : ∃ x, ((W4.alloc (.cells #[.int .i64 X, .int .i64 Y] 37)).alloc (.cells #[.int .i64 a2, .int .i64 D, .int .i64 (wrap64 (D - 1)), .int .i64 (-1)] 3)) = x := ⟨_, rfl⟩
      rw [hW5] at HQ5 HB5 ⊢
      clear hW5
      go_loopw [140] (fun s140 wr => ∃ (i : Nat) (V : World), V = wr ∧ i ≤ 4 ∧ s140 = .int .i64 (i : Int) ∧ Bel W5 wr) (fun s140 _ => 4 - (intOf s140).toNat)
      case atStart => exact ⟨0, _, rfl, by omega, rfl, Bel.rf⟩
      case round =>
        obtain ⟨i, V8, hV8, hi, rfl, hb8⟩ := hrel
        subst hV8
        have HB8 : Hid (Bel V6 V8) := HB5.out.tr hb8
        have HB58 := Lib.hid hb8
        rcases Nat.lt_or_ge i 4 with ilt | ige
        · have ii : (i : Int) < 4 := by omega
          obtain ⟨x, hx⟩ := HQ5.out i ilt
          have cx := hb8.kp hx
          obtain ⟨P, b, hw1, hw2⟩ := both_within A1 A2 c1 c2 n1 n2 L1 L2 (by have := HN1.out; omega) (by have := HN1.out; omega) x
          have HW1 : Hid (∀ W, Bel V8 W → _) := fun W hb => hw1 W (HZZ.out.1.bel (HB8.out.tr hb)) (HZZ.out.2.bel (HB8.out.tr hb))
          have HW2 : Hid (∀ W, Bel V8 W → _) := fun W hb => hw2 W (HZZ.out.1.bel (HB8.out.tr hb)) (HZZ.out.2.bel (HB8.out.tr hb))
          have z0 : V8.cell? ⟨h, 0, none⟩ = some (.slice A1 n1 c1) := (HK6.out.bel HB8.out).cell 0
          have z1 : V8.cell? ⟨h, 1, none⟩ = some (.slice A2 n2 c2) := (HK6.out.bel HB8.out).cell 1
          have kb : (b != b) = false := by cases b <;> rfl
          have kp := ne_self P
          clear hb8 hx hw1 hw2
          go_wp2_with fail
          go_at_call 15
          refine (HW1.out _ (by repeat (first | exact Bel.rf | (with_reducible refine Bel.drwN ?_ _) | (with_reducible refine Bel.drw ?_) | (with_reducible refine Bel.al ?_ _) | (refine Bel.tr ?_ (by assumption))))).mono ?_
          rintro e W9 ⟨rfl, hb9⟩
          have B9 : Bel V8 W9 := (by repeat (first | exact Bel.rf | (with_reducible refine Bel.drwN ?_ _) | (with_reducible refine Bel.drw ?_) | (with_reducible refine Bel.al ?_ _) | (refine Bel.tr ?_ (by assumption))))
          have y0 := B9.kp z0
          have y1 := B9.kp z1
          have HB9 := Lib.hid B9
          clear z0 z1 cx hb9 B9
          go_wp2_with fail
          go_at_call 16
          refine (HW2.out _ (HB9.out.tr (by repeat (first | exact Bel.rf | (with_reducible refine Bel.drwN ?_ _) | (with_reducible refine Bel.drw ?_) | (with_reducible refine Bel.al ?_ _) | (refine Bel.tr ?_ (by assumption)))))).mono ?_
          rintro e W10 ⟨rfl, hb10⟩
          have HB10 : Hid (Bel W5 W10) := (HB58.out.tr HB9.out).tr (by repeat (first | exact Bel.rf | (with_reducible refine Bel.drwN ?_ _) | (with_reducible refine Bel.drw ?_) | (with_reducible refine Bel.al ?_ _) | (refine Bel.tr ?_ (by assumption))))
          clear y0 y1 hb10
          go_wp2
          go_roundw
          case rel => exact ⟨i + 1, _, rfl, by omega, by go_num, by first | exact HB10.out | exact HB10.out.drwN _ | exact HB10.out.drw⟩
          case measure => simp [intOf]; omega
        · have hi4 : i = 4 := by omega
          subst hi4
          have C8 : Hid (Ch g v4 V8) := HC6.out.tr (Ch.of_bel HB8.out)
          have O8 : Hid (Ok V8 g) := HO6.out.bel HB8.out
          clear hb8 HB58 HQ5 kd ke
          go_wp2_with fail
          go_at_call 10
          refine (BZ.out _ (C8.out.tr (Ch.of_bel (by repeat (first | exact Bel.rf | (with_reducible refine Bel.drwN ?_ _) | (with_reducible refine Bel.drw ?_) | (with_reducible refine Bel.al ?_ _) | (refine Bel.tr ?_ (by assumption)))))) (O8.out.bel (by repeat (first | exact Bel.rf | (with_reducible refine Bel.drwN ?_ _) | (with_reducible refine Bel.drw ?_) | (with_reducible refine Bel.al ?_ _) | (refine Bel.tr ?_ (by assumption)))))).mono ?_
          rintro e W7 ⟨p1, p2, p3, rfl, lz, oz, cz7⟩
          have C67 : Ch g V6 W7 := (Ch.of_bel (HB8.out.tr (by repeat (first | exact Bel.rf | (with_reducible refine Bel.drwN ?_ _) | (with_reducible refine Bel.drw ?_) | (with_reducible refine Bel.al ?_ _) | (refine Bel.tr ?_ (by assumption)))))).tr cz7
          have HR7 := Lib.hid (new_row (HC6.out.tr C67) oz [.slice a1 len1 cap1, .slice az T cz, .slice p1 p2 p3] 22 (List.forall_mem_cons.2 ⟨LB4.out.ch (HC6.out.tr C67), List.forall_mem_cons.2 ⟨LZ4.out.ch (HC6.out.tr C67), List.forall_mem_cons.2 ⟨lz, fun _ h => (List.not_mem_nil h).elim⟩⟩⟩))
          have HC67 := Lib.hid C67
          clear lz oz cz7 C67
          go_wp2_with fail
          obtain ⟨W8, hW8⟩ : ∃ x, (W7.alloc (.cells #[.slice a1 len1 cap1, .slice az T cz, .slice p1 p2 p3] 22)) = x := ⟨_, rfl⟩
          have HR8 : Hid (Lrow g W8 W7.heap.size 3 ∧ Ok W8 g ∧ Ch g v4 W8) := by rw [← hW8]; exact HR7.out
          have HC68 : Hid (Ch g V6 W8) := by rw [← hW8]; exact HC67.out.al _
          obtain ⟨u, hu⟩ : ∃ u, W7.heap.size = u := ⟨_, rfl⟩
          rw [hu] at HR8 ⊢
          rw [hW8]
          clear hW8 hu HR7 HC67
          go_loopw [178] (fun s178 wr => ∃ (i : Nat) (V : World), V = wr ∧ i ≤ 3 ∧ s178 = .int .i64 (i : Int) ∧ Bel W8 wr) (fun s178 _ => 3 - (intOf s178).toNat)
          case atStart => exact ⟨0, _, rfl, by omega, rfl, Bel.rf⟩
          case round =>
            obtain ⟨i, V9, hV9, hi, rfl, hb9⟩ := hrel
            subst hV9
            have HB89 := Lib.hid hb9
            have HC69 : Hid (Ch g V6 V9) := HC68.out.tr (Ch.of_bel hb9)
            rcases Nat.lt_or_ge i 3 with ilt | ige
            · have ii : (i : Int) < 3 := by omega
              obtain ⟨_, c0, A3, n3, c3, L3, rfl, k31, k32, hz3, hq3⟩ := HR8.out.1.2 i ilt
              have cx := hb9.kp c0
              obtain ⟨E3, N3, L4, hl4, hn4, hp1, hp2⟩ := both_prof A1 A3 c1 n1 c3 n3 L1 L3 (by have := HN1.out; omega) (by omega) k31
              have HW1 : Hid (∀ W, Bel V9 W → _) := fun W hb => hp1 W ((zi_chn HZZ.out.1 HC69.out HQ1.out).bel hb) (hz3.bel (hb9.tr hb))
              have HW2 : Hid (∀ W, Bel V9 W → _) := fun W hb => hp2 W ((zi_chn HZZ.out.1 HC69.out HQ1.out).bel hb) (hz3.bel (hb9.tr hb))
              have HL4 := Lib.hid (And.intro hl4 hn4)
              have z0 : V9.cell? ⟨h, 0, none⟩ = some (.slice A1 n1 c1) := (HC69.out.bk HK6.out HGH.out).cell 0
              have ke := ne_self E3
              clear hb9 c0 k31 k32 hz3 hq3 hp1 hp2 hl4 hn4
              go_wp2_with fail
              go_at_call 17
              refine (HW1.out _ (by repeat (first | exact Bel.rf | (with_reducible refine Bel.drwN ?_ _) | (with_reducible refine Bel.drw ?_) | (with_reducible refine Bel.al ?_ _) | (refine Bel.tr ?_ (by assumption))))).mono ?_
              rintro e W10 ⟨r1, rfl, ho10, hb10⟩
              have B10 : Bel V9 W10 := (by repeat (first | exact Bel.rf | (with_reducible refine Bel.drwN ?_ _) | (with_reducible refine Bel.drw ?_) | (with_reducible refine Bel.al ?_ _) | (refine Bel.tr ?_ (by assumption))))
              have y0 := B10.kp z0
              obtain ⟨R1, d1, rfl, hy1, _⟩ := row_zi ho10 HL4.out.1
              have HY1 := Lib.hid hy1
              have HB10 := Lib.hid B10
              clear z0 cx hb10 B10 ho10 hy1
              go_wp2_with fail
              go_at_call 18
              refine (HW2.out _ (HB10.out.tr (by repeat (first | exact Bel.rf | (with_reducible refine Bel.drwN ?_ _) | (with_reducible refine Bel.drw ?_) | (with_reducible refine Bel.al ?_ _) | (refine Bel.tr ?_ (by assumption)))))).mono ?_
              rintro e W11 ⟨r2, rfl, ho11, hb11⟩
              have B11 : Bel W10 W11 := (by repeat (first | exact Bel.rf | (with_reducible refine Bel.drwN ?_ _) | (with_reducible refine Bel.drw ?_) | (with_reducible refine Bel.al ?_ _) | (refine Bel.tr ?_ (by assumption))))
              obtain ⟨R2, d2, rfl, hy2, _⟩ := row_zi ho11 HL4.out.1
              have HY2 := Lib.hid hy2
              have HY3 := Lib.hid (HY1.out.bel B11)
              have HB11 := Lib.hid (HB10.out.tr B11)
              clear y0 hb11 B11 ho11 hy2
              go_wp2_with (go_at_call 19; refine (ints_same R1 R2 d1 d2 N3 L4 (by have := HL4.out.2; omega) _ (HY3.out.bel (by repeat (first | exact Bel.rf | (with_reducible refine Bel.drwN ?_ _) | (with_reducible refine Bel.drw ?_) | (with_reducible refine Bel.al ?_ _) | (refine Bel.tr ?_ (by assumption))))) (HY2.out.bel (by repeat (first | exact Bel.rf | (with_reducible refine Bel.drwN ?_ _) | (with_reducible refine Bel.drw ?_) | (with_reducible refine Bel.al ?_ _) | (refine Bel.tr ?_ (by assumption)))))).mono ?_; rintro e W12 ⟨rfl, hb12⟩)
              have HB12 : Hid (Bel W8 W12) := (HB89.out.tr HB11.out).tr (by repeat (first | exact Bel.rf | (with_reducible refine Bel.drwN ?_ _) | (with_reducible refine Bel.drw ?_) | (with_reducible refine Bel.al ?_ _) | (refine Bel.tr ?_ (by assumption))))
              clear hb12
              go_wp2
              go_roundw
              case rel => exact ⟨i + 1, _, rfl, by omega, by go_num, by first | exact HB12.out | exact HB12.out.drwN _ | exact HB12.out.drw⟩
              case measure => simp [intOf]; omega
            · have hi3 : i = 3 := by omega
              subst hi3
              clear hb9
              have HF1 : Hid (Lrow g V9 B 12 ∧ Ok V9 g ∧ Ch g v4 V9) := ⟨HR6.out.ch HC69.out, HR8.out.2.1.bel HB89.out, HC6.out.tr HC69.out⟩
              go_wp2
              go_roundw
              case rel => exact ⟨k + 1, _, rfl, by omega, by go_num, HF1.out.1.bel (by repeat (first | exact Bel.rf | (with_reducible refine Bel.drwN ?_ _) | (with_reducible refine Bel.drw ?_) | (with_reducible refine Bel.al ?_ _) | (refine Bel.tr ?_ (by assumption)))), HF1.out.2.1.bel (by repeat (first | exact Bel.rf | (with_reducible refine Bel.drwN ?_ _) | (with_reducible refine Bel.drw ?_) | (with_reducible refine Bel.al ?_ _) | (refine Bel.tr ?_ (by assumption)))), HF1.out.2.2.tr (Ch.of_bel (by repeat (first | exact Bel.rf | (with_reducible refine Bel.drwN ?_ _) | (with_reducible refine Bel.drw ?_) | (with_reducible refine Bel.al ?_ _) | (refine Bel.tr ?_ (by assumption)))))⟩
              case measure => simp [intOf]; omega
    · have hk6 : k = 6 := by omega
      subst hk6
      go_wp2_with (go_at_call 5; refine (AW.out _).mono ?_; rintro e w9 ⟨rfl, hb9⟩)
      go_ret
      exact ⟨rfl, ((Bel.ch HBW.out HC5.out (Nat.le_trans hg (Nat.le_refl _))).tr (Bel.tr (by repeat (first | exact Bel.rf | (with_reducible refine Bel.drwN ?_ _) | (with_reducible refine Bel.drw ?_) | (with_reducible refine Bel.al ?_ _) | (refine Bel.tr ?_ (by assumption)))) hb9)).bl⟩

set_option maxRecDepth 100000 in
theorem lifted (os : Os) (started : os.Started) (H : Type) (enc : TypeId × Value → H) :
    ReturnsInHanded {} Try.checked os 3 .any (Rows.euclidAnswersSpec.pre6 enc Try.prog Try.f3 Rows.euclidAnswersRow.domain false) (Rows.euclidAnswersSpec.post enc Try.prog Try.f3 false true false false) := by
  refine returnsInHanded_of_change (C := Try.checked) own started (by kernel_rfl) Try.func3
    (ChangeSpec.witness6 (enc := enc) (C := Try.checked) false ⟨#[], #[.slice none 0 0, .slice none 0 0, .int .i64 0, .slice none 0 0], []⟩ 8 (by kernel_rfl) (by kernel_rfl) (by kernel_rfl) (by kernel_rfl)) ?_
  intro W base args ds gs before hval0 hW hcnd _
  have hval : ∀ (j : Nat) t v, Try.f3.params[j]? = some t → args[j]? = some v → Value.okWide Try.prog W .any base t v := hval0
  have hW' := hW
  obtain ⟨p, q, hA0, hV, rfl, hfz, hnd⟩ := hW
  have hA : DataW.TrodAll enc Try.prog W 0 (fun _ => true) true Try.f3.params.toList args.toList ds p := hA0
  rw [Try.params3] at hA hval
  obtain ⟨v0, vs0, d0, ds0, p0, q0, hargs, rfl, rfl, h0, r0⟩ := trodAll_cons hA
  obtain ⟨v1, vs1, d1, ds1, p1, q1, rfl, rfl, rfl, h1, r1⟩ := trodAll_cons r0
  obtain ⟨v2, vs2, d2, ds2, p2, q2, rfl, rfl, rfl, h2, r2⟩ := trodAll_cons r1
  obtain ⟨v3, vs3, d3, ds3, p3, q3, rfl, rfl, rfl, h3, r3⟩ := trodAll_cons r2
  obtain ⟨rfl, rfl, rfl⟩ := trodAll_nil r3
  obtain rfl : args = #[v0, v1, v2, v3] := by cases args; simp_all
  obtain ⟨rfl, rfl⟩ := trodVars_none hV
  obtain ⟨a0, len0, cap0, rfl⟩ := okWide_slice Try.underlying22 (hval 0 22 v0 rfl rfl)
  have k0 := h0
  have lt0 : ∀ x ∈ p0, x.block < W.heap.size := by obtain ⟨m, hm⟩ := k0; exact DataW.trod_lt m _ _ _ hm
  obtain ⟨z0, w0⟩ : ∃ zs, IsRow .i64 W a0 len0 cap0 zs := by
    obtain ⟨fuel, hf⟩ := h0
    rcases open_ints Try.underlying22 Try.underlying3 (by kernel_rfl) hf with ⟨hcs, _⟩ | ⟨x, l, c, zs, hcs, _, hl, hm, hz, _, hcell, hwz⟩
    · simp [Value.cells] at hcs
      obtain ⟨rfl, rfl, rfl⟩ := hcs
      exact ⟨[], .inl ⟨rfl, rfl, rfl, rfl⟩⟩
    · simp [Value.cells] at hcs
      obtain ⟨rfl, rfl, rfl⟩ := hcs
      exact ⟨zs, .inr ⟨_, rfl, hl, hm, by simpa using hz, hcell, hwz⟩⟩
  obtain ⟨a1, len1, cap1, rfl⟩ := okWide_slice Try.underlying22 (hval 1 22 v1 rfl rfl)
  have k1 := h1
  have lt1 : ∀ x ∈ p1, x.block < W.heap.size := by obtain ⟨m, hm⟩ := k1; exact DataW.trod_lt m _ _ _ hm
  obtain ⟨z1, w1⟩ : ∃ zs, IsRow .i64 W a1 len1 cap1 zs := by
    obtain ⟨fuel, hf⟩ := h1
    rcases open_ints Try.underlying22 Try.underlying3 (by kernel_rfl) hf with ⟨hcs, _⟩ | ⟨x, l, c, zs, hcs, _, hl, hm, hz, _, hcell, hwz⟩
    · simp [Value.cells] at hcs
      obtain ⟨rfl, rfl, rfl⟩ := hcs
      exact ⟨[], .inl ⟨rfl, rfl, rfl, rfl⟩⟩
    · simp [Value.cells] at hcs
      obtain ⟨rfl, rfl, rfl⟩ := hcs
      exact ⟨zs, .inr ⟨_, rfl, hl, hm, by simpa using hz, hcell, hwz⟩⟩
  obtain ⟨a2, rfl, rfl, rfl, w2⟩ := open_int Try.underlying3 (hval 2 3 v2 rfl rfl) h2
  obtain ⟨a3, len3, cap3, rfl⟩ := okWide_slice Try.underlying22 (hval 3 22 v3 rfl rfl)
  have k3 := h3
  have lt3 : ∀ x ∈ p3, x.block < W.heap.size := by obtain ⟨m, hm⟩ := k3; exact DataW.trod_lt m _ _ _ hm
  obtain ⟨z3, w3⟩ : ∃ zs, IsRow .i64 W a3 len3 cap3 zs := by
    obtain ⟨fuel, hf⟩ := h3
    rcases open_ints Try.underlying22 Try.underlying3 (by kernel_rfl) hf with ⟨hcs, _⟩ | ⟨x, l, c, zs, hcs, _, hl, hm, hz, _, hcell, hwz⟩
    · simp [Value.cells] at hcs
      obtain ⟨rfl, rfl, rfl⟩ := hcs
      exact ⟨[], .inl ⟨rfl, rfl, rfl, rfl⟩⟩
    · simp [Value.cells] at hcs
      obtain ⟨rfl, rfl, rfl⟩ := hcs
      exact ⟨zs, .inr ⟨_, rfl, hl, hm, by simpa using hz, hcell, hwz⟩⟩
  clear hA0 hval0
  refine (walk a0 len0 cap0 z0 a1 len1 cap1 z1 a2 a3 len3 cap3 z3 W w0 w1 w2 w3).mono fun e W' ⟨he, bel⟩ => ?_
  subst he
  exact ⟨_, rfl, _, _, _, [], _, [], hW', trodAll_mk1 (shut_bool Try.underlying4 _), (trodAll_cons_mk (Below.trod laidOut (by kernel_rfl) (of_decide_eq_true (by kernel_rfl)) k0 bel lt0) (trodAll_cons_mk (Below.trod laidOut (by kernel_rfl) (of_decide_eq_true (by kernel_rfl)) k1 bel lt1) (trodAll_cons_mk (shut_int Try.underlying3 w2) (trodAll_cons_mk (Below.trod laidOut (by kernel_rfl) (of_decide_eq_true (by kernel_rfl)) k3 bel lt3) trodAll_mk0)))), rfl, bel.frame _, fun h => by cases h⟩

theorem over : Rows.euclidAnswersRow.holds Try.pinned (OpenSpec.ofChange Rows.euclidAnswersSpec) :=
  OpenClaim.holds_of_wide 3 Try.f3 rfl rfl rfl rfl rfl rfl rfl ⟨rfl, rfl, rfl, rfl, rfl⟩ rfl rfl rfl rfl rfl (by kernel_rfl) Try.func3 (by kernel_rfl)
    (of_decide_eq_true (by kernel_rfl)) (by unfold Func.isWrapper; first | (rw [if_pos (by decide +kernel)]; kernel_rfl) | (rw [if_neg (by decide +kernel)]; exact ⟨rfl, rfl⟩))
    (fun os started H enc _ => lifted os started H enc)

theorem proved : Rows.EuclidAnswersSaid := over
end Go.Proofs.Ytekeclapbfjdiaa.euclidAnswers
