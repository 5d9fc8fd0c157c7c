/- That the law PiecesAnswers returns true for every input that can be read, and leaves its arguments as they were; no further condition. -/
import Derived.Test.YtekeclapbfjdiaaRows
import Derived.WalkKit
import Derived.ProofKit
import Derived.OpenShut
import Derived.Test.YtekeclapbfjdiaaWords
import Derived.Test.YtekeclapbfjdiaaSrcNew0
import Derived.Test.YtekeclapbfjdiaaSrcLen
import Derived.Test.YtekeclapbfjdiaaNear
import Derived.Test.YtekeclapbfjdiaaP18n
import Derived.ShutString
import Derived.ChangeOld
import Derived.Below
namespace Go.Proofs.Ytekeclapbfjdiaa.piecesAnswers
open Go.ChangeShapes Go.WideShapes Go.ChangeAt Go.RowKit Wo
open Go.ChangeMaps (open_string shut_string)
set_option linter.unusedVariables false

theorem own : ownKnob Try.prog.godebug = none := by kernel_rfl
theorem laidOut : laidOutB Try.prog = true := by kernel_rfl

/-- WHAT THE WALK IS TOLD OF A SLICE OF INTEGERS THAT CAME IN: it is nil; or it leads to a row of 'cap' cells, the numbers 'zs' (the first 'len' are its elements, the rest its spare room), each fitting its kind. -/
def IsRow (k : IntKind) (w : World) (a : Option Addr) (len cap : Nat) (zs : List Int) : Prop :=
  (a = none ∧ len = 0 ∧ cap = 0 ∧ zs = []) ∨
  ∃ x, a = some x ∧ len ≤ cap ∧ cap ≤ maxLen ∧ zs.length = cap ∧ (∀ i, i < zs.length → w.cell? (x.add i) = some (.int k (zs.getD i 0))) ∧ ∀ n ∈ zs, (Lit.int k n).wf = true

open Go.Proofs.Ytekeclapbfjdiaa.Eu Go.Proofs.Ytekeclapbfjdiaa.Wi Go.Proofs.Ytekeclapbfjdiaa.Wo Go.Proofs.Ytekeclapbfjdiaa.Sr Go.Proofs.Ytekeclapbfjdiaa.Ra Go.Proofs.Ytekeclapbfjdiaa.Say Go.Proofs.Ytekeclapbfjdiaa.Pc in
set_option maxHeartbeats 16000000 in
set_option maxRecDepth 100000 in
theorem walk (a0 : Option Addr) (len0 cap0 : Nat) (z0 : List Int) (a1 : Option Addr) (len1 cap1 : Nat) (z1 : List Int) (a2 : Int) (a3 : Int) (a4 : Option Addr) (len4 cap4 : Nat) (z4 : List Int) (w : World) (w0 : IsRow .i64 w a0 len0 cap0 z0) (w1 : IsRow .i64 w a1 len1 cap1 z1) (w2 : (Lit.int .i64 a2).wf = true) (w3 : (Lit.int .i64 a3).wf = true) (w4 : IsRow .i64 w a4 len4 cap4 z4) :
    Calls Try.prog 4 #[.slice a0 len0 cap0, .slice a1 len1 cap1, .int .i64 a2, .int .i64 a3, .slice a4 len4 cap4] w fun e w' => e = .returned (.bool true) ∧ Below w.heap.size w w' := by
  have AW : Hid (∀ W, Calls Try.prog 20 #[] W fun e w' => e = .returned (.bool true) ∧ Bel W w') := awake_any
  rcases Nat.lt_or_ge 100 len0 with k0 | k0
  · have e0 : (100 : Int) < (len0 : Int) := by omega
    have e1 : decide ((100 : Int) < (len0 : Int)) = true := decide_eq_true e0
    go_enter Try.func4, Try.ntmps4
    go_wp2_with (go_at_call 20; refine (AW.out _).mono ?_; rintro e w9 ⟨rfl, hb9⟩)
    go_ret
    exact ⟨rfl, hb9.bl⟩
  have e0 : ¬ (100 : Int) < (len0 : Int) := by omega
  have e1 : decide ((100 : Int) < (len0 : Int)) = false := decide_eq_false e0
  rcases Nat.lt_or_ge 100 len1 with k1 | k1
  · have e2 : (100 : Int) < (len1 : Int) := by omega
    have e3 : decide ((100 : Int) < (len1 : Int)) = true := decide_eq_true e2
    go_enter Try.func4, Try.ntmps4
    go_wp2_with (go_at_call 20; refine (AW.out _).mono ?_; rintro e w9 ⟨rfl, hb9⟩)
    go_ret
    exact ⟨rfl, hb9.bl⟩
  have e2 : ¬ (100 : Int) < (len1 : Int) := by omega
  have e3 : decide ((100 : Int) < (len1 : Int)) = false := decide_eq_false e2
  obtain ⟨hza, hca, hba⟩ := arg_zi w0
  obtain ⟨hzb, hcb, hbb⟩ := arg_zi w1
  have HA := Lib.hid (And.intro hza (And.intro hca hba))
  have HB := Lib.hid (And.intro hzb (And.intro hcb hbb))
  have K0 := Lib.hid k0
  have K1 := Lib.hid k1
  have BM := Lib.hid (bounds_i64 w2)
  have BN := Lib.hid (bounds_i64 w3)
  clear hza hca hba hzb hcb hbb w0 w1 w2 w3 k0 k1
  go_enter Try.func4, Try.ntmps4
  go_wp2_with fail
  go_at_call 6
  refine (new_any a4 len4 cap4 z4 w w4).mono ?_
  rintro e v1 ⟨g, rfl, hg, ho1, hb1⟩
  have HO1 := Lib.hid ho1
  have HB1 := Lib.hid hb1
  have LA : Hid (Ls g v1 (.slice a0 len0 cap0)) := ⟨_, _, _, _, rfl, HA.out.2.1, by have := K0.out; omega, HA.out.1.bel hb1, fun ad e h0 => by have := HA.out.2.2 ad e h0; omega⟩
  have LB : Hid (Ls g v1 (.slice a1 len1 cap1)) := ⟨_, _, _, _, rfl, HB.out.2.1, by have := K1.out; omega, HB.out.1.bel hb1, fun ad e h0 => by have := HB.out.2.2 ad e h0; omega⟩
  clear ho1 hb1 w4 HA HB K0 K1 e0 e1 e2 e3
  go_wp2_with fail
  go_at_call 7
  refine (pair_any g _ HO1.out).mono ?_
  rintro e v2 ⟨xa, xb, ya, yb, n, L, M, rfl, n1, n2, hxy, hox, hoy, lL, lM, sL, sM, ho2, hc2⟩
  obtain ⟨xa', xb', hxe, hxc, hxg⟩ := row_form hox (by omega)
  obtain ⟨ya', yb', hye, hyc, hyg⟩ := row_form hoy (by omega)
  cases hxe
  cases hye
  have hgv := HO1.out.lt
  have HO2 := Lib.hid ho2
  have HC2 := Lib.hid hc2
  have ZX2 := Lib.hid (own_zi hox lL)
  have ZY2 := Lib.hid (own_zi hoy lM)
  have NX : Hid (∀ ad, some (⟨xa, 0, none⟩ : Addr) = some ad → 0 < n → ad.block ≠ g) := fun ad e _ => by cases e; show xa ≠ g; omega
  have NY : Hid (∀ ad, some (⟨ya, 0, none⟩ : Addr) = some ad → 0 < n → ad.block ≠ g) := fun ad e _ => by cases e; show ya ≠ g; omega
  have SX := Lib.hid sL
  have SY := Lib.hid sM
  have NN := Lib.hid (And.intro n1 (And.intro n2 (And.intro hxc hyc)))
  clear ho2 hc2 hox hoy lL lM sL sM hxy hxg hyg
  have nb1 : 2 ≤ (n : Int) := by have := NN.out.1; omega
  have nb2 : (n : Int) ≤ 32 := by have := NN.out.2.1; omega
  have MN : Hid (∀ W, Calls Try.prog 22 #[.int .i64 a3, .int .i64 11] W fun e w' => e = .returned (.int .i64 (a3 % 11)) ∧ W = w') := fun W => mod_any a3 11 (by decide) (by decide) BN.out.1 BN.out.2 W
  have MM : Hid (∀ W, Calls Try.prog 22 #[.int .i64 a2, .int .i64 40] W fun e w' => e = .returned (.int .i64 (a2 % 40)) ∧ W = w') := fun W => mod_any a2 40 (by decide) (by decide) BM.out.1 BM.out.2 W
  have wn : IntKind.i64.wrap ((n : Int) + 1) = (n : Int) + 1 := IntWalk.i64_in _ (by omega)
  have wn2 : wrap64 ((n : Int) + 1) = (n : Int) + 1 := IntWalk.wrap64_in _ (by omega)
  have CK : Hid (∀ W, Ok W g → Calls Try.prog 21 #[.pointer (some ⟨g, 0, none⟩), .int .i64 (n : Int)] W _) := fun W h => count_any g n (by omega) (by omega) W h
  go_wp2_with fail
  go_at_call 21
  refine (CK.out _ HO2.out).mono ?_
  rintro e v3 ⟨cn, rfl, _, _, _, ho3, hc3⟩
  have HO3 := Lib.hid ho3
  have HC3 : Hid (Ch g v1 v3) := HC2.out.tr hc3
  have HC23 := Lib.hid hc3
  clear ho3 hc3
  go_wp2_with fail
  go_at_call 22
  refine (MN.out _).mono ?_
  rintro e v ⟨rfl, rfl⟩
  go_wp2_with fail
  have hq4 : ∀ j, j < 5 → ∃ x, (v3.alloc (.cells #[.int .i64 a3, .int .i64 (cn : Int), .int .i64 (a3 % 11), .int .i64 (n : Int), .int .i64 ((n : Int) + 1)] 3)).cell? ⟨v3.heap.size, j, none⟩ = some (.int .i64 x) := fun j hj => by
    have hB : Bk (v3.alloc (.cells #[.int .i64 a3, .int .i64 (cn : Int), .int .i64 (a3 % 11), .int .i64 (n : Int), .int .i64 ((n : Int) + 1)] 3)) v3.heap.size 3 #[.int .i64 a3, .int .i64 (cn : Int), .int .i64 (a3 % 11), .int .i64 (n : Int), .int .i64 ((n : Int) + 1)] := Bk.nw _ _ _
    rcases (by omega : j = 0 ∨ j = 1 ∨ j = 2 ∨ j = 3 ∨ j = 4) with rfl | rfl | rfl | rfl | rfl
    all_goals exact ⟨_, hB.cell _⟩
  obtain ⟨v4, hv4⟩ : ∃ x, (v3.alloc (.cells #[.int .i64 a3, .int .i64 (cn : Int), .int .i64 (a3 % 11), .int .i64 (n : Int), .int .i64 ((n : Int) + 1)] 3)) = x := ⟨_, rfl⟩
  have HO4 : Hid (Ok v4 g) := by rw [← hv4]; exact HO3.out.bel (Bel.rf.al _)
  have HC4 : Hid (Ch g v1 v4) := by rw [← hv4]; exact HC3.out.al _
  have C24 : Ch g v2 v4 := by rw [← hv4]; exact HC23.out.al _
  have hgq : g < v3.heap.size := HO3.out.lt
  obtain ⟨r, hr⟩ : ∃ x, v3.heap.size = x := ⟨_, rfl⟩
  rw [hv4, hr] at hq4
  rw [hr] at hgq ⊢
  rw [hv4]
  have HGR := Lib.hid hgq
  have HQ4 := Lib.hid hq4
  have hgv4 : g < v4.heap.size := HO4.out.lt
  have BY : Hid _ := bent_ch g (some ⟨ya, 0, none⟩) n yb M (by have := NN.out.2.1; omega) SY.out v4 hgv4 (zi_chn ZY2.out C24 NY.out) NY.out
  have LA4 : Hid (Ls g v4 (.slice a0 len0 cap0)) := LA.out.ch HC4.out
  have LB4 : Hid (Ls g v4 (.slice a1 len1 cap1)) := LB.out.ch HC4.out
  have LX4 : Hid (Ls g v4 (.slice (some ⟨xa, 0, none⟩) n xb)) := ⟨_, _, _, _, rfl, NN.out.2.2.1, by have := NN.out.2.1; omega, zi_chn ZX2.out C24 NX.out, NX.out⟩
  have LY4 : Hid (Ls g v4 (.slice (some ⟨ya, 0, none⟩) n yb)) := ⟨_, _, _, _, rfl, NN.out.2.2.2, by have := NN.out.2.1; omega, zi_chn ZY2.out C24 NY.out, NY.out⟩
  have LT4 : Hid (Ls g v4 (.slice (some ⟨xa, 1, none⟩) (n - 1) (xb - 1))) := ⟨_, _, _, _, rfl, by have := NN.out; omega, by have := NN.out.2.1; omega, zi_part (zi_chn ZX2.out C24 NX.out) 1 (n - 1) (by have := NN.out.1; omega), fun ad e _ => by cases e; exact NX.out ⟨xa, 0, none⟩ rfl (by have := NN.out.1; omega)⟩
  have HBW : Hid (Bel w v4) := Bel.ch HB1.out HC4.out hg
  have x1 : 1 ≤ n := by have := NN.out.1; omega
  have x2 : (1 : Int) ≤ (n : Int) := by omega
  have x3 : n ≤ xb := NN.out.2.2.1
  have x4 : (n : Int) ≤ (xb : Int) := by omega
  have x5 : ¬ xb = 1 := by omega
  clear hq4 hv4 hr hgq C24 HO1 HO2 HO3 HC2 HC3 HC4 HC23 ZX2 ZY2 NX NY SX SY NN LA LB HB1 hgv hgv4 CK MN BN BM n1 n2 hxc hyc wn wn2
  go_loopw [66] (fun s66 wr => ∃ (k : Nat) (V : World), V = wr ∧ k ≤ 5 ∧ s66 = .int .i64 (k : Int) ∧ Ok wr g ∧ Ch g v4 wr) (fun s66 _ => 5 - (intOf s66).toNat)
  case atStart => exact ⟨0, _, rfl, by omega, rfl, HO4.out, Ch.rf⟩
  case round =>
    obtain ⟨k, V5, hV5, hk, rfl, hok, hch⟩ := hrel
    subst hV5
    have HO5 := Lib.hid hok
    have HC5 := Lib.hid hch
    have hgr := HGR.out
    rcases Nat.lt_or_ge k 5 with hlt | hge
    · have kk : (k : Int) < 5 := by omega
      obtain ⟨K, hK⟩ := HQ4.out k hlt
      have cK : V5.cell? ⟨r, k, none⟩ = some (.int .i64 K) := hch.kp hK (by show r ≠ g; omega)
      clear hK hok hch hgr
      go_upto_region 8 with fail
      clear cK
      go_cut [85, 86, 87] (fun s85 s86 s87 wx => ∃ (B : Nat) (V : World), V = wx ∧ s85 = .slice (some ⟨B, 0, none⟩) 4 4 ∧ s86 = .int .i64 4 ∧ s87 = .int .i64 0 ∧ Lrow g wx B 8 ∧ Ok wx g ∧ Ch g v4 wx)
      case first =>
        go_region_held3 (fun _ => True) (exact trivial)
          (first | (go_at_call 10; with_reducible refine (BY.out _ (HC5.out.tr (by repeat (first | exact Ch.rf | (with_reducible refine Ch.drwN ?_ _) | (with_reducible refine Ch.drw ?_) | (with_reducible refine Ch.al ?_ _) | (refine Ch.tr ?_ (by assumption))))) (by repeat (first | exact HO5.out | assumption | (with_reducible refine Ok.drwN ?_ _) | (with_reducible refine Ok.bel ?_ Bel.rf.drw)))).mono ?_; rintro e s2 ⟨q1, q2, q3, rfl, ly, oy, cy⟩))
        all_goals
          go_wp2_with fail
          go_meet
          case rel =>
            have C41 : Ch g v4 s2 := HC5.out.tr (Ch.tr (by repeat (first | exact Ch.rf | (with_reducible refine Ch.drwN ?_ _) | (with_reducible refine Ch.drw ?_) | (with_reducible refine Ch.al ?_ _) | (refine Ch.tr ?_ (by assumption)))) cy)
            refine ⟨_, _, rfl, rfl, rfl, rfl, new_row C41 oy [.slice a0 len0 cap0, .slice a1 len1 cap1, .slice (some ⟨xa, 0, none⟩) n xb, .slice (some ⟨ya, 0, none⟩) n yb, .slice (some ⟨xa, 0, none⟩) n xb, .slice q1 q2 q3, .slice (some ⟨xa, 1, none⟩) (n - 1) (xb - 1), .slice (some ⟨ya, 0, none⟩) n yb] _ ?_⟩
            exact List.forall_mem_cons.2 ⟨LA4.out.ch C41, List.forall_mem_cons.2 ⟨LB4.out.ch C41, List.forall_mem_cons.2 ⟨LX4.out.ch C41, List.forall_mem_cons.2 ⟨LY4.out.ch C41, List.forall_mem_cons.2 ⟨LX4.out.ch C41, List.forall_mem_cons.2 ⟨ly, List.forall_mem_cons.2 ⟨LT4.out.ch C41, List.forall_mem_cons.2 ⟨LY4.out.ch C41, fun _ h => (List.not_mem_nil h).elim⟩⟩⟩⟩⟩⟩⟩⟩
      case rest =>
      obtain ⟨B, V, hV, rfl, rfl, rfl, hrow, hok, hch⟩ := hcut
      subst hV
      have HR := Lib.hid hrow
      have HO := Lib.hid hok
      have HC := Lib.hid hch
      clear hrow hok hch HO5 HC5
      go_wp2_with fail
      go_loopw [87] (fun s87 wr => ∃ (t : Nat) (V' : World), V' = wr ∧ t ≤ 4 ∧ s87 = .int .i64 (t : Int) ∧ Bel V wr) (fun s87 _ => 4 - (intOf s87).toNat)
      case atStart => exact ⟨0, _, rfl, by omega, rfl, Bel.rf⟩
      case round =>
        obtain ⟨t, V5, hV5, ht, rfl, hb5⟩ := hrel
        subst hV5
        have HB5 := Lib.hid hb5
        rcases Nat.lt_or_ge t 4 with tlt | tge
        · have tt : (t : Int) < 4 := by omega
          have HR5 : Hid (Lrow g V5 B 8) := HR.out.bel hb5
          clear hb5
          go_upto_region 10 with fail
          go_cut [17] from 89 to 192 (fun s17 wx => ∃ (h : Nat) (A1 A2 : Option Addr) (n1 c1 n2 c2 : Nat) (V' : World), V' = wx ∧ s17 = .pointer (some ⟨h, 0, none⟩) ∧ Bk wx h 30 #[.slice A1 n1 c1, .slice A2 n2 c2] ∧ Ls g wx (.slice A1 n1 c1) ∧ Ls g wx (.slice A2 n2 c2) ∧ Bel V wx)
          case first =>
            rcases (by omega : t = 0 ∨ t = 1 ∨ t = 2 ∨ t = 3) with rfl | rfl | rfl | rfl
            · obtain ⟨_, c0, A1, n1, b1, L1, rfl, k11, k12, k13, k14⟩ := HR5.out.2 0 (by omega)
              obtain ⟨_, c1, A2, n2, b2, L2, rfl, k21, k22, k23, k24⟩ := HR5.out.2 1 (by omega)
              have HP := Lib.hid (And.intro k11 (And.intro k12 (And.intro k13 k14)))
              have HQ := Lib.hid (And.intro k21 (And.intro k22 (And.intro k23 k24)))
              clear k11 k12 k13 k14 k21 k22 k23 k24
              go_wp2_with fail
              go_meet
              case rel => exact ⟨V5.heap.size, A1, A2, n1, b1, n2, b2, _, rfl, rfl, Bk.nw _ _ _, Ls.bel ⟨_, _, _, _, rfl, HP.out.1, HP.out.2.1, HP.out.2.2.1, HP.out.2.2.2⟩ (Bel.rf.al _), Ls.bel ⟨_, _, _, _, rfl, HQ.out.1, HQ.out.2.1, HQ.out.2.2.1, HQ.out.2.2.2⟩ (Bel.rf.al _), HB5.out.al _⟩
            · obtain ⟨_, c0, A1, n1, b1, L1, rfl, k11, k12, k13, k14⟩ := HR5.out.2 2 (by omega)
              obtain ⟨_, c1, A2, n2, b2, L2, rfl, k21, k22, k23, k24⟩ := HR5.out.2 3 (by omega)
              have HP := Lib.hid (And.intro k11 (And.intro k12 (And.intro k13 k14)))
              have HQ := Lib.hid (And.intro k21 (And.intro k22 (And.intro k23 k24)))
              clear k11 k12 k13 k14 k21 k22 k23 k24
              go_wp2_with fail
              go_meet
              case rel => exact ⟨V5.heap.size, A1, A2, n1, b1, n2, b2, _, rfl, rfl, Bk.nw _ _ _, Ls.bel ⟨_, _, _, _, rfl, HP.out.1, HP.out.2.1, HP.out.2.2.1, HP.out.2.2.2⟩ (Bel.rf.al _), Ls.bel ⟨_, _, _, _, rfl, HQ.out.1, HQ.out.2.1, HQ.out.2.2.1, HQ.out.2.2.2⟩ (Bel.rf.al _), HB5.out.al _⟩
            · obtain ⟨_, c0, A1, n1, b1, L1, rfl, k11, k12, k13, k14⟩ := HR5.out.2 4 (by omega)
              obtain ⟨_, c1, A2, n2, b2, L2, rfl, k21, k22, k23, k24⟩ := HR5.out.2 5 (by omega)
              have HP := Lib.hid (And.intro k11 (And.intro k12 (And.intro k13 k14)))
              have HQ := Lib.hid (And.intro k21 (And.intro k22 (And.intro k23 k24)))
              clear k11 k12 k13 k14 k21 k22 k23 k24
              go_wp2_with fail
              go_meet
              case rel => exact ⟨V5.heap.size, A1, A2, n1, b1, n2, b2, _, rfl, rfl, Bk.nw _ _ _, Ls.bel ⟨_, _, _, _, rfl, HP.out.1, HP.out.2.1, HP.out.2.2.1, HP.out.2.2.2⟩ (Bel.rf.al _), Ls.bel ⟨_, _, _, _, rfl, HQ.out.1, HQ.out.2.1, HQ.out.2.2.1, HQ.out.2.2.2⟩ (Bel.rf.al _), HB5.out.al _⟩
            · obtain ⟨_, c0, A1, n1, b1, L1, rfl, k11, k12, k13, k14⟩ := HR5.out.2 6 (by omega)
              obtain ⟨_, c1, A2, n2, b2, L2, rfl, k21, k22, k23, k24⟩ := HR5.out.2 7 (by omega)
              have HP := Lib.hid (And.intro k11 (And.intro k12 (And.intro k13 k14)))
              have HQ := Lib.hid (And.intro k21 (And.intro k22 (And.intro k23 k24)))
              clear k11 k12 k13 k14 k21 k22 k23 k24
              go_wp2_with fail
              go_meet
              case rel => exact ⟨V5.heap.size, A1, A2, n1, b1, n2, b2, _, rfl, rfl, Bk.nw _ _ _, Ls.bel ⟨_, _, _, _, rfl, HP.out.1, HP.out.2.1, HP.out.2.2.1, HP.out.2.2.2⟩ (Bel.rf.al _), Ls.bel ⟨_, _, _, _, rfl, HQ.out.1, HQ.out.2.1, HQ.out.2.2.1, HQ.out.2.2.2⟩ (Bel.rf.al _), HB5.out.al _⟩
          case rest =>
          obtain ⟨h, A1, A2, n1, c1, n2, c2, V6, hV6, rfl, hbk, l1, l2, hb6⟩ := hcut
          subst hV6
          have HB6 := Lib.hid hb6
          have HK6 := Lib.hid hbk
          obtain ⟨_, _, _, L1, e1, k11, k12, hz1, hq1⟩ := l1
          obtain ⟨_, _, _, L2, e2, k21, k22, hz2, hq2⟩ := l2
          cases e1
          cases e2
          obtain ⟨E1, N1, R1, i1, j1, p1, p2⟩ := both_sums A1 c1 n1 L1 K (by omega) k11
          obtain ⟨E2, N2, R2, i2, j2, p3, p4⟩ := both_cen A1 c1 n1 L1 K (by omega) k11
          obtain ⟨E3, K3, d3, p5, p6⟩ := both_lower A1 A2 c1 c2 n1 n2 L1 L2 K (by omega) (by omega) k11 k21
          obtain ⟨E4, K4, d4, p7, p8⟩ := both_pshift A1 A2 c1 c2 n1 n2 L1 L2 K (by omega) (by omega) k11 k21
          have H1 : Hid (∀ W, Bel V6 W → _) := fun W hb => p1 W (hz1.bel hb)
          have H2 : Hid (∀ W, Bel V6 W → _) := fun W hb => p2 W (hz1.bel hb)
          have H3 : Hid (∀ W, Bel V6 W → _) := fun W hb => p3 W (hz1.bel hb)
          have H4 : Hid (∀ W, Bel V6 W → _) := fun W hb => p4 W (hz1.bel hb)
          have H5 : Hid (∀ W, Bel V6 W → _) := fun W hb => p5 W (hz1.bel hb) (hz2.bel hb)
          have H6 : Hid (∀ W, Bel V6 W → _) := fun W hb => p6 W (hz1.bel hb) (hz2.bel hb)
          have H7 : Hid (∀ W, Bel V6 W → _) := fun W hb => p7 W (hz1.bel hb) (hz2.bel hb)
          have H8 : Hid (∀ W, Bel V6 W → _) := fun W hb => p8 W (hz1.bel hb) (hz2.bel hb)
          have HD := Lib.hid (And.intro d3 d4)
          have HIJ := Lib.hid (And.intro i1 i2)
          have z0 : V6.cell? ⟨h, 0, none⟩ = some (.slice A1 n1 c1) := hbk.cell 0
          clear hb6 hbk k11 k12 hz1 hq1 k21 k22 hz2 hq2 p1 p2 p3 p4 p5 p6 p7 p8 d3 d4 i1 i2 j1 j2 HR5 HB5
          go_wp2_with fail
          go_at_call 23
          refine (H1.out _ (by repeat (first | exact Bel.rf | (with_reducible refine Bel.drwN ?_ _) | (with_reducible refine Bel.drw ?_) | (with_reducible refine Bel.al ?_ _) | (refine Bel.tr ?_ (by assumption))))).mono ?_
          rintro e W1 ⟨S1, f1, rfl, y1, hb1⟩
          have B1 : Bel V6 W1 := (by repeat (first | exact Bel.rf | (with_reducible refine Bel.drwN ?_ _) | (with_reducible refine Bel.drw ?_) | (with_reducible refine Bel.al ?_ _) | (refine Bel.tr ?_ (by assumption))))
          have z1 := B1.kp z0
          have HB1 := Lib.hid B1
          have HY1 := Lib.hid y1
          clear z0 hb1 B1 y1
          go_wp2_with fail
          go_at_call 24
          refine (H2.out _ (HB1.out.tr (by repeat (first | exact Bel.rf | (with_reducible refine Bel.drwN ?_ _) | (with_reducible refine Bel.drw ?_) | (with_reducible refine Bel.al ?_ _) | (refine Bel.tr ?_ (by assumption)))))).mono ?_
          rintro e W2 ⟨S2, f2, rfl, y2, hb2⟩
          have B2 : Bel W1 W2 := (by repeat (first | exact Bel.rf | (with_reducible refine Bel.drwN ?_ _) | (with_reducible refine Bel.drw ?_) | (with_reducible refine Bel.al ?_ _) | (refine Bel.tr ?_ (by assumption))))
          have z2 := B2.kp z1
          have HB2 := Lib.hid (HB1.out.tr B2)
          have HY2 := Lib.hid y2
          have HY12 := Lib.hid (HY1.out.bel B2)
          clear z1 hb2 B2 y2 HY1 HB1
          go_wp2_with fail
          go_at_call 25
          refine (H3.out _ (HB2.out.tr (by repeat (first | exact Bel.rf | (with_reducible refine Bel.drwN ?_ _) | (with_reducible refine Bel.drw ?_) | (with_reducible refine Bel.al ?_ _) | (refine Bel.tr ?_ (by assumption)))))).mono ?_
          rintro e W3 ⟨S3, f3, rfl, y3, hb3⟩
          have B3 : Bel W2 W3 := (by repeat (first | exact Bel.rf | (with_reducible refine Bel.drwN ?_ _) | (with_reducible refine Bel.drw ?_) | (with_reducible refine Bel.al ?_ _) | (refine Bel.tr ?_ (by assumption))))
          have z3 := B3.kp z2
          have HB3 := Lib.hid (HB2.out.tr B3)
          have HY3 := Lib.hid y3
          have HY13 := Lib.hid (HY12.out.bel B3)
          have HY23 := Lib.hid (HY2.out.bel B3)
          clear z2 hb3 B3 y3 HY12 HY2 HB2
          go_wp2_with fail
          go_at_call 26
          refine (H4.out _ (HB3.out.tr (by repeat (first | exact Bel.rf | (with_reducible refine Bel.drwN ?_ _) | (with_reducible refine Bel.drw ?_) | (with_reducible refine Bel.al ?_ _) | (refine Bel.tr ?_ (by assumption)))))).mono ?_
          rintro e W4 ⟨S4, f4, rfl, y4, hb4⟩
          have B4 : Bel W3 W4 := (by repeat (first | exact Bel.rf | (with_reducible refine Bel.drwN ?_ _) | (with_reducible refine Bel.drw ?_) | (with_reducible refine Bel.al ?_ _) | (refine Bel.tr ?_ (by assumption))))
          have HB4 := Lib.hid (HB3.out.tr B4)
          have HY4 := Lib.hid y4
          have HY14 := Lib.hid (HY13.out.bel B4)
          have HY24 := Lib.hid (HY23.out.bel B4)
          have HY34 := Lib.hid (HY3.out.bel B4)
          have ke1 := ne_self E1
          have ke2 := ne_self E2
          clear z3 hb4 B4 y4 HY13 HY23 HY3 HB3
          go_wp2_with fail
          go_at_call 19
          refine (ints_same S1 S2 f1 f2 N1 R1 (by have := HIJ.out.1; omega) _ (HY14.out.bel (by repeat (first | exact Bel.rf | (with_reducible refine Bel.drwN ?_ _) | (with_reducible refine Bel.drw ?_) | (with_reducible refine Bel.al ?_ _) | (refine Bel.tr ?_ (by assumption))))) (HY24.out.bel (by repeat (first | exact Bel.rf | (with_reducible refine Bel.drwN ?_ _) | (with_reducible refine Bel.drw ?_) | (with_reducible refine Bel.al ?_ _) | (refine Bel.tr ?_ (by assumption)))))).mono ?_
          rintro e W5 ⟨rfl, hb5⟩
          have B5 : Bel W4 W5 := (by repeat (first | exact Bel.rf | (with_reducible refine Bel.drwN ?_ _) | (with_reducible refine Bel.drw ?_) | (with_reducible refine Bel.al ?_ _) | (refine Bel.tr ?_ (by assumption))))
          have HB5 := Lib.hid (HB4.out.tr B5)
          have HY35 := Lib.hid (HY34.out.bel B5)
          have HY45 := Lib.hid (HY4.out.bel B5)
          clear hb5 B5 HY14 HY24 HY34 HY4 HB4
          go_wp2_with fail
          go_at_call 19
          refine (ints_same S3 S4 f3 f4 N2 R2 (by have := HIJ.out.2; omega) _ (HY35.out.bel (by repeat (first | exact Bel.rf | (with_reducible refine Bel.drwN ?_ _) | (with_reducible refine Bel.drw ?_) | (with_reducible refine Bel.al ?_ _) | (refine Bel.tr ?_ (by assumption))))) (HY45.out.bel (by repeat (first | exact Bel.rf | (with_reducible refine Bel.drwN ?_ _) | (with_reducible refine Bel.drw ?_) | (with_reducible refine Bel.al ?_ _) | (refine Bel.tr ?_ (by assumption)))))).mono ?_
          rintro e W6 ⟨rfl, hb6⟩
          have B6 : Bel W5 W6 := (by repeat (first | exact Bel.rf | (with_reducible refine Bel.drwN ?_ _) | (with_reducible refine Bel.drw ?_) | (with_reducible refine Bel.al ?_ _) | (refine Bel.tr ?_ (by assumption))))
          have HB6' := Lib.hid (HB5.out.tr B6)
          have z0 : W6.cell? ⟨h, 0, none⟩ = some (.slice A1 n1 c1) := (HK6.out.bel HB6'.out).cell 0
          have z1 : W6.cell? ⟨h, 1, none⟩ = some (.slice A2 n2 c2) := (HK6.out.bel HB6'.out).cell 1
          clear hb6 B6 HY35 HY45 HB5
          go_wp2_with fail
          clear ke1 ke2
          go_at_call 27
          refine (H5.out _ (HB6'.out.tr (by repeat (first | exact Bel.rf | (with_reducible refine Bel.drwN ?_ _) | (with_reducible refine Bel.drw ?_) | (with_reducible refine Bel.al ?_ _) | (refine Bel.tr ?_ (by assumption)))))).mono ?_
          rintro e W7 ⟨X3, Y3, rfl, hk3, hb7⟩
          have B7 : Bel W6 W7 := (by repeat (first | exact Bel.rf | (with_reducible refine Bel.drwN ?_ _) | (with_reducible refine Bel.drw ?_) | (with_reducible refine Bel.al ?_ _) | (refine Bel.tr ?_ (by assumption))))
          have HB7 := Lib.hid (HB6'.out.tr B7)
          have o7 : ∀ o, (W7.alloc o).cell? ⟨h, 0, none⟩ = some (.slice A1 n1 c1) := fun o => kp_al (B7.kp z0) o
          have q7 : ∀ o, (W7.alloc o).cell? ⟨h, 1, none⟩ = some (.slice A2 n2 c2) := fun o => kp_al (B7.kp z1) o
          have HK3 := Lib.hid hk3
          clear z0 z1 hb7 B7 hk3
          go_wp2_with fail
          go_at_call 28
          refine (H6.out _ (HB7.out.tr (by repeat (first | exact Bel.rf | (with_reducible refine Bel.drwN ?_ _) | (with_reducible refine Bel.drw ?_) | (with_reducible refine Bel.al ?_ _) | (refine Bel.tr ?_ (by assumption)))))).mono ?_
          rintro e W8 ⟨X4, Y4, rfl, hk4, hb8⟩
          obtain ⟨rfl, rfl⟩ := HD.out.1 _ _ _ _ HK3.out hk4
          have P7 : Bk W8 W7.heap.size 37 #[.int .i64 X3, .int .i64 Y3] := (Bk.nw W7 _ _).bel hb8
          have B8 : Bel W7 W8 := (by repeat (first | exact Bel.rf | (with_reducible refine Bel.drwN ?_ _) | (with_reducible refine Bel.drw ?_) | (with_reducible refine Bel.al ?_ _) | (refine Bel.tr ?_ (by assumption))))
          have HB8 := Lib.hid (HB7.out.tr B8)
          have HP7 := Lib.hid P7
          have z0 : W8.cell? ⟨h, 0, none⟩ = some (.slice A1 n1 c1) := (HK6.out.bel HB8.out).cell 0
          have z1 : W8.cell? ⟨h, 1, none⟩ = some (.slice A2 n2 c2) := (HK6.out.bel HB8.out).cell 1
          have o8 : ∀ o, (W8.alloc o).cell? ⟨h, 0, none⟩ = some (.slice A1 n1 c1) := fun o => kp_al z0 o
          have q8 : ∀ o, (W8.alloc o).cell? ⟨h, 1, none⟩ = some (.slice A2 n2 c2) := fun o => kp_al z1 o
          clear o7 q7 hb8 B8 hk4 P7 z0 z1 HB7
          go_wp2_with fail
          go_at_call 29
          refine (H7.out _ (HB8.out.tr (by repeat (first | exact Bel.rf | (with_reducible refine Bel.drwN ?_ _) | (with_reducible refine Bel.drw ?_) | (with_reducible refine Bel.al ?_ _) | (refine Bel.tr ?_ (by assumption)))))).mono ?_
          rintro e W9 ⟨X5, Y5, rfl, hk5, hb9⟩
          have P8 : Bk W9 W8.heap.size 37 #[.int .i64 X3, .int .i64 Y3] := (Bk.nw W8 _ _).bel hb9
          have B9 : Bel W8 W9 := (by repeat (first | exact Bel.rf | (with_reducible refine Bel.drwN ?_ _) | (with_reducible refine Bel.drw ?_) | (with_reducible refine Bel.al ?_ _) | (refine Bel.tr ?_ (by assumption))))
          have HB9 := Lib.hid (HB8.out.tr B9)
          have HP8 := Lib.hid P8
          have HP79 := Lib.hid (HP7.out.bel B9)
          have HK5 := Lib.hid hk5
          have z0 : W9.cell? ⟨h, 0, none⟩ = some (.slice A1 n1 c1) := (HK6.out.bel HB9.out).cell 0
          have z1 : W9.cell? ⟨h, 1, none⟩ = some (.slice A2 n2 c2) := (HK6.out.bel HB9.out).cell 1
          have o9 : ∀ o, (W9.alloc o).cell? ⟨h, 0, none⟩ = some (.slice A1 n1 c1) := fun o => kp_al z0 o
          have q9 : ∀ o, (W9.alloc o).cell? ⟨h, 1, none⟩ = some (.slice A2 n2 c2) := fun o => kp_al z1 o
          clear o8 q8 hb9 B9 hk5 P8 z0 z1 HB8 HP7
          go_wp2_with fail
          go_at_call 30
          refine (H8.out _ (HB9.out.tr (by repeat (first | exact Bel.rf | (with_reducible refine Bel.drwN ?_ _) | (with_reducible refine Bel.drw ?_) | (with_reducible refine Bel.al ?_ _) | (refine Bel.tr ?_ (by assumption)))))).mono ?_
          rintro e W10 ⟨X6, Y6, rfl, hk6, hb10⟩
          obtain ⟨rfl, rfl⟩ := HD.out.2 _ _ _ _ HK5.out hk6
          have P9 : Bk W10 W9.heap.size 37 #[.int .i64 X5, .int .i64 Y5] := (Bk.nw W9 _ _).bel hb10
          have B10 : Bel W9 W10 := (by repeat (first | exact Bel.rf | (with_reducible refine Bel.drwN ?_ _) | (with_reducible refine Bel.drw ?_) | (with_reducible refine Bel.al ?_ _) | (refine Bel.tr ?_ (by assumption))))
          have P8 := HP8.out.bel B10
          have P7 := HP79.out.bel B10
          have s0 : ∀ o, (W10.alloc o).cell? ⟨W7.heap.size, 0, none⟩ = some (.int .i64 X3) := fun o => kp_al (P7.cell 0) o
          have s1 : ∀ o, (W10.alloc o).cell? ⟨W7.heap.size, 1, none⟩ = some (.int .i64 Y3) := fun o => kp_al (P7.cell 1) o
          have s2 : ∀ o, (W10.alloc o).cell? ⟨W8.heap.size, 0, none⟩ = some (.int .i64 X3) := fun o => kp_al (P8.cell 0) o
          have s3 : ∀ o, (W10.alloc o).cell? ⟨W8.heap.size, 1, none⟩ = some (.int .i64 Y3) := fun o => kp_al (P8.cell 1) o
          have s4 : ∀ o, (W10.alloc o).cell? ⟨W9.heap.size, 0, none⟩ = some (.int .i64 X5) := fun o => kp_al (P9.cell 0) o
          have s5 : ∀ o, (W10.alloc o).cell? ⟨W9.heap.size, 1, none⟩ = some (.int .i64 Y5) := fun o => kp_al (P9.cell 1) o
          have HB10 : Hid (Bel V W10) := HB6.out.tr (HB9.out.tr B10)
          have ke3 := ne_self E3
          have ke4 := ne_self E4
          have kx3 := ne_self X3
          have ky3 := ne_self Y3
          have kx5 := ne_self X5
          have ky5 := ne_self Y5
          clear o9 q9 hb10 B10 hk6 P9 P8 P7 HP8 HP79 HB9 HK3 HK5 H1 H2 H3 H4 H5 H6 H7 H8
          go_wp2_with fail
          go_roundw
          case rel => exact ⟨t + 1, _, rfl, by omega, by go_num, HB10.out.tr (by repeat (first | exact Bel.rf | (with_reducible refine Bel.drwN ?_ _) | (with_reducible refine Bel.drw ?_) | (with_reducible refine Bel.al ?_ _) | (refine Bel.tr ?_ (by assumption))))⟩
          case measure => simp [intOf]; omega
        · have ht4 : t = 4 := by omega
          subst ht4
          have HC8 : Hid (Ok V5 g ∧ Ch g v4 V5) := ⟨HO.out.bel hb5, HC.out.tr (Ch.of_bel hb5)⟩
          clear hb5 HR HO HC HB5
          go_wp2_with fail
          go_at_call 22
          refine (MM.out _).mono ?_
          rintro e v ⟨rfl, rfl⟩
          go_wp2_with fail
          have hq6 : ∀ j, j < 3 → ∃ x, (V5.alloc (.cells #[.int .i64 a2, .int .i64 (n : Int), .int .i64 (a2 % 40)] 3)).cell? ⟨V5.heap.size, j, none⟩ = some (.int .i64 x) := fun j hj => by
            have hB : Bk (V5.alloc (.cells #[.int .i64 a2, .int .i64 (n : Int), .int .i64 (a2 % 40)] 3)) V5.heap.size 3 #[.int .i64 a2, .int .i64 (n : Int), .int .i64 (a2 % 40)] := Bk.nw _ _ _
            rcases (by omega : j = 0 ∨ j = 1 ∨ j = 2) with rfl | rfl | rfl
            all_goals exact ⟨_, hB.cell _⟩
          have HQ6 := Lib.hid hq6
          have HC9 : Hid (Ok (V5.alloc (.cells #[.int .i64 a2, .int .i64 (n : Int), .int .i64 (a2 % 40)] 3)) g ∧ Ch g v4 (V5.alloc (.cells #[.int .i64 a2, .int .i64 (n : Int), .int .i64 (a2 % 40)] 3))) := ⟨HC8.out.1.bel (Bel.rf.al _), HC8.out.2.al _⟩
          obtain ⟨V6, hV6⟩ : ∃ x, (V5.alloc (.cells #[.int .i64 a2, .int .i64 (n : Int), .int .i64 (a2 % 40)] 3)) = x := ⟨_, rfl⟩
          obtain ⟨q, hq⟩ : ∃ x, V5.heap.size = x := ⟨_, rfl⟩
          rw [hV6] at HC9 HQ6 ⊢
          rw [hq] at HQ6 ⊢
          clear hV6 hq hq6 HC8
          go_loopw [201] (fun s201 wr => ∃ (i : Nat) (V : World), V = wr ∧ i ≤ 3 ∧ s201 = .int .i64 (i : Int) ∧ Bel V6 wr) (fun s201 _ => 3 - (intOf s201).toNat)
          case atStart => exact ⟨0, _, rfl, by omega, rfl, Bel.rf⟩
          case round =>
            obtain ⟨i, V7, hV7, hi, rfl, hb7⟩ := hrel
            subst hV7
            have HB7 := Lib.hid hb7
            rcases Nat.lt_or_ge i 3 with ilt | ige
            · have ii : (i : Int) < 3 := by omega
              obtain ⟨x, hx⟩ := HQ6.out i ilt
              have cx := hb7.kp hx
              obtain ⟨E5, N5, R5, n5, l5, p9, p10⟩ := both_starts x K
              have HP9 := Lib.hid p9
              have HP10 := Lib.hid p10
              have HN5 := Lib.hid n5
              have ke5 := ne_self E5
              clear hb7 hx p9 p10 n5 l5
              go_wp2_with fail
              go_at_call 31
              refine (HP9.out _).mono ?_
              rintro e W1 ⟨S1, f1, rfl, y1, hb1⟩
              have B1 : Bel V7 W1 := (by repeat (first | exact Bel.rf | (with_reducible refine Bel.drwN ?_ _) | (with_reducible refine Bel.drw ?_) | (with_reducible refine Bel.al ?_ _) | (refine Bel.tr ?_ (by assumption))))
              have HB1 := Lib.hid B1
              have HY1 := Lib.hid y1
              clear cx hb1 B1 y1
              go_wp2_with fail
              go_at_call 32
              refine (HP10.out _).mono ?_
              rintro e W2 ⟨S2, f2, rfl, y2, hb2⟩
              have B2 : Bel W1 W2 := (by repeat (first | exact Bel.rf | (with_reducible refine Bel.drwN ?_ _) | (with_reducible refine Bel.drw ?_) | (with_reducible refine Bel.al ?_ _) | (refine Bel.tr ?_ (by assumption))))
              have HB2 := Lib.hid (HB1.out.tr B2)
              have HY2 := Lib.hid y2
              have HY12 := Lib.hid (HY1.out.bel B2)
              clear hb2 B2 y2
              go_wp2_with fail
              go_at_call 19
              refine (ints_same S1 S2 f1 f2 N5 R5 (by have := HN5.out; omega) _ (HY12.out.bel (by repeat (first | exact Bel.rf | (with_reducible refine Bel.drwN ?_ _) | (with_reducible refine Bel.drw ?_) | (with_reducible refine Bel.al ?_ _) | (refine Bel.tr ?_ (by assumption))))) (HY2.out.bel (by repeat (first | exact Bel.rf | (with_reducible refine Bel.drwN ?_ _) | (with_reducible refine Bel.drw ?_) | (with_reducible refine Bel.al ?_ _) | (refine Bel.tr ?_ (by assumption)))))).mono ?_
              rintro e W3 ⟨rfl, hb3⟩
              have HB3 : Hid (Bel V6 W3) := (HB7.out.tr HB2.out).tr (by repeat (first | exact Bel.rf | (with_reducible refine Bel.drwN ?_ _) | (with_reducible refine Bel.drw ?_) | (with_reducible refine Bel.al ?_ _) | (refine Bel.tr ?_ (by assumption))))
              clear hb3
              go_wp2
              go_roundw
              case rel => exact ⟨i + 1, _, rfl, by omega, by go_num, by first | exact HB3.out | exact HB3.out.drwN _ | exact HB3.out.drw⟩
              case measure => simp [intOf]; omega
            · have hi3 : i = 3 := by omega
              subst hi3
              have HF : Hid (Ok V7 g ∧ Ch g v4 V7) := ⟨HC9.out.1.bel hb7, HC9.out.2.tr (Ch.of_bel hb7)⟩
              clear hb7 HB7 HQ6
              go_wp2
              go_roundw
              case rel => exact ⟨k + 1, _, rfl, by omega, by go_num, HF.out.1.bel (by repeat (first | exact Bel.rf | (with_reducible refine Bel.drwN ?_ _) | (with_reducible refine Bel.drw ?_) | (with_reducible refine Bel.al ?_ _) | (refine Bel.tr ?_ (by assumption)))), HF.out.2.tr (Ch.of_bel (by repeat (first | exact Bel.rf | (with_reducible refine Bel.drwN ?_ _) | (with_reducible refine Bel.drw ?_) | (with_reducible refine Bel.al ?_ _) | (refine Bel.tr ?_ (by assumption)))))⟩
              case measure => simp [intOf]; omega
    · have hk5 : k = 5 := by omega
      subst hk5
      clear hok hch hgr
      go_wp2_with (go_at_call 20; refine (AW.out _).mono ?_; rintro e w9 ⟨rfl, hb9⟩)
      go_ret
      exact ⟨rfl, ((Bel.ch HBW.out HC5.out (Nat.le_trans hg (Nat.le_refl _))).tr (Bel.tr (by repeat (first | exact Bel.rf | (with_reducible refine Bel.drwN ?_ _) | (with_reducible refine Bel.drw ?_) | (with_reducible refine Bel.al ?_ _) | (refine Bel.tr ?_ (by assumption)))) hb9)).bl⟩

set_option maxRecDepth 100000 in
theorem lifted (os : Os) (started : os.Started) (H : Type) (enc : TypeId × Value → H) :
    ReturnsInHanded {} Try.checked os 4 .any (Rows.piecesAnswersSpec.pre6 enc Try.prog Try.f4 Rows.piecesAnswersRow.domain false) (Rows.piecesAnswersSpec.post enc Try.prog Try.f4 false true false false) := by
  refine returnsInHanded_of_change (C := Try.checked) own started (by kernel_rfl) Try.func4
    (ChangeSpec.witness6 (enc := enc) (C := Try.checked) false ⟨#[], #[.slice none 0 0, .slice none 0 0, .int .i64 0, .int .i64 0, .slice none 0 0], []⟩ 8 (by kernel_rfl) (by kernel_rfl) (by kernel_rfl) (by kernel_rfl)) ?_
  intro W base args ds gs before hval0 hW hcnd _
  have hval : ∀ (j : Nat) t v, Try.f4.params[j]? = some t → args[j]? = some v → Value.okWide Try.prog W .any base t v := hval0
  have hW' := hW
  obtain ⟨p, q, hA0, hV, rfl, hfz, hnd⟩ := hW
  have hA : DataW.TrodAll enc Try.prog W 0 (fun _ => true) true Try.f4.params.toList args.toList ds p := hA0
  rw [Try.params4] at hA hval
  obtain ⟨v0, vs0, d0, ds0, p0, q0, hargs, rfl, rfl, h0, r0⟩ := trodAll_cons hA
  obtain ⟨v1, vs1, d1, ds1, p1, q1, rfl, rfl, rfl, h1, r1⟩ := trodAll_cons r0
  obtain ⟨v2, vs2, d2, ds2, p2, q2, rfl, rfl, rfl, h2, r2⟩ := trodAll_cons r1
  obtain ⟨v3, vs3, d3, ds3, p3, q3, rfl, rfl, rfl, h3, r3⟩ := trodAll_cons r2
  obtain ⟨v4, vs4, d4, ds4, p4, q4, rfl, rfl, rfl, h4, r4⟩ := trodAll_cons r3
  obtain ⟨rfl, rfl, rfl⟩ := trodAll_nil r4
  obtain rfl : args = #[v0, v1, v2, v3, v4] := by cases args; simp_all
  obtain ⟨rfl, rfl⟩ := trodVars_none hV
  obtain ⟨a0, len0, cap0, rfl⟩ := okWide_slice Try.underlying22 (hval 0 22 v0 rfl rfl)
  have k0 := h0
  have lt0 : ∀ x ∈ p0, x.block < W.heap.size := by obtain ⟨m, hm⟩ := k0; exact DataW.trod_lt m _ _ _ hm
  obtain ⟨z0, w0⟩ : ∃ zs, IsRow .i64 W a0 len0 cap0 zs := by
    obtain ⟨fuel, hf⟩ := h0
    rcases open_ints Try.underlying22 Try.underlying3 (by kernel_rfl) hf with ⟨hcs, _⟩ | ⟨x, l, c, zs, hcs, _, hl, hm, hz, _, hcell, hwz⟩
    · simp [Value.cells] at hcs
      obtain ⟨rfl, rfl, rfl⟩ := hcs
      exact ⟨[], .inl ⟨rfl, rfl, rfl, rfl⟩⟩
    · simp [Value.cells] at hcs
      obtain ⟨rfl, rfl, rfl⟩ := hcs
      exact ⟨zs, .inr ⟨_, rfl, hl, hm, by simpa using hz, hcell, hwz⟩⟩
  obtain ⟨a1, len1, cap1, rfl⟩ := okWide_slice Try.underlying22 (hval 1 22 v1 rfl rfl)
  have k1 := h1
  have lt1 : ∀ x ∈ p1, x.block < W.heap.size := by obtain ⟨m, hm⟩ := k1; exact DataW.trod_lt m _ _ _ hm
  obtain ⟨z1, w1⟩ : ∃ zs, IsRow .i64 W a1 len1 cap1 zs := by
    obtain ⟨fuel, hf⟩ := h1
    rcases open_ints Try.underlying22 Try.underlying3 (by kernel_rfl) hf with ⟨hcs, _⟩ | ⟨x, l, c, zs, hcs, _, hl, hm, hz, _, hcell, hwz⟩
    · simp [Value.cells] at hcs
      obtain ⟨rfl, rfl, rfl⟩ := hcs
      exact ⟨[], .inl ⟨rfl, rfl, rfl, rfl⟩⟩
    · simp [Value.cells] at hcs
      obtain ⟨rfl, rfl, rfl⟩ := hcs
      exact ⟨zs, .inr ⟨_, rfl, hl, hm, by simpa using hz, hcell, hwz⟩⟩
  obtain ⟨a2, rfl, rfl, rfl, w2⟩ := open_int Try.underlying3 (hval 2 3 v2 rfl rfl) h2
  obtain ⟨a3, rfl, rfl, rfl, w3⟩ := open_int Try.underlying3 (hval 3 3 v3 rfl rfl) h3
  obtain ⟨a4, len4, cap4, rfl⟩ := okWide_slice Try.underlying22 (hval 4 22 v4 rfl rfl)
  have k4 := h4
  have lt4 : ∀ x ∈ p4, x.block < W.heap.size := by obtain ⟨m, hm⟩ := k4; exact DataW.trod_lt m _ _ _ hm
  obtain ⟨z4, w4⟩ : ∃ zs, IsRow .i64 W a4 len4 cap4 zs := by
    obtain ⟨fuel, hf⟩ := h4
    rcases open_ints Try.underlying22 Try.underlying3 (by kernel_rfl) hf with ⟨hcs, _⟩ | ⟨x, l, c, zs, hcs, _, hl, hm, hz, _, hcell, hwz⟩
    · simp [Value.cells] at hcs
      obtain ⟨rfl, rfl, rfl⟩ := hcs
      exact ⟨[], .inl ⟨rfl, rfl, rfl, rfl⟩⟩
    · simp [Value.cells] at hcs
      obtain ⟨rfl, rfl, rfl⟩ := hcs
      exact ⟨zs, .inr ⟨_, rfl, hl, hm, by simpa using hz, hcell, hwz⟩⟩
  clear hA0 hval0
  refine (walk a0 len0 cap0 z0 a1 len1 cap1 z1 a2 a3 a4 len4 cap4 z4 W w0 w1 w2 w3 w4).mono fun e W' ⟨he, bel⟩ => ?_
  subst he
  exact ⟨_, rfl, _, _, _, [], _, [], hW', trodAll_mk1 (shut_bool Try.underlying4 _), (trodAll_cons_mk (Below.trod laidOut (by kernel_rfl) (of_decide_eq_true (by kernel_rfl)) k0 bel lt0) (trodAll_cons_mk (Below.trod laidOut (by kernel_rfl) (of_decide_eq_true (by kernel_rfl)) k1 bel lt1) (trodAll_cons_mk (shut_int Try.underlying3 w2) (trodAll_cons_mk (shut_int Try.underlying3 w3) (trodAll_cons_mk (Below.trod laidOut (by kernel_rfl) (of_decide_eq_true (by kernel_rfl)) k4 bel lt4) trodAll_mk0))))), rfl, bel.frame _, fun h => by cases h⟩

theorem over : Rows.piecesAnswersRow.holds Try.pinned (OpenSpec.ofChange Rows.piecesAnswersSpec) :=
  OpenClaim.holds_of_wide 4 Try.f4 rfl rfl rfl rfl rfl rfl rfl ⟨rfl, rfl, rfl, rfl, rfl⟩ rfl rfl rfl rfl rfl (by kernel_rfl) Try.func4 (by kernel_rfl)
    (of_decide_eq_true (by kernel_rfl)) (by unfold Func.isWrapper; first | (rw [if_pos (by decide +kernel)]; kernel_rfl) | (rw [if_neg (by decide +kernel)]; exact ⟨rfl, rfl⟩))
    (fun os started H enc _ => lifted os started H enc)

theorem proved : Rows.PiecesAnswersSaid := over
end Go.Proofs.Ytekeclapbfjdiaa.piecesAnswers
