/- That the law UnitAnswers returns true for every input that can be read, and leaves its arguments as they were; the package variables that it lists start as the program lays them, which the card ties to the text; no further condition. -/
import Derived.Test.YtgclojonjglikaaDoorRows
import Derived.WalkKit
import Derived.ProofKit
import Derived.OpenShut
import Derived.LaidMore
import Derived.Stop.Joined
import Derived.SevenTiedAt
import Derived.Test.YtgclojonjglikaaDoorCards
import Derived.Test.YtgclojonjglikaaDoorTie
import Derived.Test.YtgclojonjglikaaDoorUaW
import Derived.Test.YtgclojonjglikaaDoorUnitMade
import Derived.Test.YtgclojonjglikaaDoorUnitAwake
import Derived.ShutString
import Derived.ChangeOld
import Derived.Below
import Derived.Lib.SmallJoins
namespace Go.Proofs.YtgclojonjglikaaDoor.unitAnswers
open Go.ChangeShapes Go.WideShapes Go.ChangeAt Go.RowKit Wo
open Go.ChangeMaps (open_string shut_string)
open Go.Joins (open_agg2 open_agg4)
set_option linter.unusedVariables false

theorem own : ownKnob Tryd.prog.godebug = none := by kernel_rfl
theorem laidOut : laidOutB Tryd.prog = true := by kernel_rfl
theorem cells23 : Tryd.prog.cellsOf 23 = 2 := by kernel_rfl
theorem cells25 : Tryd.prog.cellsOf 25 = 4 := by kernel_rfl

/-- WHAT THE WALK IS TOLD OF A SLICE OF INTEGERS THAT CAME IN: it is nil; or it leads to a row of 'cap' cells, the numbers 'zs' (the first 'len' are its elements, the rest its spare room), each fitting its kind. -/
def IsRow (k : IntKind) (w : World) (a : Option Addr) (len cap : Nat) (zs : List Int) : Prop :=
  (a = none ∧ len = 0 ∧ cap = 0 ∧ zs = []) ∨
  ∃ x, a = some x ∧ len ≤ cap ∧ cap ≤ maxLen ∧ zs.length = cap ∧ (∀ i, i < zs.length → w.cell? (x.add i) = some (.int k (zs.getD i 0))) ∧ ∀ n ∈ zs, (Lit.int k n).wf = true

open Go.Proofs.YtgclojonjglikaaDoor.Un in
set_option maxHeartbeats 16000000 in
set_option maxRecDepth 100000 in
theorem walk (a0 : ByteArray) (ax ap : Int) (un : ByteArray) (um ua ud : Int) (a3 : Option Addr) (len3 cap3 : Nat) (z3 : List Int) (w : World) (hL : Un.Both w) (w0 : a0.size ≤ maxLen) (wx : (Lit.int .i64 ax).wf = true) (wp : (Lit.int .i64 ap).wf = true) (wn : un.size ≤ maxLen) (wm : (Lit.int .i64 um).wf = true) (wa : (Lit.int .i64 ua).wf = true) (wd : (Lit.int .i64 ud).wf = true) (w3 : IsRow .i64 w a3 len3 cap3 z3) :
    Calls Tryd.prog 3 #[.string a0, .agg #[.int .i64 ax, .int .i64 ap], .agg #[.string un, .int .i64 um, .int .i64 ua, .int .i64 ud], .slice a3 len3 cap3] w fun e w' => e = .returned (.bool true) ∧ Below w.heap.size w w' := by
  have HL := Lib.hid hL
  clear hL
  have KW : Hid (∀ W : World, Bel w W → Both W) := fun W h => HL.out.bel h
  rcases Nat.lt_or_ge 60 a0.size with h60 | h60
  · have e0 : (60 : Int) < (a0.size : Int) := by omega
    have e1 : decide ((60 : Int) < (a0.size : Int)) = true := decide_eq_true e0
    have HB0 : Hid (Bel w ((w.alloc (.cells #[.int .i64 ax, .int .i64 ap] 23)).alloc (.cells #[.string un, .int .i64 um, .int .i64 ua, .int .i64 ud] 25))) := (Bel.rf.al _).al _
    go_enter Tryd.func3, Tryd.ntmps3
    go_wp2_with (go_at_call 4; refine (awake_any _ (KW.out _ HB0.out).2).mono ?_; rintro e w9 ⟨rfl, hb9⟩)
    go_ret
    exact ⟨rfl, (HB0.out.tr hb9).bl⟩
  have e0 : ¬ (60 : Int) < (a0.size : Int) := by omega
  have e1 : decide ((60 : Int) < (a0.size : Int)) = false := decide_eq_false e0
  rcases Nat.lt_or_ge 60 un.size with u60 | u60
  · have e2 : (60 : Int) < (un.size : Int) := by omega
    have e3 : decide ((60 : Int) < (un.size : Int)) = true := decide_eq_true e2
    have HB0 : Hid (Bel w ((w.alloc (.cells #[.int .i64 ax, .int .i64 ap] 23)).alloc (.cells #[.string un, .int .i64 um, .int .i64 ua, .int .i64 ud] 25))) := (Bel.rf.al _).al _
    go_enter Tryd.func3, Tryd.ntmps3
    go_wp2_with (go_at_call 4; refine (awake_any _ (KW.out _ HB0.out).2).mono ?_; rintro e w9 ⟨rfl, hb9⟩)
    go_ret
    exact ⟨rfl, (HB0.out.tr hb9).bl⟩
  have e2 : ¬ (60 : Int) < (un.size : Int) := by omega
  have e3 : decide ((60 : Int) < (un.size : Int)) = false := decide_eq_false e2
  have HS := Lib.hid w3
  clear w3
  have HB0 : Hid (∀ o1 o2, IsRow .i64 ((w.alloc o1).alloc o2) a3 len3 cap3 z3) := fun o1 o2 => by
    rcases HS.out with h | ⟨x, rfl, h1, h2, h3, h4, h5⟩
    · exact .inl h
    · exact .inr ⟨x, rfl, h1, h2, h3, fun i hi => kp_al (kp_al (h4 i hi) _) _, h5⟩
  have HBX : Hid (Bk ((w.alloc (.cells #[.int .i64 ax, .int .i64 ap] 23)).alloc (.cells #[.string un, .int .i64 um, .int .i64 ua, .int .i64 ud] 25)) w.heap.size 23 #[.int .i64 ax, .int .i64 ap]) := (Bk.nw _ _ _).al _
  have HBU : Hid (Bk ((w.alloc (.cells #[.int .i64 ax, .int .i64 ap] 23)).alloc (.cells #[.string un, .int .i64 um, .int .i64 ua, .int .i64 ud] 25)) (w.heap.size + 1) 25 #[.string un, .int .i64 um, .int .i64 ua, .int .i64 ud]) := Bk.nq (w.alloc _) _ _ (by simp)
  have HBE : Hid (Bel w ((w.alloc (.cells #[.int .i64 ax, .int .i64 ap] 23)).alloc (.cells #[.string un, .int .i64 um, .int .i64 ua, .int .i64 ud] 25))) := (Bel.rf.al _).al _
  go_enter Tryd.func3, Tryd.ntmps3
  go_wp2_with fail
  go_at_call 5
  refine (made_any a3 len3 cap3 z3 _ (HB0.out _ _)).mono ?_
  rintro e v1 ⟨x, p, s, m, a, d, rfl, ⟨x1, x2, hp, hlow, m1, m2, g1, g2, d1, d2⟩, hb1⟩
  have HX1 := Lib.hid (HBX.out.bel hb1)
  have HU1 := Lib.hid (HBU.out.bel hb1)
  have HE1 := Lib.hid (HBE.out.tr hb1)
  have hs1 : s.size ≤ 1000 := by have := hlow.2.1; omega
  have hu1 : un.size ≤ 1000 := by omega
  have kl : w.heap.size + 1 < v1.heap.size := HU1.out.lt
  clear hb1 hlow
  go_wp2_with fail
  have BX : Bk (((v1.alloc (.cells #[.int .i64 x, .int .i64 (p : Int)] 23)).alloc (.cells #[.string s, .int .i64 m, .int .i64 a, .int .i64 d] 25)).alloc (.cells #[.string s, .int .i64 m, .int .i64 a, .int .i64 d] 25)) w.heap.size 23 #[.int .i64 ax, .int .i64 ap] := ((HX1.out.al _).al _).al _
  have BU : Bk (((v1.alloc (.cells #[.int .i64 x, .int .i64 (p : Int)] 23)).alloc (.cells #[.string s, .int .i64 m, .int .i64 a, .int .i64 d] 25)).alloc (.cells #[.string s, .int .i64 m, .int .i64 a, .int .i64 d] 25)) (w.heap.size + 1) 25 #[.string un, .int .i64 um, .int .i64 ua, .int .i64 ud] := ((HU1.out.al _).al _).al _
  have B1 : Bk (((v1.alloc (.cells #[.int .i64 x, .int .i64 (p : Int)] 23)).alloc (.cells #[.string s, .int .i64 m, .int .i64 a, .int .i64 d] 25)).alloc (.cells #[.string s, .int .i64 m, .int .i64 a, .int .i64 d] 25)) v1.heap.size 23 #[.int .i64 x, .int .i64 (p : Int)] := ((Bk.nw _ _ _).al _).al _
  have B2 : Bk (((v1.alloc (.cells #[.int .i64 x, .int .i64 (p : Int)] 23)).alloc (.cells #[.string s, .int .i64 m, .int .i64 a, .int .i64 d] 25)).alloc (.cells #[.string s, .int .i64 m, .int .i64 a, .int .i64 d] 25)) (v1.heap.size + 1) 25 #[.string s, .int .i64 m, .int .i64 a, .int .i64 d] := (Bk.nq (v1.alloc _) _ _ (by simp)).al _
  have B3 : Bk (((v1.alloc (.cells #[.int .i64 x, .int .i64 (p : Int)] 23)).alloc (.cells #[.string s, .int .i64 m, .int .i64 a, .int .i64 d] 25)).alloc (.cells #[.string s, .int .i64 m, .int .i64 a, .int .i64 d] 25)) (v1.heap.size + 2) 25 #[.string s, .int .i64 m, .int .i64 a, .int .i64 d] := Bk.nq ((v1.alloc _).alloc _) _ _ (by simp)
  have BE : Bel w (((v1.alloc (.cells #[.int .i64 x, .int .i64 (p : Int)] 23)).alloc (.cells #[.string s, .int .i64 m, .int .i64 a, .int .i64 d] 25)).alloc (.cells #[.string s, .int .i64 m, .int .i64 a, .int .i64 d] 25)) := ((HE1.out.al _).al _).al _
  generalize (((v1.alloc (.cells #[.int .i64 x, .int .i64 (p : Int)] 23)).alloc (.cells #[.string s, .int .i64 m, .int .i64 a, .int .i64 d] 25)).alloc (.cells #[.string s, .int .i64 m, .int .i64 a, .int .i64 d] 25)) = W5 at BX BU B1 B2 B3 BE ⊢
  have D0 : ∀ i, i = 0 ∨ i = 3 → (⟨w.heap.size + 1, 3, none⟩ : Addr) ≠ ⟨v1.heap.size + 1 + 1, i, none⟩ := fun i _ h => by injection h with h _ _; omega
  have KU := Lib.hid BU
  have K5 : Hid (Wd w v1.heap.size ax ap x (p : Int) un s um ua ud m a d ((W5.setCell ⟨v1.heap.size + 1 + 1, 0, none⟩ (.string un)).setCell ⟨v1.heap.size + 1 + 1, 3, none⟩ (.int .i64 ud))) :=
    ⟨(BX.far (by dsimp only; omega) _).far (by dsimp only; omega) _, (BU.far (by dsimp only; omega) _).far (by dsimp only; omega) _, (B1.far (by dsimp only; omega) _).far (by dsimp only; omega) _, (B2.far (by dsimp only; omega) _).far (by dsimp only; omega) _, (B3.st 0 _).st 3 _, Bel.st2 (by show w.heap.size ≤ v1.heap.size + 1 + 1; omega) (Bel.st2 (by show w.heap.size ≤ v1.heap.size + 1 + 1; omega) BE _) _⟩
  have k0 : W5.cell? ⟨w.heap.size + 1, 0, none⟩ = some (.string un) := BU.cell 0
  have k3 : W5.cell? ⟨w.heap.size + 1, 3, none⟩ = some (.int .i64 ud) := BU.cell 3
  have q0 : W5.cell? ⟨v1.heap.size + 1 + 1, 0, none⟩ = some (.string s) := B3.cell 0
  have q3 : W5.cell? ⟨v1.heap.size + 1 + 1, 3, none⟩ = some (.int .i64 d) := B3.cell 3
  have t0 : W5.frozen? ⟨v1.heap.size + 1 + 1, 0, none⟩ = false := B3.fr 0
  have t3 : W5.frozen? ⟨v1.heap.size + 1 + 1, 3, none⟩ = false := B3.fr 3
  clear BX BU B1 B2 B3 BE
  go_cut [11] (fun s11 wx => s11 = .pointer (some ⟨v1.heap.size + 1 + 1, 0, none⟩) ∧ ∃ V : World, V = wx ∧ Wd w v1.heap.size ax ap x (p : Int) un s um ua ud m a d wx)
  case first =>
    go_region
    go_wp2_with fail
    go_meet
    case rel => exact ⟨rfl, _, rfl, K5.out.bel (by repeat (first | exact Bel.rf | (with_reducible refine Bel.drwN ?_ _) | (with_reducible refine Bel.drw ?_)))⟩
  case rest =>
  obtain ⟨rfl, V, hV, hwd⟩ := hcut
  subst hV
  have HWD := Lib.hid hwd
  clear hwd k0 k3 q0 q3 t0 t3 K5 KU D0 HX1 HU1 HE1 HBX HBU HBE HB0
  obtain ⟨G, hG⟩ : ∃ G, v1.heap.size = G := ⟨_, rfl⟩
  rw [hG] at HWD kl ⊢
  clear hG
  obtain ⟨T, hT, HTU, HTR⟩ := both_format x (p : Int)
  have HFU := Lib.hid HTU
  have HFR := Lib.hid HTR
  clear HTU HTR
  go_upto_region 6 with fail
  go_cut [63, 64, 65] (fun s63 s64 s65 wx => ∃ (g : Nat) (V2 : World), V2 = wx ∧ s63 = .slice (some ⟨g, 0, none⟩) 6 6 ∧ s64 = .int .i64 6 ∧ s65 = .int .i64 0 ∧ (∀ k, k < 6 → V2.cell? ⟨g, k, none⟩ = some (.string ((txs a0 T).getD k ⟨#[]⟩))) ∧ Wd w G ax ap x (p : Int) un s um ua ud m a d V2)
  case first =>
    have c0 : V.cell? ⟨G, 0, none⟩ = some (.int .i64 x) := HWD.out.b1.cell 0
    have c1 : V.cell? ⟨G, 1, none⟩ = some (.int .i64 (p : Int)) := HWD.out.b1.cell 1
    have KS : Hid (∀ W', Bel V W' → ((fun w' => w'.cell? ⟨G, 0, none⟩ = some (.int .i64 x) ∧ w'.cell? ⟨G, 1, none⟩ = some (.int .i64 (p : Int))) W')) := fun W' h => ⟨h.kp c0, h.kp c1⟩
    clear c0 c1
    obtain ⟨z, hz⟩ : ∃ z, T.size = z := ⟨_, rfl⟩
    have z1 : (9223372036854775807 < 1 + z) = False := eq_false (by omega)
    have z2 : (9223372036854775807 < z + 1) = False := eq_false (by omega)
    have z3 : (9223372036854775807 < z + 2) = False := eq_false (by omega)
    go_region_held3 (fun w' => w'.cell? ⟨G, 0, none⟩ = some (.int .i64 x) ∧ w'.cell? ⟨G, 1, none⟩ = some (.int .i64 (p : Int)))
      (exact KS.out _ (by repeat (first | exact Bel.rf | (with_reducible refine Bel.drwN ?_ _) | (with_reducible refine Bel.drw ?_) | (with_reducible refine Bel.al ?_ _) | (refine Bel.tr ?_ (by assumption)))))
      (first
        | (go_at_call 6; refine (HFR.out _).mono ?_; rintro r s1 ⟨rfl, hp1⟩))
    all_goals
      go_wp2_with fail
      go_meet
      have hBK : Bk (s1.alloc (.cells #[.string a0, .string T, .string (⟨#[45]⟩ ++ T), .string (T ++ ⟨#[48]⟩), .string (T ++ ⟨#[46, 53]⟩), .string (⟨#[48]⟩ ++ T)] 9)) s1.heap.size 9 #[.string a0, .string T, .string (⟨#[45]⟩ ++ T), .string (T ++ ⟨#[48]⟩), .string (T ++ ⟨#[46, 53]⟩), .string (⟨#[48]⟩ ++ T)] := Bk.nw _ _ _
      have hBE : Bel V (s1.alloc (.cells #[.string a0, .string T, .string (⟨#[45]⟩ ++ T), .string (T ++ ⟨#[48]⟩), .string (T ++ ⟨#[46, 53]⟩), .string (⟨#[48]⟩ ++ T)] 9)) := by
        repeat (first | exact Bel.rf | (with_reducible refine Bel.drwN ?_ _) | (with_reducible refine Bel.drw ?_) | (with_reducible refine Bel.al ?_ _) | (refine Bel.tr ?_ (by assumption)))
      case rel =>
        refine ⟨s1.heap.size, _, rfl, rfl, rfl, rfl, fun k hk => ?_, HWD.out.bel hBE⟩
        rcases (by omega : k = 0 ∨ k = 1 ∨ k = 2 ∨ k = 3 ∨ k = 4 ∨ k = 5) with rfl | rfl | rfl | rfl | rfl | rfl
        · exact hBK.cell 0
        · exact hBK.cell 1
        · exact hBK.cell 2
        · exact hBK.cell 3
        · exact hBK.cell 4
        · exact hBK.cell 5
  case rest =>
  obtain ⟨g, V2, hV2, rfl, rfl, rfl, hcell, hwd2⟩ := hcut
  subst hV2
  have HC6 := Lib.hid hcell
  have HWD2 := Lib.hid hwd2
  clear hcell hwd2
  have HTX := Lib.hid (txs_sz h60 hT)
  clear hT
  go_wp2_with fail
  go_loopw [65] (fun s65 wr => ∃ (k : Nat) (V : World), V = wr ∧ k ≤ 6 ∧ s65 = .int .i64 (k : Int) ∧ (∀ k, k < 6 → wr.cell? ⟨g, k, none⟩ = some (.string ((txs a0 T).getD k ⟨#[]⟩))) ∧ Wd w G ax ap x (p : Int) un s um ua ud m a d wr) (fun s65 _ => 6 - (intOf s65).toNat)
  case atStart => exact ⟨0, _, rfl, by omega, rfl, HC6.out, HWD2.out⟩
  case round =>
    obtain ⟨k, V3, hV3, hk, rfl, hcell, hwd⟩ := hrel
    subst hV3
    have HCC := Lib.hid hcell
    have HWW := Lib.hid hwd
    clear hcell hwd
    rcases Nat.lt_or_ge k 6 with hlt | hge
    · have kk : (k : Int) < 6 := by omega
      obtain ⟨t, ht⟩ : ∃ t, (txs a0 T).getD k ⟨#[]⟩ = t := ⟨_, rfl⟩
      have hc := HCC.out k hlt
      have hts := HTX.out k hlt
      rw [ht] at hc hts
      obtain ⟨X, P, E, HPU, HPR⟩ := both_parse t hts
      have HPU := Lib.hid HPU
      have HPR := Lib.hid HPR
      clear ht hts
      go_wp2_with fail
      go_at_call 7
      refine (HPU.out _).mono ?_
      rintro e v2 ⟨rfl, hb2⟩
      have HB2 := Lib.hid hb2
      clear hb2
      go_wp2_with fail
      go_at_call 8
      refine (HPR.out _).mono ?_
      rintro e v4 ⟨rfl, hb4⟩
      have HN : Bk v4 v2.heap.size 23 #[.int .i64 X, .int .i64 P] := (Bk.nw _ _ _).bel hb4
      have HB4 : Hid (Bel V3 v4) := (HB2.out.al _).tr hb4
      have n0 : v4.cell? ⟨v2.heap.size, 0, none⟩ = some (.int .i64 X) := HN.cell 0
      have n1 : v4.cell? ⟨v2.heap.size, 1, none⟩ = some (.int .i64 P) := HN.cell 1
      have q0 : ∀ o, (v4.alloc o).cell? ⟨v2.heap.size, 0, none⟩ = some (.int .i64 X) := fun o => kp_al n0 o
      have q1 : ∀ o, (v4.alloc o).cell? ⟨v2.heap.size, 1, none⟩ = some (.int .i64 P) := fun o => kp_al n1 o
      clear hb4 HN n0 n1 hc
      go_wp2
      go_roundw
      case rel => exact ⟨k + 1, _, rfl, by omega, by go_num, fun j hj => Bel.kp (by repeat (first | exact HB4.out | (with_reducible refine Bel.drwN ?_ _) | (with_reducible refine Bel.drw ?_) | (with_reducible refine Bel.al ?_ _))) (HCC.out j hj), HWW.out.bel (by repeat (first | exact HB4.out | (with_reducible refine Bel.drwN ?_ _) | (with_reducible refine Bel.drw ?_) | (with_reducible refine Bel.al ?_ _)))⟩
      case measure => simp [intOf]; omega
    · have e65 : ¬ k < 6 := by omega
      have e66 : ¬ (k : Int) < 6 := by omega
      have e67 : decide ((k : Int) < 6) = false := decide_eq_false e66
      have e68 : decide (k < 6) = false := decide_eq_false e65
      have a0 : V3.cell? ⟨w.heap.size, 0, none⟩ = some (.int .i64 ax) := HWW.out.bx.cell 0
      have a1 : V3.cell? ⟨w.heap.size, 1, none⟩ = some (.int .i64 ap) := HWW.out.bx.cell 1
      have a2 : V3.cell? ⟨G, 0, none⟩ = some (.int .i64 x) := HWW.out.b1.cell 0
      have a3 : V3.cell? ⟨G, 1, none⟩ = some (.int .i64 (p : Int)) := HWW.out.b1.cell 1
      go_wp2_with fail
      clear a0 a1 a2 a3
      have HBK2 : Hid (Bk (V3.alloc (.cells #[.int .i64 ax, .int .i64 ap, .int .i64 x, .int .i64 (p : Int), .int .i64 x, .int .i64 ap] 23)) V3.heap.size 23 #[.int .i64 ax, .int .i64 ap, .int .i64 x, .int .i64 (p : Int), .int .i64 x, .int .i64 ap]) := Bk.nw _ _ _
      have HKW2 : Hid (Wd w G ax ap x (p : Int) un s um ua ud m a d (V3.alloc (.cells #[.int .i64 ax, .int .i64 ap, .int .i64 x, .int .i64 (p : Int), .int .i64 x, .int .i64 ap] 23))) := HWW.out.bel (Bel.rf.al _)
      obtain ⟨g2, hg2⟩ : ∃ g2, V3.heap.size = g2 := ⟨_, rfl⟩
      rw [hg2] at HBK2 ⊢
      clear hg2
      clear HC6 HWD2 HTX HFU HFR
      go_loopw [97] (fun s97 wr => ∃ (k : Nat) (V : World), V = wr ∧ k ≤ 3 ∧ s97 = .int .i64 (k : Int) ∧ (∀ j, j < 6 → wr.cell? ⟨g2, j, none⟩ = some (.int .i64 ([ax, ap, x, (p : Int), x, ap].getD j 0))) ∧ Wd w G ax ap x (p : Int) un s um ua ud m a d wr) (fun s97 _ => 3 - (intOf s97).toNat)
      case atStart =>
        refine ⟨0, _, rfl, by omega, rfl, fun j hj => ?_, HKW2.out⟩
        rcases (by omega : j = 0 ∨ j = 1 ∨ j = 2 ∨ j = 3 ∨ j = 4 ∨ j = 5) with rfl | rfl | rfl | rfl | rfl | rfl
        · exact HBK2.out.cell 0
        · exact HBK2.out.cell 1
        · exact HBK2.out.cell 2
        · exact HBK2.out.cell 3
        · exact HBK2.out.cell 4
        · exact HBK2.out.cell 5
      case round =>
        obtain ⟨k, V5, hV5, hk, rfl, hcell, hwd⟩ := hrel
        subst hV5
        have HCD := Lib.hid hcell
        have HWE := Lib.hid hwd
        clear hcell hwd
        rcases Nat.lt_or_ge k 3 with hlt | hge
        · have kk : (k : Int) < 3 := by omega
          go_upto_region 16 with fail
          go_cut [19] from 98 to 143 (fun s19 wx => ∃ (h : Nat) (X Y : Int) (V : World), V = wx ∧ s19 = .pointer (some ⟨h, 0, none⟩) ∧ Bk wx h 23 #[.int .i64 X, .int .i64 Y] ∧ (∀ j, j < 6 → wx.cell? ⟨g2, j, none⟩ = some (.int .i64 ([ax, ap, x, (p : Int), x, ap].getD j 0))) ∧ Wd w G ax ap x (p : Int) un s um ua ud m a d wx)
          case first =>
            rcases (by omega : k = 0 ∨ k = 1 ∨ k = 2) with rfl | rfl | rfl
            · have c0 : V5.cell? ⟨g2, 0, none⟩ = some (.int .i64 ax) := HCD.out 0 (by omega)
              have c1 : V5.cell? ⟨g2, 1, none⟩ = some (.int .i64 ap) := HCD.out 1 (by omega)
              go_wp2_with fail
              go_meet
              case rel => exact ⟨V5.heap.size, ax, ap, _, rfl, rfl, Bk.nw _ _ _, fun j hj => kp_al (HCD.out j hj) _, HWE.out.bel (Bel.rf.al _)⟩
            · have c0 : V5.cell? ⟨g2, 2, none⟩ = some (.int .i64 x) := HCD.out 2 (by omega)
              have c1 : V5.cell? ⟨g2, 3, none⟩ = some (.int .i64 (p : Int)) := HCD.out 3 (by omega)
              go_wp2_with fail
              go_meet
              case rel => exact ⟨V5.heap.size, x, p, _, rfl, rfl, Bk.nw _ _ _, fun j hj => kp_al (HCD.out j hj) _, HWE.out.bel (Bel.rf.al _)⟩
            · have c0 : V5.cell? ⟨g2, 4, none⟩ = some (.int .i64 x) := HCD.out 4 (by omega)
              have c1 : V5.cell? ⟨g2, 5, none⟩ = some (.int .i64 ap) := HCD.out 5 (by omega)
              go_wp2_with fail
              go_meet
              case rel => exact ⟨V5.heap.size, x, ap, _, rfl, rfl, Bk.nw _ _ _, fun j hj => kp_al (HCD.out j hj) _, HWE.out.bel (Bel.rf.al _)⟩
          case rest =>
          obtain ⟨h, X, Y, V6, hV6, rfl, hbk, hcell, hwd⟩ := hcut
          subst hV6
          have HXY := Lib.hid hbk
          have HCD6 := Lib.hid hcell
          have HW6 := Lib.hid hwd
          clear hbk hcell hwd
          obtain ⟨T2, hT2, HTU, HTR⟩ := both_format X Y
          have HFU := Lib.hid HTU
          have HFR := Lib.hid HTR
          clear HTU HTR hT2
          go_upto_region 17 with fail
          have KS : Hid (∀ W', Bel V6 W' → ((fun w' => w'.cell? ⟨h, 0, none⟩ = some (.int .i64 X) ∧ w'.cell? ⟨h, 1, none⟩ = some (.int .i64 Y)) W')) := fun W' hb => ⟨hb.kp (HXY.out.cell 0), hb.kp (HXY.out.cell 1)⟩
          go_region_held3 (fun w' => w'.cell? ⟨h, 0, none⟩ = some (.int .i64 X) ∧ w'.cell? ⟨h, 1, none⟩ = some (.int .i64 Y))
            (exact KS.out _ (by repeat (first | exact Bel.rf | (with_reducible refine Bel.drwN ?_ _) | (with_reducible refine Bel.drw ?_) | (with_reducible refine Bel.al ?_ _) | (refine Bel.tr ?_ (by assumption)))))
            (first
              | (go_at_call 9; refine (HFU.out _ (KW.out _ (HW6.out.be.tr (by repeat (first | exact Bel.rf | (with_reducible refine Bel.drwN ?_ _) | (with_reducible refine Bel.drw ?_) | (with_reducible refine Bel.al ?_ _) | (refine Bel.tr ?_ (by assumption)))))).1).mono ?_; rintro r s1 ⟨rfl, hp1⟩)
              | (go_at_call 6; refine (HFR.out _).mono ?_; rintro r s2 ⟨rfl, hp2⟩))
          have hb7 : Bel V6 s2 := (by repeat (first | exact Bel.rf | (with_reducible refine Bel.drwN ?_ _) | (with_reducible refine Bel.drw ?_) | (with_reducible refine Bel.al ?_ _) | (refine Bel.tr ?_ (by assumption))))
          have HXY7 := Lib.hid (HXY.out.bel hb7)
          have HCD7 : Hid (∀ j, j < 6 → s2.cell? ⟨g2, j, none⟩ = some (.int .i64 ([ax, ap, x, (p : Int), x, ap].getD j 0))) := fun j hj => hb7.kp (HCD6.out j hj)
          have HW7 := Lib.hid (HW6.out.bel hb7)
          have b0 : s2.cell? ⟨w.heap.size + 1, 0, none⟩ = some (.string un) := HW7.out.bu.cell 0
          have b1 : s2.cell? ⟨w.heap.size + 1, 1, none⟩ = some (.int .i64 um) := HW7.out.bu.cell 1
          have b2 : s2.cell? ⟨w.heap.size + 1, 2, none⟩ = some (.int .i64 ua) := HW7.out.bu.cell 2
          have b3 : s2.cell? ⟨w.heap.size + 1, 3, none⟩ = some (.int .i64 ud) := HW7.out.bu.cell 3
          have b4 : s2.cell? ⟨G + 1, 0, none⟩ = some (.string s) := HW7.out.b2.cell 0
          have b5 : s2.cell? ⟨G + 1, 1, none⟩ = some (.int .i64 m) := HW7.out.b2.cell 1
          have b6 : s2.cell? ⟨G + 1, 2, none⟩ = some (.int .i64 a) := HW7.out.b2.cell 2
          have b7 : s2.cell? ⟨G + 1, 3, none⟩ = some (.int .i64 d) := HW7.out.b2.cell 3
          have b8 : s2.cell? ⟨G + 1 + 1, 0, none⟩ = some (.string un) := HW7.out.b3.cell 0
          have b9 : s2.cell? ⟨G + 1 + 1, 1, none⟩ = some (.int .i64 m) := HW7.out.b3.cell 1
          have bA : s2.cell? ⟨G + 1 + 1, 2, none⟩ = some (.int .i64 a) := HW7.out.b3.cell 2
          have bB : s2.cell? ⟨G + 1 + 1, 3, none⟩ = some (.int .i64 ud) := HW7.out.b3.cell 3
          clear hp1 hp2 hb7
          go_wp2_with fail
          clear b0 b1 b2 b3 b4 b5 b6 b7 b8 b9 bA bB
          have HBK3 : Hid (Bk (s2.alloc (.cells #[.string un, .int .i64 um, .int .i64 ua, .int .i64 ud, .string s, .int .i64 m, .int .i64 a, .int .i64 d, .string un, .int .i64 m, .int .i64 a, .int .i64 ud] 25)) s2.heap.size 25 #[.string un, .int .i64 um, .int .i64 ua, .int .i64 ud, .string s, .int .i64 m, .int .i64 a, .int .i64 d, .string un, .int .i64 m, .int .i64 a, .int .i64 ud]) := Bk.nw _ _ _
          obtain ⟨g3, hg3⟩ : ∃ g3, s2.heap.size = g3 := ⟨_, rfl⟩
          rw [hg3] at HBK3 ⊢
          clear hg3
          go_loopw [111] (fun s111 wr => ∃ (i : Nat) (V : World), V = wr ∧ i ≤ 3 ∧ s111 = .int .i64 (i : Int) ∧ (∀ j, j < 12 → wr.cell? ⟨g3, j, none⟩ = some ((#[Value.string un, .int .i64 um, .int .i64 ua, .int .i64 ud, .string s, .int .i64 m, .int .i64 a, .int .i64 d, .string un, .int .i64 m, .int .i64 a, .int .i64 ud] : Array Value).getD j undef)) ∧ Bk wr h 23 #[.int .i64 X, .int .i64 Y] ∧ (∀ j, j < 6 → wr.cell? ⟨g2, j, none⟩ = some (.int .i64 ([ax, ap, x, (p : Int), x, ap].getD j 0))) ∧ Wd w G ax ap x (p : Int) un s um ua ud m a d wr) (fun s111 _ => 3 - (intOf s111).toNat)
          case atStart =>
            refine ⟨0, _, rfl, by omega, rfl, fun j hj => ?_, HXY7.out.bel (by repeat (first | exact Bel.rf | (with_reducible refine Bel.drwN ?_ _) | (with_reducible refine Bel.drw ?_) | (with_reducible refine Bel.al ?_ _) | (refine Bel.tr ?_ (by assumption)))), fun j hj => Bel.kp (by repeat (first | exact Bel.rf | (with_reducible refine Bel.drwN ?_ _) | (with_reducible refine Bel.drw ?_) | (with_reducible refine Bel.al ?_ _) | (refine Bel.tr ?_ (by assumption)))) (HCD7.out j hj), HW7.out.bel (by repeat (first | exact Bel.rf | (with_reducible refine Bel.drwN ?_ _) | (with_reducible refine Bel.drw ?_) | (with_reducible refine Bel.al ?_ _) | (refine Bel.tr ?_ (by assumption))))⟩
            rcases (by omega : j = 0 ∨ j = 1 ∨ j = 2 ∨ j = 3 ∨ j = 4 ∨ j = 5 ∨ j = 6 ∨ j = 7 ∨ j = 8 ∨ j = 9 ∨ j = 10 ∨ j = 11) with rfl | rfl | rfl | rfl | rfl | rfl | rfl | rfl | rfl | rfl | rfl | rfl
            all_goals exact HBK3.out.cell _
          case round =>
            obtain ⟨i, V7, hV7, hi, rfl, hc3, hxy, hcell, hwd⟩ := hrel
            subst hV7
            have HC7 := Lib.hid hc3
            have HX7 := Lib.hid hxy
            have HD7 := Lib.hid hcell
            have HY7 := Lib.hid hwd
            clear hc3 hxy hcell hwd
            rcases Nat.lt_or_ge i 3 with ilt | ige
            · have ii : (i : Int) < 3 := by omega
              go_upto_region 21 with fail
              go_cut [21] from 112 to 142 (fun s21 wx => ∃ (h2 : Nat) (nm : ByteArray) (M A D : Int) (V : World), V = wx ∧ s21 = .pointer (some ⟨h2, 0, none⟩) ∧ nm.size ≤ 1000 ∧ Bk wx h2 25 #[.string nm, .int .i64 M, .int .i64 A, .int .i64 D] ∧ (∀ j, j < 12 → wx.cell? ⟨g3, j, none⟩ = some ((#[Value.string un, .int .i64 um, .int .i64 ua, .int .i64 ud, .string s, .int .i64 m, .int .i64 a, .int .i64 d, .string un, .int .i64 m, .int .i64 a, .int .i64 ud] : Array Value).getD j undef)) ∧ Bk wx h 23 #[.int .i64 X, .int .i64 Y] ∧ (∀ j, j < 6 → wx.cell? ⟨g2, j, none⟩ = some (.int .i64 ([ax, ap, x, (p : Int), x, ap].getD j 0))) ∧ Wd w G ax ap x (p : Int) un s um ua ud m a d wx)
              case first =>
                rcases (by omega : i = 0 ∨ i = 1 ∨ i = 2) with rfl | rfl | rfl
                · have c0 : V7.cell? ⟨g3, 0, none⟩ = some (.string un) := HC7.out 0 (by omega)
                  have c1 : V7.cell? ⟨g3, 1, none⟩ = some (.int .i64 um) := HC7.out 1 (by omega)
                  have c2 : V7.cell? ⟨g3, 2, none⟩ = some (.int .i64 ua) := HC7.out 2 (by omega)
                  have c3 : V7.cell? ⟨g3, 3, none⟩ = some (.int .i64 ud) := HC7.out 3 (by omega)
                  go_wp2_with fail
                  go_meet
                  case rel => exact ⟨V7.heap.size, un, um, ua, ud, _, rfl, rfl, hu1, Bk.nw _ _ _, fun j hj => kp_al (HC7.out j hj) _, HX7.out.bel (Bel.rf.al _), fun j hj => kp_al (HD7.out j hj) _, HY7.out.bel (Bel.rf.al _)⟩
                · have c0 : V7.cell? ⟨g3, 4, none⟩ = some (.string s) := HC7.out 4 (by omega)
                  have c1 : V7.cell? ⟨g3, 5, none⟩ = some (.int .i64 m) := HC7.out 5 (by omega)
                  have c2 : V7.cell? ⟨g3, 6, none⟩ = some (.int .i64 a) := HC7.out 6 (by omega)
                  have c3 : V7.cell? ⟨g3, 7, none⟩ = some (.int .i64 d) := HC7.out 7 (by omega)
                  go_wp2_with fail
                  go_meet
                  case rel => exact ⟨V7.heap.size, s, m, a, d, _, rfl, rfl, hs1, Bk.nw _ _ _, fun j hj => kp_al (HC7.out j hj) _, HX7.out.bel (Bel.rf.al _), fun j hj => kp_al (HD7.out j hj) _, HY7.out.bel (Bel.rf.al _)⟩
                · have c0 : V7.cell? ⟨g3, 8, none⟩ = some (.string un) := HC7.out 8 (by omega)
                  have c1 : V7.cell? ⟨g3, 9, none⟩ = some (.int .i64 m) := HC7.out 9 (by omega)
                  have c2 : V7.cell? ⟨g3, 10, none⟩ = some (.int .i64 a) := HC7.out 10 (by omega)
                  have c3 : V7.cell? ⟨g3, 11, none⟩ = some (.int .i64 ud) := HC7.out 11 (by omega)
                  go_wp2_with fail
                  go_meet
                  case rel => exact ⟨V7.heap.size, un, m, a, ud, _, rfl, rfl, hu1, Bk.nw _ _ _, fun j hj => kp_al (HC7.out j hj) _, HX7.out.bel (Bel.rf.al _), fun j hj => kp_al (HD7.out j hj) _, HY7.out.bel (Bel.rf.al _)⟩
              case rest =>
              obtain ⟨h2, nm, M, A, D, V8, hV8, rfl, hnm, hbk, hc3, hxy, hcell, hwd⟩ := hcut
              subst hV8
              have HU8 := Lib.hid hbk
              have HC8 := Lib.hid hc3
              have HX8 := Lib.hid hxy
              have HD8 := Lib.hid hcell
              have HY8 := Lib.hid hwd
              clear hbk hc3 hxy hcell hwd
              obtain ⟨N, E, hcu, hcr⟩ := both_convert X Y nm M A D hnm
              obtain ⟨b, hvu, hvr⟩ := both_valid nm M A D hnm
              have HCU := Lib.hid hcu
              have HCR := Lib.hid hcr
              have HVU := Lib.hid hvu
              have HVR := Lib.hid hvr
              clear hcu hcr hvu hvr
              have x0 : V8.cell? ⟨h, 0, none⟩ = some (.int .i64 X) := HX8.out.cell 0
              have x1 : V8.cell? ⟨h, 1, none⟩ = some (.int .i64 Y) := HX8.out.cell 1
              have y0 : V8.cell? ⟨h2, 0, none⟩ = some (.string nm) := HU8.out.cell 0
              have y1 : V8.cell? ⟨h2, 1, none⟩ = some (.int .i64 M) := HU8.out.cell 1
              have y2 : V8.cell? ⟨h2, 2, none⟩ = some (.int .i64 A) := HU8.out.cell 2
              have y3 : V8.cell? ⟨h2, 3, none⟩ = some (.int .i64 D) := HU8.out.cell 3
              go_wp2_with fail
              go_at_call 10
              refine (HCU.out _ (KW.out _ (HY8.out.be.tr (by repeat (first | exact Bel.rf | (with_reducible refine Bel.drwN ?_ _) | (with_reducible refine Bel.drw ?_) | (with_reducible refine Bel.al ?_ _) | (refine Bel.tr ?_ (by assumption)))))).2).mono ?_
              rintro e V9 ⟨rfl, hb9⟩
              have z0 := hb9.kp x0
              have z1 := hb9.kp x1
              have z2 := hb9.kp y0
              have z4 := hb9.kp y1
              have z5 := hb9.kp y2
              have z6 := hb9.kp y3
              have HB9 := Lib.hid hb9
              clear hb9 x0 x1 y0 y1 y2 y3
              go_wp2_with fail
              go_at_call 11
              refine (HCR.out _).mono ?_
              rintro e VA ⟨rfl, hbA⟩
              have HBA : Hid (Bel V8 VA) := HB9.out.tr hbA
              have KS2 : Hid (∀ W', Bel VA W' → ((fun w' => w'.cell? ⟨h2, 0, none⟩ = some (.string nm) ∧ w'.cell? ⟨h2, 1, none⟩ = some (.int .i64 M) ∧ w'.cell? ⟨h2, 2, none⟩ = some (.int .i64 A) ∧ w'.cell? ⟨h2, 3, none⟩ = some (.int .i64 D)) W')) := fun W' hb => ⟨(hbA.tr hb).kp z2, (hbA.tr hb).kp z4, (hbA.tr hb).kp z5, (hbA.tr hb).kp z6⟩
              clear hbA z0 z1 z2 z4 z5 z6
              go_upto_region 24 with fail
              go_region_held3 (fun w' => w'.cell? ⟨h2, 0, none⟩ = some (.string nm) ∧ w'.cell? ⟨h2, 1, none⟩ = some (.int .i64 M) ∧ w'.cell? ⟨h2, 2, none⟩ = some (.int .i64 A) ∧ w'.cell? ⟨h2, 3, none⟩ = some (.int .i64 D))
                (exact KS2.out _ (by repeat (first | exact Bel.rf | (with_reducible refine Bel.drwN ?_ _) | (with_reducible refine Bel.drw ?_) | (with_reducible refine Bel.al ?_ _) | (refine Bel.tr ?_ (by assumption)))))
                (first
                  | (go_at_call 12; refine (HVU.out _).mono ?_; rintro r s3 ⟨rfl, hp3⟩)
                  | (go_at_call 13; refine (HVR.out _).mono ?_; rintro r s4 ⟨rfl, hp4⟩))
              have hbA : Bel VA s4 := (by repeat (first | exact Bel.rf | (with_reducible refine Bel.drwN ?_ _) | (with_reducible refine Bel.drw ?_) | (with_reducible refine Bel.al ?_ _) | (refine Bel.tr ?_ (by assumption))))
              have HB8 : Hid (Bel V8 s4) := HBA.out.tr hbA
              clear hp3 hp4 hbA KS2
              go_wp2
              go_roundw
              case rel => exact ⟨i + 1, _, rfl, by omega, by go_num, fun j hj => Bel.kp (by repeat (first | exact HB8.out | (with_reducible refine Bel.drwN ?_ _) | (with_reducible refine Bel.drw ?_) | (with_reducible refine Bel.al ?_ _))) (HC8.out j hj), HX8.out.bel (by repeat (first | exact HB8.out | (with_reducible refine Bel.drwN ?_ _) | (with_reducible refine Bel.drw ?_) | (with_reducible refine Bel.al ?_ _))), fun j hj => Bel.kp (by repeat (first | exact HB8.out | (with_reducible refine Bel.drwN ?_ _) | (with_reducible refine Bel.drw ?_) | (with_reducible refine Bel.al ?_ _))) (HD8.out j hj), HY8.out.bel (by repeat (first | exact HB8.out | (with_reducible refine Bel.drwN ?_ _) | (with_reducible refine Bel.drw ?_) | (with_reducible refine Bel.al ?_ _)))⟩
              case measure => simp [intOf]; omega
            · obtain rfl : i = 3 := by omega
              go_wp2
              go_roundw
              case rel => exact ⟨k + 1, _, rfl, by omega, by go_num, fun j hj => Bel.kp (by repeat (first | exact Bel.rf | (with_reducible refine Bel.drwN ?_ _) | (with_reducible refine Bel.drw ?_) | (with_reducible refine Bel.al ?_ _) | (refine Bel.tr ?_ (by assumption)))) (HD7.out j hj), HY7.out.bel (by repeat (first | exact Bel.rf | (with_reducible refine Bel.drwN ?_ _) | (with_reducible refine Bel.drw ?_) | (with_reducible refine Bel.al ?_ _) | (refine Bel.tr ?_ (by assumption))))⟩
              case measure => simp [intOf]; omega
        · obtain rfl : k = 3 := by omega
          go_wp2_with (go_at_call 4; refine (awake_any _ (KW.out _ HWE.out.be).2).mono ?_; rintro e w9 ⟨rfl, hb9⟩)
          go_ret
          exact ⟨rfl, (HWE.out.be.tr hb9).bl⟩

theorem door_met (os : Os) (args : Array Value) : laidMetH Tryd.prog [("math/bits.deBruijn32tab", Rows.laid_math_bits_deBruijn32tab), ("math/bits.deBruijn64tab", Rows.laid_math_bits_deBruijn64tab), ("internal/strconv.uint64pow10", Rows.laid_internal_strconv_uint64pow10), ("shapesearch/unit.powers", Rows.laid_shapesearch_unit_powers)] ((World.doorLaid Tryd.prog 400 os).forCall (fun _ _ => 0) ⟨#[], args, []⟩).memory :=
  laidMetH_of_parts3 (fuel := 8) (laidMet_of_run' 8 (by kernel_rfl) (by kernel_rfl)) (by kernel_rfl) (by kernel_rfl)
set_option maxRecDepth 100000 in
theorem lifted (os : Os) (started : os.Started) (H : Type) (enc : TypeId × Value → H) :
    ReturnsInHanded {} Tryd.checked os 3 .any (fun w args => (Rows.unitAnswersSpec.pre enc Tryd.prog Tryd.f3 [] false w args ∧ laidMetH Tryd.prog [("math/bits.deBruijn32tab", Rows.laid_math_bits_deBruijn32tab), ("math/bits.deBruijn64tab", Rows.laid_math_bits_deBruijn64tab), ("internal/strconv.uint64pow10", Rows.laid_internal_strconv_uint64pow10), ("shapesearch/unit.powers", Rows.laid_shapesearch_unit_powers)] w) ∧ sizedMet enc Tryd.prog Tryd.f3 (OpenSpec.ofChange Rows.unitAnswersSpec) false w args)
      (Rows.unitAnswersSpec.post enc Tryd.prog Tryd.f3 false true false false) := by
  refine returnsInHanded_of_change_and (C := Tryd.checked) (X := fun w _ => laidMetH Tryd.prog [("math/bits.deBruijn32tab", Rows.laid_math_bits_deBruijn32tab), ("math/bits.deBruijn64tab", Rows.laid_math_bits_deBruijn64tab), ("internal/strconv.uint64pow10", Rows.laid_internal_strconv_uint64pow10), ("shapesearch/unit.powers", Rows.laid_shapesearch_unit_powers)] w) (fun _ _ _ hh h => h.of_heap hh) own started (by kernel_rfl) Tryd.func3
    (ChangeSpec.witness_shaped (enc := enc) (C := Tryd.checked) (os := os) (X := fun w _ => laidMetH Tryd.prog [("math/bits.deBruijn32tab", Rows.laid_math_bits_deBruijn32tab), ("math/bits.deBruijn64tab", Rows.laid_math_bits_deBruijn64tab), ("internal/strconv.uint64pow10", Rows.laid_internal_strconv_uint64pow10), ("shapesearch/unit.powers", Rows.laid_shapesearch_unit_powers)] w) false (World.doorLaid Tryd.prog 400 os) #[.string ByteArray.empty, .agg #[.int .i64 0, .int .i64 0], .agg #[.string ByteArray.empty, .int .i64 0, .int .i64 0, .int .i64 0], .slice none 0 0] 8 rfl (World.shaped_of_RefB (by kernel_rfl) (by kernel_rfl)) (by kernel_rfl) (by kernel_rfl) (by kernel_rfl) (door_met os _)) ?_
  intro W base args ds gs before hval0 hW _ _ hL hsz
  have hval : ∀ (j : Nat) t v, Tryd.f3.params[j]? = some t → args[j]? = some v → Value.okWide Tryd.prog W .any base t v := hval0
  have hW' := hW
  obtain ⟨p, q, hA0, hV, rfl, hfz, hnd⟩ := hW
  have hA : DataW.TrodAll enc Tryd.prog W 0 (fun _ => true) true Tryd.f3.params.toList args.toList ds p := hA0
  rw [Tryd.params3] at hA hval
  obtain ⟨v0, vs0, d0, ds0, p0, q0, hargs, rfl, rfl, h0, r0⟩ := trodAll_cons hA
  obtain ⟨v1, vs1, d1, ds1, p1, q1, rfl, rfl, rfl, h1, r1⟩ := trodAll_cons r0
  obtain ⟨v2, vs2, d2, ds2, p2, q2, rfl, rfl, rfl, h2, r2⟩ := trodAll_cons r1
  obtain ⟨v3, vs3, d3, ds3, p3, q3, rfl, rfl, rfl, h3, r3⟩ := trodAll_cons r2
  obtain ⟨rfl, rfl, rfl⟩ := trodAll_nil r3
  obtain rfl : args = #[v0, v1, v2, v3] := by cases args; simp_all
  obtain ⟨rfl, rfl⟩ := trodVars_none hV
  obtain ⟨a0, rfl, rfl, rfl, w0⟩ := open_string Tryd.underlying9 (hval 0 9 v0 rfl rfl) h0
  obtain ⟨c10, c11, y10, y11, n1, rfl, -, -, hy10, hy11⟩ := open_agg2 Tryd.underlying23 (by kernel_rfl) cells23 (hval 1 23 v1 rfl rfl) h1
  obtain ⟨ax, e10, -, wx⟩ := DataW.trod_int Tryd.underlying3 hy10
  obtain ⟨ap, e11, -, wp⟩ := DataW.trod_int Tryd.underlying3 hy11
  simp only [List.cons.injEq, and_true] at e10 e11
  subst e10 e11
  obtain ⟨c20, c21, c22, c23, y20, y21, y22, y23, n2, rfl, -, -, hy20, hy21, hy22, hy23⟩ := open_agg4 Tryd.underlying25 (by kernel_rfl) cells25 (hval 2 25 v2 rfl rfl) h2
  obtain ⟨un, e20, -, wn⟩ := DataW.trod_string Tryd.underlying9 hy20
  obtain ⟨um, e21, -, wm⟩ := DataW.trod_int Tryd.underlying3 hy21
  obtain ⟨ua, e22, -, wa⟩ := DataW.trod_int Tryd.underlying3 hy22
  obtain ⟨ud, e23, -, wd⟩ := DataW.trod_int Tryd.underlying3 hy23
  simp only [List.cons.injEq, and_true] at e20 e21 e22 e23
  subst e20 e21 e22 e23
  have lt1 : ∀ x ∈ p1, x.block < W.heap.size := by obtain ⟨m, hm⟩ := h1; exact DataW.trod_lt m _ _ _ hm
  have lt2 : ∀ x ∈ p2, x.block < W.heap.size := by obtain ⟨m, hm⟩ := h2; exact DataW.trod_lt m _ _ _ hm
  obtain ⟨a3, len3, cap3, rfl⟩ := okWide_slice Tryd.underlying26 (hval 3 26 v3 rfl rfl)
  have k3 := h3
  have lt3 : ∀ x ∈ p3, x.block < W.heap.size := by obtain ⟨m, hm⟩ := k3; exact DataW.trod_lt m _ _ _ hm
  obtain ⟨z3, w3⟩ : ∃ zs, IsRow .i64 W a3 len3 cap3 zs := by
    obtain ⟨fuel, hf⟩ := h3
    rcases open_ints Tryd.underlying26 Tryd.underlying3 (by kernel_rfl) hf with ⟨hcs, _⟩ | ⟨x, l, c, zs, hcs, _, hl, hm, hz, _, hcell, hwz⟩
    · simp [Value.cells] at hcs
      obtain ⟨rfl, rfl, rfl⟩ := hcs
      exact ⟨[], .inl ⟨rfl, rfl, rfl, rfl⟩⟩
    · simp [Value.cells] at hcs
      obtain ⟨rfl, rfl, rfl⟩ := hcs
      exact ⟨zs, .inr ⟨_, rfl, hl, hm, by simpa using hz, hcell, hwz⟩⟩
  clear hA0 hval0
  refine (walk a0 ax ap un um ua ud a3 len3 cap3 z3 W (Un.both_of hL) w0 wx wp wn wm wa wd w3).mono fun e W' ⟨he, bel⟩ => ?_
  subst he
  exact ⟨_, rfl, _, _, _, [], _, [], hW', trodAll_mk1 (shut_bool Tryd.underlying4 _), (trodAll_cons_mk (shut_string Tryd.underlying9 w0) (trodAll_cons_mk (Below.trod laidOut (by kernel_rfl) (of_decide_eq_true (by kernel_rfl)) h1 bel lt1) (trodAll_cons_mk (Below.trod laidOut (by kernel_rfl) (of_decide_eq_true (by kernel_rfl)) h2 bel lt2) (trodAll_cons_mk (Below.trod laidOut (by kernel_rfl) (of_decide_eq_true (by kernel_rfl)) k3 bel lt3) trodAll_mk0)))), rfl, bel.frame _, fun h => by cases h⟩

theorem over : Rows.unitAnswersRow.holds Tryd.pinned (OpenSpec.ofChange Rows.unitAnswersSpec) :=
  OpenClaim.holds_of_wide 3 Tryd.f3 rfl rfl rfl rfl rfl rfl rfl ⟨rfl, rfl, rfl, rfl, rfl⟩ rfl rfl rfl rfl rfl (by kernel_rfl) Tryd.func3 (by kernel_rfl)
    (of_decide_eq_true (by kernel_rfl)) (by unfold Func.isWrapper; first | (rw [if_pos (by decide +kernel)]; kernel_rfl) | (rw [if_neg (by decide +kernel)]; exact ⟨rfl, rfl⟩))
    (fun os started H enc _ => lifted os started H enc)

theorem proved : Rows.UnitAnswersCardSaid :=
  Claim7.holds_tied_plain_at .later [] [.data, .data, .data, .data] true (true, "5fc395d4db67714ed0a833e9ecaa795b412d2c35ed464526f8a48ccd1ef4ef9a") false
    over (fun _ h => by cases h) (by kernel_rfl) (fun _ h => by cases h) unitAnswers_row_tie rfl ⟨rfl, rfl⟩ (by kernel_rfl) rfl
    (fun f fn hf hfn => by
      obtain rfl : f = 3 := Option.some.inj ((show Tryd.prog.funcNamed "shapesearch/shapesearchlaw04.UnitAnswers" = some 3 by kernel_rfl).symm.trans hf) |>.symm
      obtain rfl : fn = Tryd.f3 := (Option.some.inj (Tryd.func3.symm.trans hfn)).symm
      exact ⟨by kernel_rfl, fun j t ht => by
        rw [Tryd.params3] at ht
        have hm : t ∈ [9, 23, 25, 26] := by simpa using Array.mem_of_getElem? ht
        have hall : ([9, 23, 25, 26].all fun u => !Tryd.prog.wantsStandIn u) = true := by kernel_rfl
        exact (show Tryd.prog.wantsStandIn t = false by simpa using List.all_eq_true.1 hall t hm)⟩)
    (by kernel_rfl)
end Go.Proofs.YtgclojonjglikaaDoor.unitAnswers
