/- The reference's reading of a decimal: any text. -/
import Derived.Test.YtgclojonjglikaaDoorUnP
import Derived.Test.YtgclojonjglikaaDoorUnitFmt
import Derived.BigQuiet
import Derived.RegionTactic
import Derived.ChangeAlike
import Derived.Deep.CutRange
import Derived.Deep.CutBlock
import Derived.Deep.DeepCutAuto
namespace Go.Proofs.YtgclojonjglikaaDoor.Un
open Go.ChangeShapes Go.WideShapes Go.RowKit Wo
set_option linter.unusedVariables false
set_option linter.unusedSimpArgs false
theorem results_dt {fn : Func} {p u : Tmp} (h : fn.results = #[.cell p 23, .tmp u]) (tmps : Array Value) (w : World) (g : Nat) (a b : Value)
    (hp : tmps.getD p undef = .pointer (some ⟨g, 0, none⟩)) (hg : Bk w g 23 #[a, b]) :
    (results fn tmps).run Tryd.prog w = .ok (.tuple #[.agg #[a, b], tmps.getD u undef]) w := by
  have hp' : tmps[p]?.getD undef = .pointer (some ⟨g, 0, none⟩) := by simpa using hp
  have hl := run_loadVar_row (P := Tryd.prog) w g 23 23 #[a, b] (0, 0) _ hg Tryd.underlying23 rfl (by kernel_rfl)
  simp [results, h, hp', asAddr, hl]
set_option maxHeartbeats 16000000 in
set_option maxRecDepth 100000 in
theorem rparse_core (s body : ByteArray) (m : Bool) (hs : s.size ≤ 1000) (hb : body.size ≤ 1000)
    (hm : (m = false ∧ (s.size = 0 ∨ ∃ h : 0 < s.size, s[0].toNat ≠ 45) ∧ body = s) ∨ (m = true ∧ (∃ h : 0 < s.size, s[0].toNat = 45) ∧ body = s.extract 1 s.size)) (w : World) :
    Calls Tryd.prog 8 #[.string s] w fun e w' => e = .returned (prs (rn body.data.toList) m) ∧ Bel w w' := by
  have HM := Lib.hid hm
  have HB0 : Hid (Bk (w.alloc (.cells #[.int .i64 0, .int .i64 0] 23)) w.heap.size 23 #[.int .i64 0, .int .i64 0]) := Bk.nw _ _ _
  have HW0 : Hid (Bel w (w.alloc (.cells #[.int .i64 0, .int .i64 0] 23))) := Bel.rf.al _
  have hbs : (body.size : Int) ≤ 1000 := by omega
  have hss : (s.size : Int) ≤ 1000 := by omega
  obtain ⟨l, hl⟩ : ∃ l, body.data.toList = l := ⟨_, rfl⟩
  have HLL : Hid (l.length = body.size) := by show _ = _; rw [← hl]; simp
  have HLG : Hid (∀ k (h : k < body.size), l.getD k 0 = body[k]) := fun k h => by
    rw [← hl, List.getD_eq_getElem?_getD, List.getElem?_eq_getElem (by simpa using h)]; rfl
  rw [hl]
  clear hm hl
  go_enter Tryd.func8, Tryd.ntmps8
  go_upto_region 1 with fail
  go_cut [4] (fun s4 wx => s4 = .bool m ∧ wx = w.alloc (.cells #[.int .i64 0, .int .i64 0] 23))
  case first =>
    rcases HM.out with ⟨rfl, h1 | ⟨h1, h2⟩, rfl⟩ | ⟨rfl, ⟨h1, h2⟩, rfl⟩
    · have e0 : ¬ 0 < body.size := by omega
      have e1 : decide (0 < body.size) = false := decide_eq_false e0
      have e2 : decide ((0 : Int) < (body.size : Int)) = false := decide_eq_false (by omega)
      go_wp2_with fail
      go_meet
      case rel => exact ⟨rfl, rfl⟩
    · have e1 : decide (0 < body.size) = true := decide_eq_true h1
      have e2 : decide ((0 : Int) < (body.size : Int)) = true := decide_eq_true (by omega)
      have e3 : decide (body[0].toNat = 45) = false := decide_eq_false h2
      go_wp2_with fail
      go_meet
      case rel => exact ⟨by simp; omega, rfl⟩
    · have e1 : decide (0 < s.size) = true := decide_eq_true h1
      have e2 : decide ((0 : Int) < (s.size : Int)) = true := decide_eq_true (by omega)
      have e3 : decide (s[0].toNat = 45) = true := decide_eq_true h2
      go_wp2_with fail
      go_meet
      case rel => exact ⟨by simp [h2], rfl⟩
  case rest =>
  obtain ⟨rfl, rfl⟩ := hcut
  go_upto_if 19 with fail
  go_cut [0] (fun s0 wx => s0 = .string body ∧ wx = w.alloc (.cells #[.int .i64 0, .int .i64 0] 23))
  case first =>
    rcases HM.out with ⟨rfl, h1, rfl⟩ | ⟨rfl, ⟨h1, h2⟩, hbo⟩
    · go_wp2_with fail
      go_meet
      case rel => exact ⟨rfl, rfl⟩
    · have e1 : (1 : Int) ≤ (s.size : Int) := by omega
      have HBO := Lib.hid hbo
      clear hbo
      go_wp2_with fail
      go_meet
      case rel => exact ⟨by rw [HBO.out], rfl⟩
  case rest =>
  obtain ⟨rfl, rfl⟩ := hcut
  go_wp2_with fail
  go_loopw [5, 6, 7] (fun s5 s6 s7 wr => ∃ (k : Nat) (pt : Int) (z : Bool) (V : World), V = wr ∧ k ≤ body.size ∧ s5 = .int .i64 pt ∧ s6 = .bool z ∧ s7 = .int .i64 (k : Int) ∧ Pi l k pt z ∧ Bk wr w.heap.size 23 #[.int .i64 0, .int .i64 0] ∧ Bel w wr) (fun _ _ s7 _ => body.size - (intOf s7).toNat)
  case atStart => exact ⟨0, -1, true, _, rfl, by omega, rfl, rfl, rfl, Pi.nil l, HB0.out, HW0.out⟩
  case round =>
    obtain ⟨k, pt, z, wr, hwr, hk, rfl, rfl, rfl, hpi, hbk, hbl⟩ := hrel
    subst hwr
    have HPI := Lib.hid hpi
    have HBK := Lib.hid hbk
    have HBL := Lib.hid hbl
    clear hpi hbl
    have r0 := hbk.cell 0
    have r1 := hbk.cell 1
    have f0 := hbk.fr 0
    have f1 := hbk.fr 1
    simp only [List.getElem?_toArray, List.getElem?_cons_zero, List.getElem?_cons_succ] at r0 r1
    clear hbk
    rcases Nat.lt_or_ge k body.size with hlt | hge
    · have kk : (k : Int) < (body.size : Int) := by omega
      have hkl : k < l.length := by rw [HLL.out]; exact hlt
      have hpt : pt = -1 ∨ 0 ≤ pt := by
        rcases HPI.out.p with ⟨e, _⟩ | ⟨i, _, e, _⟩ <;> omega
      have hc := HLG.out k hlt
      have HPD := Lib.hid hpt
      have HCC := Lib.hid hc
      clear hpt hc
      rcases (by omega : body[k].toNat = 46 ∨ (body[k].toNat ≠ 46 ∧ body[k].toNat < 48) ∨ 57 < body[k].toNat ∨ body[k].toNat = 48 ∨ (48 < body[k].toNat ∧ body[k].toNat ≤ 57)) with c1 | ⟨c0, c1⟩ | c1 | c1 | ⟨c1, c2⟩
      · have e1 : decide (body[k].toNat = 46) = true := decide_eq_true c1
        have e2 : decide (body[k].toNat < 48) = true := decide_eq_true (by omega)
        rcases HPD.out with p1 | p1
        · subst p1
          have HPN : Hid (Pi l (k + 1) (k : Int) z) := HPI.out.dot hkl (by rw [HCC.out]; exact c1)
          go_wp2
          go_roundw
          case rel => exact ⟨k + 1, _, _, _, rfl, by omega, rfl, rfl, by go_num, HPN.out, HBK.out.bel (by repeat (first | exact Bel.rf | (with_reducible refine Bel.drwN ?_ _) | (with_reducible refine Bel.drw ?_) | (with_reducible refine Bel.al ?_ _))), (by repeat (first | exact HBL.out | (with_reducible refine Bel.drwN ?_ _) | (with_reducible refine Bel.drw ?_) | (with_reducible refine Bel.al ?_ _)))⟩
          case measure => simp [intOf]; omega
        · have p2 : ¬ pt < 0 := by omega
          have p3 : decide (pt < 0) = false := decide_eq_false p2
          have HWR : Hid (prs (rn l) m = .tuple #[.agg #[.int .i64 0, .int .i64 0], .int .i64 3]) := prs_wrong (HPI.out.bad hkl (fun q => by omega) (by rw [HCC.out]; omega))
          go_wp2
          have HF : Hid (Bk ((wr.setCell ⟨w.heap.size, 0, none⟩ (.int .i64 0)).setCell ⟨w.heap.size, 1, none⟩ (.int .i64 0)) w.heap.size 23 #[.int .i64 0, .int .i64 0]) := (HBK.out.st 0 _).st 1 _
          have HE : Hid (Bel w ((wr.setCell ⟨w.heap.size, 0, none⟩ (.int .i64 0)).setCell ⟨w.heap.size, 1, none⟩ (.int .i64 0))) := Bel.st2 (Nat.le_refl _) (Bel.st2 (Nat.le_refl _) HBL.out _) _
          exact bodyPost_ret (v := .tuple #[.agg #[.int .i64 0, .int .i64 0], .int .i64 3]) (results_dt Tryd.results8 _ _ w.heap.size _ _ rfl (HF.out.bel (by repeat (first | exact Bel.rf | (with_reducible refine Bel.drwN ?_ _) | (with_reducible refine Bel.drw ?_) | (with_reducible refine Bel.al ?_ _))))) rfl ⟨by rw [HWR.out], HE.out.tr (by repeat (first | exact Bel.rf | (with_reducible refine Bel.drwN ?_ _) | (with_reducible refine Bel.drw ?_) | (with_reducible refine Bel.al ?_ _)))⟩
      · have e1 : decide (body[k].toNat = 46) = false := decide_eq_false c0
        have e2 : decide (body[k].toNat < 48) = true := decide_eq_true c1
        have HWR : Hid (prs (rn l) m = .tuple #[.agg #[.int .i64 0, .int .i64 0], .int .i64 3]) := prs_wrong (HPI.out.bad hkl (fun q => by rw [HCC.out] at q; exact c0 q.1) (by rw [HCC.out]; omega))
        go_wp2
        have HF : Hid (Bk ((wr.setCell ⟨w.heap.size, 0, none⟩ (.int .i64 0)).setCell ⟨w.heap.size, 1, none⟩ (.int .i64 0)) w.heap.size 23 #[.int .i64 0, .int .i64 0]) := (HBK.out.st 0 _).st 1 _
        have HE : Hid (Bel w ((wr.setCell ⟨w.heap.size, 0, none⟩ (.int .i64 0)).setCell ⟨w.heap.size, 1, none⟩ (.int .i64 0))) := Bel.st2 (Nat.le_refl _) (Bel.st2 (Nat.le_refl _) HBL.out _) _
        exact bodyPost_ret (v := .tuple #[.agg #[.int .i64 0, .int .i64 0], .int .i64 3]) (results_dt Tryd.results8 _ _ w.heap.size _ _ rfl (HF.out.bel (by repeat (first | exact Bel.rf | (with_reducible refine Bel.drwN ?_ _) | (with_reducible refine Bel.drw ?_) | (with_reducible refine Bel.al ?_ _))))) rfl ⟨by rw [HWR.out], HE.out.tr (by repeat (first | exact Bel.rf | (with_reducible refine Bel.drwN ?_ _) | (with_reducible refine Bel.drw ?_) | (with_reducible refine Bel.al ?_ _)))⟩
      · have e1 : decide (body[k].toNat = 46) = false := decide_eq_false (by omega)
        have e0 : ¬ body[k].toNat = 46 := by omega
        have e3 : ¬ body[k].toNat < 48 := by omega
        have e2 : decide (body[k].toNat < 48) = false := decide_eq_false e3
        have e4 : decide (57 < body[k].toNat) = true := decide_eq_true c1
        have HWR : Hid (prs (rn l) m = .tuple #[.agg #[.int .i64 0, .int .i64 0], .int .i64 3]) := prs_wrong (HPI.out.bad hkl (fun q => by rw [HCC.out] at q; omega) (by rw [HCC.out]; omega))
        go_wp2
        have HF : Hid (Bk ((wr.setCell ⟨w.heap.size, 0, none⟩ (.int .i64 0)).setCell ⟨w.heap.size, 1, none⟩ (.int .i64 0)) w.heap.size 23 #[.int .i64 0, .int .i64 0]) := (HBK.out.st 0 _).st 1 _
        have HE : Hid (Bel w ((wr.setCell ⟨w.heap.size, 0, none⟩ (.int .i64 0)).setCell ⟨w.heap.size, 1, none⟩ (.int .i64 0))) := Bel.st2 (Nat.le_refl _) (Bel.st2 (Nat.le_refl _) HBL.out _) _
        exact bodyPost_ret (v := .tuple #[.agg #[.int .i64 0, .int .i64 0], .int .i64 3]) (results_dt Tryd.results8 _ _ w.heap.size _ _ rfl (HF.out.bel (by repeat (first | exact Bel.rf | (with_reducible refine Bel.drwN ?_ _) | (with_reducible refine Bel.drw ?_) | (with_reducible refine Bel.al ?_ _))))) rfl ⟨by rw [HWR.out], HE.out.tr (by repeat (first | exact Bel.rf | (with_reducible refine Bel.drwN ?_ _) | (with_reducible refine Bel.drw ?_) | (with_reducible refine Bel.al ?_ _)))⟩
      · have e1 : decide (body[k].toNat = 46) = false := decide_eq_false (by omega)
        have e0 : ¬ body[k].toNat = 46 := by omega
        have e3 : ¬ body[k].toNat < 48 := by omega
        have e2 : decide (body[k].toNat < 48) = false := decide_eq_false e3
        have e4 : decide (57 < body[k].toNat) = false := decide_eq_false (by omega)
        have e5 : decide (body[k].toNat = 48) = true := decide_eq_true c1
        have HPN : Hid (Pi l (k + 1) pt z) := by
          have h := HPI.out.dig hkl (by rw [HCC.out]; omega) (by rw [HCC.out]; omega)
          rw [HCC.out, e5, Bool.and_true] at h
          exact h
        go_wp2
        go_roundw
        case rel => exact ⟨k + 1, _, _, _, rfl, by omega, rfl, rfl, by go_num, HPN.out, HBK.out.bel (by repeat (first | exact Bel.rf | (with_reducible refine Bel.drwN ?_ _) | (with_reducible refine Bel.drw ?_) | (with_reducible refine Bel.al ?_ _))), (by repeat (first | exact HBL.out | (with_reducible refine Bel.drwN ?_ _) | (with_reducible refine Bel.drw ?_) | (with_reducible refine Bel.al ?_ _)))⟩
        case measure => simp [intOf]; omega
      · have e1 : decide (body[k].toNat = 46) = false := decide_eq_false (by omega)
        have e0 : ¬ body[k].toNat = 46 := by omega
        have e3 : ¬ body[k].toNat < 48 := by omega
        have e2 : decide (body[k].toNat < 48) = false := decide_eq_false e3
        have e4 : decide (57 < body[k].toNat) = false := decide_eq_false (by omega)
        have e6 : ¬ body[k].toNat = 48 := by omega
        have e5 : decide (body[k].toNat = 48) = false := decide_eq_false e6
        have HPN : Hid (Pi l (k + 1) pt false) := by
          have h := HPI.out.dig hkl (by rw [HCC.out]; omega) (by rw [HCC.out]; omega)
          rw [HCC.out, e5, Bool.and_false] at h
          exact h
        go_wp2
        go_roundw
        case rel => exact ⟨k + 1, _, _, _, rfl, by omega, rfl, rfl, by go_num, HPN.out, HBK.out.bel (by repeat (first | exact Bel.rf | (with_reducible refine Bel.drwN ?_ _) | (with_reducible refine Bel.drw ?_) | (with_reducible refine Bel.al ?_ _))), (by repeat (first | exact HBL.out | (with_reducible refine Bel.drwN ?_ _) | (with_reducible refine Bel.drw ?_) | (with_reducible refine Bel.al ?_ _)))⟩
        case measure => simp [intOf]; omega
    · obtain rfl : k = body.size := by omega
      have HPF : Hid (Pi l l.length pt z) := by show Pi l l.length pt z; rw [HLL.out]; exact HPI.out
      obtain ⟨N, pl, q1, q2, q3, q4, q5, q6, q7, q8, q9⟩ := HPF.out.fin m
      rw [HLL.out] at q3
      have HPLS := Lib.hid q1
      have HOKW := Lib.hid q4
      have HR5 := Lib.hid q5
      have HR6 := Lib.hid q6
      have HR7 := Lib.hid q7
      have HR8 := Lib.hid q8
      have HR9 := Lib.hid q9
      clear q1 q4 q5 q6 q7 q8 q9
      have hwg : w.heap.size < wr.heap.size := HBK.out.lt
      have HW0 : Hid (w.heap.size ≤ wr.heap.size) := by show _ ≤ _; omega
      go_upto_if 58 with fail
      have HKG : Hid (∀ W : World, Bk (W.alloc (.cells #[.int .i64 0, .int .i64 0] 23)) W.heap.size 23 #[.int .i64 0, .int .i64 0]) := fun W => Bk.nw _ _ _
      rcases (by omega : (0 ≤ pt ∧ (pl < 1 ∨ 6 < pl)) ∨ (pt = -1 ∨ (1 ≤ pl ∧ pl ≤ 6))) with ⟨b1, b2⟩ | hgood
      · have HWR : Hid (prs (rn l) m = .tuple #[.agg #[.int .i64 0, .int .i64 0], .int .i64 3]) := prs_form (HR5.out b1 b2)
        obtain ⟨rfl, b4, rfl⟩ : pt = (N : Int) ∧ N < body.size ∧ pl = (body.size : Int) - (N : Int) - 1 := by omega
        have e1 : decide (0 ≤ (N : Int)) = true := decide_eq_true b1
        have x1 : (N : Int) ≤ (body.size : Int) := by omega
        rcases b2 with b2 | b2
        · have e2 : decide ((body.size : Int) - (N : Int) - 1 < 1) = true := decide_eq_true b2
          go_wp2
          have HF : Hid (Bk ((wr.setCell ⟨w.heap.size, 0, none⟩ (.int .i64 0)).setCell ⟨w.heap.size, 1, none⟩ (.int .i64 0)) w.heap.size 23 #[.int .i64 0, .int .i64 0]) := (HBK.out.st 0 _).st 1 _
          have HE : Hid (Bel w ((wr.setCell ⟨w.heap.size, 0, none⟩ (.int .i64 0)).setCell ⟨w.heap.size, 1, none⟩ (.int .i64 0))) := Bel.st2 (Nat.le_refl _) (Bel.st2 (Nat.le_refl _) HBL.out _) _
          exact bodyPost_ret (v := .tuple #[.agg #[.int .i64 0, .int .i64 0], .int .i64 3]) (results_dt Tryd.results8 _ _ w.heap.size _ _ rfl (HF.out.bel (by repeat (first | exact Bel.rf | (with_reducible refine Bel.drwN ?_ _) | (with_reducible refine Bel.drw ?_) | (with_reducible refine Bel.al ?_ _))))) rfl ⟨by rw [HWR.out], HE.out.tr (by repeat (first | exact Bel.rf | (with_reducible refine Bel.drwN ?_ _) | (with_reducible refine Bel.drw ?_) | (with_reducible refine Bel.al ?_ _)))⟩
        · have e3 : ¬ (body.size : Int) - (N : Int) - 1 < 1 := by omega
          have e2 : decide ((body.size : Int) - (N : Int) - 1 < 1) = false := decide_eq_false e3
          have e4 : decide (6 < (body.size : Int) - (N : Int) - 1) = true := decide_eq_true b2
          go_wp2
          have HF : Hid (Bk ((wr.setCell ⟨w.heap.size, 0, none⟩ (.int .i64 0)).setCell ⟨w.heap.size, 1, none⟩ (.int .i64 0)) w.heap.size 23 #[.int .i64 0, .int .i64 0]) := (HBK.out.st 0 _).st 1 _
          have HE : Hid (Bel w ((wr.setCell ⟨w.heap.size, 0, none⟩ (.int .i64 0)).setCell ⟨w.heap.size, 1, none⟩ (.int .i64 0))) := Bel.st2 (Nat.le_refl _) (Bel.st2 (Nat.le_refl _) HBL.out _) _
          exact bodyPost_ret (v := .tuple #[.agg #[.int .i64 0, .int .i64 0], .int .i64 3]) (results_dt Tryd.results8 _ _ w.heap.size _ _ rfl (HF.out.bel (by repeat (first | exact Bel.rf | (with_reducible refine Bel.drwN ?_ _) | (with_reducible refine Bel.drw ?_) | (with_reducible refine Bel.al ?_ _))))) rfl ⟨by rw [HWR.out], HE.out.tr (by repeat (first | exact Bel.rf | (with_reducible refine Bel.drwN ?_ _) | (with_reducible refine Bel.drw ?_) | (with_reducible refine Bel.al ?_ _)))⟩
      · go_cut [8] (fun s8 wx => ∃ (q : ByteArray) (V : World), V = wx ∧ s8 = .string q ∧ q.size = N ∧ (∀ h : 0 < q.size, q[0] = l.getD 0 0) ∧ Bk wx wr.heap.size 23 #[.int .i64 0, .int .i64 pl] ∧ Bk wx w.heap.size 23 #[.int .i64 0, .int .i64 0] ∧ Bel w wx)
        case first =>
          rcases q3 with ⟨rfl, rfl, rfl⟩ | ⟨rfl, b4, b5⟩
          · have e1 : decide ((0 : Int) ≤ -1) = false := rfl
            go_wp2_with fail
            go_meet
            case rel => exact ⟨body, _, rfl, rfl, rfl, fun h => (HLG.out 0 h).symm, HKG.out _, HBK.out.al _, HBL.out.al _⟩
          · have e1 : decide (0 ≤ (N : Int)) = true := decide_eq_true (by omega)
            have x1 : (N : Int) ≤ (body.size : Int) := by omega
            have e3 : ¬ pl < 1 := by omega
            have e2 : decide (pl < 1) = false := decide_eq_false e3
            have e4 : decide (6 < pl) = false := decide_eq_false (by omega)
            have HQS : Hid ((body.extract 0 N).size = N) := by
              show (body.extract 0 N).size = N
              rw [ByteArray.size_extract]; omega
            have HQ0 : Hid (∀ h : 0 < (body.extract 0 N).size, (body.extract 0 N)[0] = l.getD 0 0) := fun h => by
              have h' : 0 < body.size := by omega
              rw [HLG.out 0 h']
              rw [ByteArray.getElem_extract]
            have HKG2 : Hid (∀ W : World, Bk (W.alloc (.cells #[.int .i64 0, .int .i64 ((body.size : Int) - (N : Int) - 1)] 23)) W.heap.size 23 #[.int .i64 0, .int .i64 pl]) := by
              intro W; rw [← b5]; exact Bk.nw _ _ _
            subst b5
            go_wp2_with fail
            go_meet
            case rel => exact ⟨_, _, rfl, rfl, HQS.out, HQ0.out, HKG2.out _, HBK.out.al _, HBL.out.al _⟩
        case rest =>
        obtain ⟨q, V, hV, rfl, hqs, hq0, hbg, hbr, hbv⟩ := hcut
        subst hV
        have HBG := Lib.hid hbg
        have HBR := Lib.hid hbr
        have HBV := Lib.hid hbv
        have hqs' : (q.size : Int) = (N : Int) := by omega
        have hN : N ≤ body.size := by omega
        have HNB : Hid (N ≤ body.size) := hN
        have HQ3 := Lib.hid q3
        have HGD := Lib.hid hgood
        clear hbg hbr hbv r0 r1 f0 f1 q3 hgood
        obtain ⟨b, hb0⟩ : ∃ b : Bool, (b = true ∧ (N = 0 ∨ (2 ≤ N ∧ l.getD 0 0 = 48) ∨ (m = true ∧ z = true))) ∨ (b = false ∧ 0 < N ∧ ¬ (2 ≤ N ∧ l.getD 0 0 = 48) ∧ ¬ (m = true ∧ z = true)) := by
          by_cases g : N = 0 ∨ (2 ≤ N ∧ l.getD 0 0 = 48) ∨ (m = true ∧ z = true)
          · exact ⟨true, .inl ⟨rfl, g⟩⟩
          · exact ⟨false, .inr ⟨rfl, by omega, fun x => g (.inr (.inl x)), fun x => g (.inr (.inr x))⟩⟩
        have HRB : Hid ((b = true → prs (rn l) m = .tuple #[.agg #[.int .i64 0, .int .i64 0], .int .i64 3]) ∧ (b = false → rej (rn l) m = false)) := by
          rcases hb0 with ⟨rfl, g⟩ | ⟨rfl, g1, g2, g3⟩
          · refine ⟨fun _ => prs_form ?_, fun h => by cases h⟩
            rcases g with g | ⟨g1, g2⟩ | ⟨g1, g2⟩
            · exact HR6.out g
            · exact HR7.out g1 g2
            · exact HR8.out g1 g2
          · exact ⟨(fun h => by cases h), fun _ => HR9.out HGD.out g1 g2 g3⟩
        go_upto_region 19 with fail
        go_cut [94] (fun s94 wy => s94 = .bool b ∧ wy = V)
        case first =>
          rcases (by omega : N = 0 ∨ N = 1 ∨ 2 ≤ N) with n0 | n0 | n0
          · have hqe : q = ⟨#[]⟩ := by
              rcases q with ⟨⟨qq⟩⟩
              cases qq with
              | nil => rfl
              | cons a t => simp [ByteArray.size] at hqs; omega
            subst hqe
            have hbt : b = true := by
              rcases hb0 with ⟨h, _⟩ | ⟨_, h, _⟩
              · exact h
              · omega
            subst hbt
            go_wp2_with fail
            go_meet
            case rel => exact ⟨rfl, rfl⟩
          · have hqn : ¬ q = ⟨#[]⟩ := fun h => by subst h; simp [ByteArray.size] at hqs; omega
            have e1 : decide (1 < (q.size : Int)) = false := decide_eq_false (by omega)
            have e2 : ¬ q.toList = [] := fun h => hqn (by rw [Lib.toList_data] at h; exact ByteArray.ext (Array.toList_inj.1 h))
            have x2 : ¬ (1 : Int) < (q.size : Int) := by omega
            have e3 : b = (m && z) := by
              rcases hb0 with ⟨rfl, h | h | ⟨rfl, rfl⟩⟩ | ⟨rfl, _, _, h⟩
              · omega
              · omega
              · rfl
              · rcases m <;> rcases z <;> simp at h ⊢
            subst e3
            clear hqs hqs' hq0 hqn hb0
            have e4 : q.toList.isEmpty = false := by cases h : q.toList with | nil => exact absurd h e2 | cons c l => rfl
            rcases m
            · go_wp2_with fail
              go_meet
              case rel => exact ⟨rfl, rfl⟩
            · go_wp2_with fail
              go_meet
              case rel => exact ⟨rfl, rfl⟩
          · have hqn : ¬ q = ⟨#[]⟩ := fun h => by subst h; simp [ByteArray.size] at hqs; omega
            have e1 : decide (1 < (q.size : Int)) = true := decide_eq_true (by omega)
            have e2 : ¬ q.toList = [] := fun h => hqn (by rw [Lib.toList_data] at h; exact ByteArray.ext (Array.toList_inj.1 h))
            have x2 : (1 : Int) < (q.size : Int) := by omega
            have q0 : 0 < q.size := by omega
            have q1 : (0 : Int) < (q.size : Int) := by omega
            rcases Classical.em (l.getD 0 0 = 48) with g | g
            · have hbt : b = true := by
                rcases hb0 with ⟨h, _⟩ | ⟨_, _, h, _⟩
                · exact h
                · exact absurd ⟨n0, g⟩ h
              subst hbt
              have q2 : q[0].toNat = 48 := by rw [hq0 q0, g]; rfl
              clear hqs hqs' hq0 hqn hb0
              go_wp2_with fail
              go_meet
              case rel => exact ⟨rfl, rfl⟩
            · have q2 : ¬ q[0].toNat = 48 := fun h => g (by rw [← hq0 q0]; exact UInt8.toNat_inj.1 h)
              have e3 : b = (m && z) := by
                rcases hb0 with ⟨rfl, h | h | ⟨rfl, rfl⟩⟩ | ⟨rfl, _, _, h⟩
                · omega
                · exact absurd h.2 g
                · rfl
                · rcases m <;> rcases z <;> simp at h ⊢
              subst e3
              clear hqs hqs' hq0 hqn hb0
              have e4 : q.toList.isEmpty = false := by cases h : q.toList with | nil => exact absurd h e2 | cons c l => rfl
              have e5 : ((q[0].toNat : Int) == 48) = false := by rw [beq_eq_false_iff_ne]; omega
              rcases m
              · go_wp2_with fail
                go_meet
                case rel => exact ⟨rfl, rfl⟩
              · go_wp2_with fail
                go_meet
                case rel => exact ⟨rfl, rfl⟩
        case rest =>
        obtain ⟨rfl, rfl⟩ := hcut
        have r0 : wc.cell? ⟨w.heap.size, 0, none⟩ = some (.int .i64 0) := HBR.out.cell 0
        have r1 : wc.cell? ⟨w.heap.size, 1, none⟩ = some (.int .i64 0) := HBR.out.cell 1
        have f0 : wc.frozen? ⟨w.heap.size, 0, none⟩ = false := HBR.out.fr 0
        have f1 : wc.frozen? ⟨w.heap.size, 1, none⟩ = false := HBR.out.fr 1
        clear hb0 hqs hqs' hq0
        rcases b with _ | _
        · have HREJ := Lib.hid (HRB.out.2 rfl)
          go_wp2_with fail
          clear r0 r1 f0 f1
          go_loopw [10] (fun s10 wq => ∃ (k : Nat) (V : World), V = wq ∧ k ≤ body.size ∧ s10 = .int .i64 (k : Int) ∧ (rn (l.take k)).digits ≤ 1000000000 ∧ Bk wq wr.heap.size 23 #[.int .i64 (rn (l.take k)).digits, .int .i64 pl] ∧ Bk wq w.heap.size 23 #[.int .i64 0, .int .i64 0] ∧ Bel w wq) (fun s10 _ => body.size - (intOf s10).toNat)
          case atStart => exact ⟨0, _, rfl, by omega, rfl, by simp [rn], HBG.out, HBR.out, HBV.out⟩
          case round =>
            obtain ⟨k, V, hV, hk, rfl, hd1, hbg, hbr, hbv⟩ := hrel
            subst hV
            rename_i wq
            have hd0 : 0 ≤ (rn (l.take k)).digits := (rn_ok (l.take k)).1
            obtain ⟨d, hd⟩ : ∃ d, (rn (l.take k)).digits = d := ⟨_, rfl⟩
            rw [hd] at hd0 hd1 hbg
            have HD := Lib.hid hd
            have HQG := Lib.hid hbg
            have HQR := Lib.hid hbr
            have HQV := Lib.hid hbv
            have g0 : V.cell? ⟨wr.heap.size, 0, none⟩ = some (.int .i64 d) := HQG.out.cell 0
            have g1 : V.cell? ⟨wr.heap.size, 1, none⟩ = some (.int .i64 pl) := HQG.out.cell 1
            have j0 : V.frozen? ⟨wr.heap.size, 0, none⟩ = false := HQG.out.fr 0
            have j1 : V.frozen? ⟨wr.heap.size, 1, none⟩ = false := HQG.out.fr 1
            have r0 : V.cell? ⟨w.heap.size, 0, none⟩ = some (.int .i64 0) := HQR.out.cell 0
            have r1 : V.cell? ⟨w.heap.size, 1, none⟩ = some (.int .i64 0) := HQR.out.cell 1
            have f0 : V.frozen? ⟨w.heap.size, 0, none⟩ = false := HQR.out.fr 0
            have f1 : V.frozen? ⟨w.heap.size, 1, none⟩ = false := HQR.out.fr 1
            clear hd hbg hbr hbv
            rcases Nat.lt_or_ge k body.size with hlt | hge
            · have kk : (k : Int) < (body.size : Int) := by omega
              have hkl : k < l.length := by rw [HLL.out]; exact hlt
              have hc := HLG.out k hlt
              have hok := byte_ok hkl HOKW.out
              rw [hc] at hok
              have HCC := Lib.hid hc
              clear hc
              rcases hok with c1 | ⟨c1, c2⟩
              · have e1 : decide (body[k].toNat = 46) = true := decide_eq_true c1
                have HDV : Hid ((rn (l.take (k + 1))).digits = d) := by
                  show _ = _
                  rw [dot_val hkl (pre_ok _ HOKW.out) (by rw [HCC.out]; exact c1), HD.out]
                go_wp2
                go_roundw
                case rel => exact ⟨k + 1, _, rfl, by omega, by go_num, by rw [HDV.out]; exact hd1, by rw [HDV.out]; exact HQG.out.bel (by repeat (first | exact Bel.rf | (with_reducible refine Bel.drwN ?_ _) | (with_reducible refine Bel.drw ?_) | (with_reducible refine Bel.al ?_ _))), HQR.out.bel (by repeat (first | exact Bel.rf | (with_reducible refine Bel.drwN ?_ _) | (with_reducible refine Bel.drw ?_) | (with_reducible refine Bel.al ?_ _))), (by repeat (first | exact HQV.out | (with_reducible refine Bel.drwN ?_ _) | (with_reducible refine Bel.drw ?_) | (with_reducible refine Bel.al ?_ _)))⟩
                case measure => simp [intOf]; omega
              · have c3 : ¬ body[k].toNat = 46 := by omega
                have e1 : decide (body[k].toNat = 46) = false := decide_eq_false c3
                have HDV : Hid ((rn (l.take (k + 1))).digits = cap (10 * d + ((body[k].toNat : Int) - 48))) := by
                  show _ = _
                  rw [dig_val hkl (by rw [HCC.out]; exact c1) (by rw [HCC.out]; exact c2), HD.out, HCC.out]
                have u1 : IntKind.u8.wrap ((body[k].toNat : Int) - 48) = (body[k].toNat : Int) - 48 := by
                  simp [IntKind.wrap, IntKind.bits, IntKind.signed]; omega
                have HLE := UInt8.toNat_lt body[k]
                go_wp2
                go_region
                obtain ⟨d2, hd2⟩ : ∃ d2, d * 10 + ((body[k].toNat : Int) - 48) = d2 := ⟨_, rfl⟩
                rw [hd2]
                have HC2 : Hid ((rn (l.take (k + 1))).digits = cap d2) := by
                  show _ = _
                  rw [HDV.out, ← hd2]; congr 1; omega
                have B2 : Bk (V.setCell ⟨wr.heap.size, 0, none⟩ (.int .i64 d2)).drew wr.heap.size 23 #[.int .i64 d2, .int .i64 pl] := (HQG.out.st 0 _).drw
                have R2 : Bk (V.setCell ⟨wr.heap.size, 0, none⟩ (.int .i64 d2)).drew w.heap.size 23 #[.int .i64 0, .int .i64 0] := (HQR.out.far (by dsimp only; omega) _).drw
                have E2 : Bel w (V.setCell ⟨wr.heap.size, 0, none⟩ (.int .i64 d2)).drew := (Bel.st2 HW0.out HQV.out _).drw
                generalize (V.setCell ⟨wr.heap.size, 0, none⟩ (.int .i64 d2)).drew = V2 at B2 R2 E2 ⊢
                have HBB := Lib.hid B2
                have HRR := Lib.hid R2
                have HEE := Lib.hid E2
                have t0 : V2.cell? ⟨wr.heap.size, 0, none⟩ = some (.int .i64 d2) := HBB.out.cell 0
                have t1 : V2.cell? ⟨w.heap.size, 0, none⟩ = some (.int .i64 0) := HRR.out.cell 0
                have t2 : V2.cell? ⟨w.heap.size, 1, none⟩ = some (.int .i64 0) := HRR.out.cell 1
                have t3 : V2.frozen? ⟨w.heap.size, 0, none⟩ = false := HRR.out.fr 0
                have t4 : V2.frozen? ⟨w.heap.size, 1, none⟩ = false := HRR.out.fr 1
                clear B2 R2 E2 hd2 g0 g1 j0 j1 r0 r1 f0 f1
                rcases Int.lt_or_le 1000000000 d2 with hbig | hsm
                · have e6 : decide (1000000000 < d2) = true := decide_eq_true hbig
                  have HWR : Hid (prs (rn l) m = .tuple #[.agg #[.int .i64 0, .int .i64 0], .int .i64 1]) := prs_range HREJ.out (rn_big l (k + 1) (by rw [HC2.out]; exact cap_big hbig))
                  go_wp2
                  have HF : Hid (Bk ((V2.setCell ⟨w.heap.size, 0, none⟩ (.int .i64 0)).setCell ⟨w.heap.size, 1, none⟩ (.int .i64 0)) w.heap.size 23 #[.int .i64 0, .int .i64 0]) := (HRR.out.st 0 _).st 1 _
                  have HE : Hid (Bel w ((V2.setCell ⟨w.heap.size, 0, none⟩ (.int .i64 0)).setCell ⟨w.heap.size, 1, none⟩ (.int .i64 0))) := Bel.st2 (Nat.le_refl _) (Bel.st2 (Nat.le_refl _) HEE.out _) _
                  exact bodyPost_ret (v := .tuple #[.agg #[.int .i64 0, .int .i64 0], .int .i64 1]) (results_dt Tryd.results8 _ _ w.heap.size _ _ rfl (HF.out.bel (by repeat (first | exact Bel.rf | (with_reducible refine Bel.drwN ?_ _) | (with_reducible refine Bel.drw ?_) | (with_reducible refine Bel.al ?_ _))))) rfl ⟨by rw [HWR.out], HE.out.tr (by repeat (first | exact Bel.rf | (with_reducible refine Bel.drwN ?_ _) | (with_reducible refine Bel.drw ?_) | (with_reducible refine Bel.al ?_ _)))⟩
                · have e7 : ¬ 1000000000 < d2 := by omega
                  have e6 : decide (1000000000 < d2) = false := decide_eq_false e7
                  have HC3 : Hid ((rn (l.take (k + 1))).digits = d2) := by
                    show _ = _
                    rw [HC2.out]; unfold cap; rw [if_pos (by omega)]
                  go_wp2
                  go_roundw
                  case rel => exact ⟨k + 1, _, rfl, by omega, by go_num, by rw [HC3.out]; exact hsm, by rw [HC3.out]; exact HBB.out.bel (by repeat (first | exact Bel.rf | (with_reducible refine Bel.drwN ?_ _) | (with_reducible refine Bel.drw ?_) | (with_reducible refine Bel.al ?_ _))), HRR.out.bel (by repeat (first | exact Bel.rf | (with_reducible refine Bel.drwN ?_ _) | (with_reducible refine Bel.drw ?_) | (with_reducible refine Bel.al ?_ _))), (by repeat (first | exact HEE.out | (with_reducible refine Bel.drwN ?_ _) | (with_reducible refine Bel.drw ?_) | (with_reducible refine Bel.al ?_ _)))⟩
                  case measure => simp [intOf]; omega
            · obtain rfl : k = body.size := by omega
              have HT : Hid (l.take body.size = l) := List.take_of_length_le (by rw [HLL.out]; omega)
              have HDL : Hid ((rn l).digits = d) := by show _ = _; rw [← HD.out, HT.out]
              have HWR : Hid (prs (rn l) m = .tuple #[.agg #[.int .i64 (if m = true then -d else d), .int .i64 pl], .int .i64 0]) := by
                show _ = _
                rw [prs_fine HREJ.out (by rw [HDL.out]; omega), HDL.out, HPLS.out]
              rcases m
              · go_wp2
                have HF : Hid (Bk ((V.setCell ⟨w.heap.size, 0, none⟩ (.int .i64 d)).setCell ⟨w.heap.size, 1, none⟩ (.int .i64 pl)) w.heap.size 23 #[.int .i64 d, .int .i64 pl]) := (HQR.out.st 0 _).st 1 _
                have HE : Hid (Bel w ((V.setCell ⟨w.heap.size, 0, none⟩ (.int .i64 d)).setCell ⟨w.heap.size, 1, none⟩ (.int .i64 pl))) := Bel.st2 (Nat.le_refl _) (Bel.st2 (Nat.le_refl _) HQV.out _) _
                exact bodyPost_ret (v := .tuple #[.agg #[.int .i64 d, .int .i64 pl], .int .i64 0]) (results_dt Tryd.results8 _ _ w.heap.size _ _ rfl (HF.out.bel (by repeat (first | exact Bel.rf | (with_reducible refine Bel.drwN ?_ _) | (with_reducible refine Bel.drw ?_) | (with_reducible refine Bel.al ?_ _))))) rfl ⟨by rw [HWR.out]; rfl, HE.out.tr (by repeat (first | exact Bel.rf | (with_reducible refine Bel.drwN ?_ _) | (with_reducible refine Bel.drw ?_) | (with_reducible refine Bel.al ?_ _)))⟩
              · go_wp2
                have HF : Hid (Bk (((V.setCell ⟨wr.heap.size, 0, none⟩ (.int .i64 (-d))).setCell ⟨w.heap.size, 0, none⟩ (.int .i64 (-d))).setCell ⟨w.heap.size, 1, none⟩ (.int .i64 pl)) w.heap.size 23 #[.int .i64 (-d), .int .i64 pl]) := ((HQR.out.far (by dsimp only; omega) _).st 0 _).st 1 _
                have HE : Hid (Bel w (((V.setCell ⟨wr.heap.size, 0, none⟩ (.int .i64 (-d))).setCell ⟨w.heap.size, 0, none⟩ (.int .i64 (-d))).setCell ⟨w.heap.size, 1, none⟩ (.int .i64 pl))) := Bel.st2 (Nat.le_refl _) (Bel.st2 (Nat.le_refl _) (Bel.st2 HW0.out HQV.out _) _) _
                exact bodyPost_ret (v := .tuple #[.agg #[.int .i64 (-d), .int .i64 pl], .int .i64 0]) (results_dt Tryd.results8 _ _ w.heap.size _ _ rfl (HF.out.bel (by repeat (first | exact Bel.rf | (with_reducible refine Bel.drwN ?_ _) | (with_reducible refine Bel.drw ?_) | (with_reducible refine Bel.al ?_ _))))) rfl ⟨by rw [HWR.out]; rfl, HE.out.tr (by repeat (first | exact Bel.rf | (with_reducible refine Bel.drwN ?_ _) | (with_reducible refine Bel.drw ?_) | (with_reducible refine Bel.al ?_ _)))⟩
        · have HWR := Lib.hid (HRB.out.1 rfl)
          go_wp2
          have HF : Hid (Bk ((wc.setCell ⟨w.heap.size, 0, none⟩ (.int .i64 0)).setCell ⟨w.heap.size, 1, none⟩ (.int .i64 0)) w.heap.size 23 #[.int .i64 0, .int .i64 0]) := (HBR.out.st 0 _).st 1 _
          have HE : Hid (Bel w ((wc.setCell ⟨w.heap.size, 0, none⟩ (.int .i64 0)).setCell ⟨w.heap.size, 1, none⟩ (.int .i64 0))) := Bel.st2 (Nat.le_refl _) (Bel.st2 (Nat.le_refl _) HBV.out _) _
          exact bodyPost_ret (v := .tuple #[.agg #[.int .i64 0, .int .i64 0], .int .i64 3]) (results_dt Tryd.results8 _ _ w.heap.size _ _ rfl (HF.out.bel (by repeat (first | exact Bel.rf | (with_reducible refine Bel.drwN ?_ _) | (with_reducible refine Bel.drw ?_) | (with_reducible refine Bel.al ?_ _))))) rfl ⟨by rw [HWR.out], HE.out.tr (by repeat (first | exact Bel.rf | (with_reducible refine Bel.drwN ?_ _) | (with_reducible refine Bel.drw ?_) | (with_reducible refine Bel.al ?_ _)))⟩
end Go.Proofs.YtgclojonjglikaaDoor.Un
