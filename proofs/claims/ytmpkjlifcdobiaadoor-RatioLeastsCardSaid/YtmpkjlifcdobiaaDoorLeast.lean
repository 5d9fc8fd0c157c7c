/- The contract of ratio.Least: the index of the first of the ratios than which none is less. -/
import Derived.Test.YtmpkjlifcdobiaaDoorRatioLess
import Derived.Deep.DeepCutAuto
import Derived.Deep.RegionHeld3
namespace Go.Proofs.YtmpkjlifcdobiaaDoor.Ra
open Go.ChangeShapes Go.WideShapes Go.RowKit Wo
set_option linter.unusedVariables false
/-- of the first j ratios none is less than the l-th, and those ahead of it are greater -/
def Best (N D : Nat → Int) (j l : Nat) : Prop := (∀ i, i < j → 0 ≤ rcmp (N i) (D i) (N l) (D l)) ∧ ∀ i, i < l → 0 < rcmp (N i) (D i) (N l) (D l)
def Valids (m : Nat) (N D : Nat → Int) : Prop := ∀ i, i < m → RV (N i) (D i)
theorem best_first {m : Nat} {N D : Nat → Int} (hv : Valids m N D) (h : 0 < m) : Best N D 1 0 := by
  refine ⟨fun i hi => ?_, fun i hi => by omega⟩
  obtain rfl : i = 0 := by omega
  rw [rcmp_self (hv 0 h)]
  decide
theorem best_keep {j l : Nat} {N D : Nat → Int} (h : Best N D j l) (hr : ¬ rcmp (N j) (D j) (N l) (D l) < 0) : Best N D (j + 1) l := by
  refine ⟨fun i hi => ?_, h.2⟩
  rcases Nat.lt_or_ge i j with hij | hij
  · exact h.1 i hij
  · obtain rfl : i = j := by omega
    omega
theorem best_turn {m j l : Nat} {N D : Nat → Int} (hv : Valids m N D) (hj : j < m) (hl : l < j) (h : Best N D j l) (hr : rcmp (N j) (D j) (N l) (D l) < 0) : Best N D (j + 1) j := by
  have key : ∀ i, i < j → 0 < rcmp (N i) (D i) (N j) (D j) := by
    intro i hi
    have h1 := h.1 i hi
    rcases Int.lt_or_le 0 (rcmp (N i) (D i) (N j) (D j)) with h2 | h2
    · exact h2
    · have hij := hv i (by omega)
      have hjj := hv j hj
      have hll := hv l (by omega)
      have h3 : rcmp (N i) (D i) (N l) (D l) ≤ 0 := (rcmp_trans hij hjj hll).1 h2 (by omega)
      have h4 : 0 ≤ rcmp (N l) (D l) (N i) (D i) := by rw [rcmp_turn hij hll]; omega
      have h5 : 0 ≤ rcmp (N l) (D l) (N j) (D j) := by rw [rcmp_turn hjj hll]; omega
      have h6 : 0 ≤ rcmp (N j) (D j) (N i) (D i) := by rw [rcmp_turn hij hjj]; omega
      have h7 := (rcmp_trans hjj hij hll).2 h6 h1
      omega
  refine ⟨fun i hi => ?_, key⟩
  rcases Nat.lt_or_ge i j with hij | hij
  · have := key i hij; omega
  · obtain rfl : i = j := by omega
    rw [rcmp_self (hv _ hj)]
    decide
def SomeLeast (m : Nat) (N D : Nat → Int) (w : World) (e : Ending) (w' : World) : Prop := ∃ l : Nat, e = .returned (.int .i64 (l : Int)) ∧ l < m ∧ Best N D m l ∧ Bel w w'
def Cells (w : World) (b m : Nat) (N D : Nat → Int) : Prop := ∀ i, i < m → w.cell? ⟨b, i * 2, none⟩ = some (.int .i64 (N i)) ∧ w.cell? ⟨b, i * 2 + 1, none⟩ = some (.int .i64 (D i))
theorem Cells.bel {w w' : World} {b m : Nat} {N D : Nat → Int} (h : Cells w b m N D) (hb : Bel w w') : Cells w' b m N D := fun i hi => ⟨hb.kp (h i hi).1, hb.kp (h i hi).2⟩
def LRel (m : Nat) (N D : Nat → Int) (w : World) (s3 s8 : Value) (wr : World) : Prop := ∃ (j : Nat), j ≤ m ∧ s8 = .int .i64 (j : Int) ∧ Bel w wr ∧ (j = 0 ∧ s3 = .int .i64 (-1) ∨ ∃ l : Nat, l < j ∧ s3 = .int .i64 (l : Int) ∧ Best N D j l)
set_option maxHeartbeats 8000000 in
set_option maxRecDepth 100000 in
theorem least_any (b m cap : Nat) (N D : Nat → Int) (h1 : 1 ≤ m) (h2 : m ≤ 1000) (hv : Valids m N D) (w : World) (hc : Cells w b m N D) :
    Calls Tryd.prog 33 #[.slice (some ⟨b, 0, none⟩) m cap] w (SomeLeast m N D w) := by
  have HV := Lib.hid hv
  have HC := Lib.hid hc
  clear hv hc
  go_enter Tryd.func33, Tryd.ntmps33
  go_wp2
  go_loopw [3, 8] (fun s3 s8 wr => LRel m N D w s3 s8 wr) (fun _ s8 _ => m - (intOf s8).toNat)
  case atStart => exact ⟨0, by omega, rfl, Bel.rf, .inl ⟨rfl, rfl⟩⟩
  case round =>
    obtain ⟨j, hj, rfl, hb, hr⟩ := hrel
    rename_i wr
    have HB := Lib.hid hb
    have HCR := Lib.hid (HC.out.bel hb)
    clear hb
    rcases Nat.lt_or_ge j m with hjm | hjm
    · have hji : (j : Int) < (m : Int) := by omega
      have hvj := HV.out j hjm
      have hrv := rv_yes hvj
      have cj := HCR.out j hjm
      have cj0 := cj.1
      have cj1 := cj.2
      clear cj
      have HVJ := Lib.hid hvj
      clear hvj
      rcases hr with ⟨hj0, rfl⟩ | ⟨l, hl, rfl, hbest⟩
      · have HJ0 := Lib.hid hj0
        clear hj0
        go_wp2_with fail
        go_at_call 15
        refine (valid_any _ _ _).mono ?_
        rintro e p1 ⟨rfl, hp1⟩
        have B5 : Bk p1 wr.heap.size 23 #[.int .i64 (N j), .int .i64 (D j)] := (Bk.nw _ _ _).bel hp1
        have z0 : p1.cell? ⟨wr.heap.size, 0, none⟩ = some (.int .i64 (N j)) := B5.cell 0
        have z1 : p1.cell? ⟨wr.heap.size, 1, none⟩ = some (.int .i64 (D j)) := B5.cell 1
        have HP : Hid (Bel w p1) := ((HB.out).al _).tr hp1
        clear hp1 B5 cj0 cj1
        go_wp2
        go_quiet (fail)
        go_wp2
        go_roundw
        case rel => exact ⟨j + 1, by omega, by go_num, HP.out.drwN _, .inr ⟨j, by omega, rfl, by have := HJ0.out; subst this; exact best_first HV.out hjm⟩⟩
        case measure => simp [intOf]; omega
      · have cl := HCR.out l (by omega)
        have cl0 := cl.1
        have cl1 := cl.2
        clear cl
        have bl : decide ((l : Int) < 0) = false := decide_eq_false (by omega)
        have li0 : (0 : Int) ≤ (l : Int) := by omega
        have li1 : (l : Int) < (m : Int) := by omega
        have li2 : (m : Int) ≤ 1000 := by omega
        rcases Classical.em (rcmp (N j) (D j) (N l) (D l) < 0) with hlt | hlt
        · have HBE := Lib.hid hbest
          have KL : Hid (∀ W, Calls Tryd.prog 27 #[.agg #[.int .i64 (N j), .int .i64 (D j)], .agg #[.int .i64 (N l), .int .i64 (D l)]] W fun r w' => r = .returned (.bool true) ∧ Bel W w') :=
            fun W => less_as (N j) (D j) (N l) (D l) _ true rfl (by simpa using hlt) W
          have HLT := Lib.hid hlt
          clear hbest hlt
          go_wp2_with fail
          go_at_call 15
          refine (valid_any _ _ _).mono ?_
          rintro e p1 ⟨rfl, hp1⟩
          have B5 : Bk p1 wr.heap.size 23 #[.int .i64 (N j), .int .i64 (D j)] := (Bk.nw _ _ _).bel hp1
          have z0 : p1.cell? ⟨wr.heap.size, 0, none⟩ = some (.int .i64 (N j)) := B5.cell 0
          have z1 : p1.cell? ⟨wr.heap.size, 1, none⟩ = some (.int .i64 (D j)) := B5.cell 1
          have HP : Hid (Bel w p1) := ((HB.out).al _).tr hp1
          have z2 := hp1.kp (kp_al cl0 _)
          have z3 := hp1.kp (kp_al cl1 _)
          clear hp1 B5 cj0 cj1 cl0 cl1
          go_wp2_with fail
          go_region_held3 (fun w' => w'.cell? ⟨wr.heap.size, 0, none⟩ = some (.int .i64 (N j)) ∧ w'.cell? ⟨wr.heap.size, 1, none⟩ = some (.int .i64 (D j)) ∧ w'.cell? ⟨b, l * 2, none⟩ = some (.int .i64 (N l)) ∧ w'.cell? ⟨b, l * 2 + 1, none⟩ = some (.int .i64 (D l)))
            ((refine ⟨?_, ?_, ?_, ?_⟩) <;> (repeat (first | exact z0 | exact z1 | exact z2 | exact z3 | (with_reducible refine kp_al ?_ _) | (with_reducible refine kp_drwN ?_ _) | (with_reducible refine kp_drw ?_) | (refine Bel.kp (by assumption) ?_))))
            (first | (go_at_call 27; refine (KL.out _).mono ?_; rintro r p2 ⟨rfl, hp2⟩))
          go_wp2
          have hpp := HP.out
          go_roundw
          case rel => exact ⟨j + 1, by omega, by go_num, (by repeat (first | exact Bel.rf | (with_reducible refine Bel.drwN ?_ _) | (with_reducible refine Bel.drw ?_) | (with_reducible refine Bel.al ?_ _) | ((with_reducible refine Bel.st2 ?_ ?_ _); (show _ ≤ _); (simp only []; omega)) | refine Bel.tr ?_ (by assumption))), .inr ⟨j, by omega, rfl, best_turn HV.out hjm hl HBE.out HLT.out⟩⟩
          case measure => simp [intOf]; omega
        · have HBE := Lib.hid hbest
          have KL : Hid (∀ W, Calls Tryd.prog 27 #[.agg #[.int .i64 (N j), .int .i64 (D j)], .agg #[.int .i64 (N l), .int .i64 (D l)]] W fun r w' => r = .returned (.bool false) ∧ Bel W w') :=
            fun W => less_as (N j) (D j) (N l) (D l) _ false rfl (by simpa using hlt) W
          have HLT := Lib.hid hlt
          clear hbest hlt
          go_wp2_with fail
          go_at_call 15
          refine (valid_any _ _ _).mono ?_
          rintro e p1 ⟨rfl, hp1⟩
          have B5 : Bk p1 wr.heap.size 23 #[.int .i64 (N j), .int .i64 (D j)] := (Bk.nw _ _ _).bel hp1
          have z0 : p1.cell? ⟨wr.heap.size, 0, none⟩ = some (.int .i64 (N j)) := B5.cell 0
          have z1 : p1.cell? ⟨wr.heap.size, 1, none⟩ = some (.int .i64 (D j)) := B5.cell 1
          have HP : Hid (Bel w p1) := ((HB.out).al _).tr hp1
          have z2 := hp1.kp (kp_al cl0 _)
          have z3 := hp1.kp (kp_al cl1 _)
          clear hp1 B5 cj0 cj1 cl0 cl1
          go_wp2_with fail
          go_region_held3 (fun w' => w'.cell? ⟨wr.heap.size, 0, none⟩ = some (.int .i64 (N j)) ∧ w'.cell? ⟨wr.heap.size, 1, none⟩ = some (.int .i64 (D j)) ∧ w'.cell? ⟨b, l * 2, none⟩ = some (.int .i64 (N l)) ∧ w'.cell? ⟨b, l * 2 + 1, none⟩ = some (.int .i64 (D l)))
            ((refine ⟨?_, ?_, ?_, ?_⟩) <;> (repeat (first | exact z0 | exact z1 | exact z2 | exact z3 | (with_reducible refine kp_al ?_ _) | (with_reducible refine kp_drwN ?_ _) | (with_reducible refine kp_drw ?_) | (refine Bel.kp (by assumption) ?_))))
            (first | (go_at_call 27; refine (KL.out _).mono ?_; rintro r p2 ⟨rfl, hp2⟩))
          go_wp2
          have hpp := HP.out
          go_roundw
          case rel => exact ⟨j + 1, by omega, by go_num, (by repeat (first | exact Bel.rf | (with_reducible refine Bel.drwN ?_ _) | (with_reducible refine Bel.drw ?_) | (with_reducible refine Bel.al ?_ _) | ((with_reducible refine Bel.st2 ?_ ?_ _); (show _ ≤ _); (simp only []; omega)) | refine Bel.tr ?_ (by assumption))), .inr ⟨l, by omega, rfl, best_keep HBE.out (by have := HLT.out; omega)⟩⟩
          case measure => simp [intOf]; omega
    · obtain rfl : j = m := by omega
      rcases hr with ⟨h0, _⟩ | ⟨l, hl, rfl, hbest⟩
      · omega
      · have HBE := Lib.hid hbest
        clear hbest
        go_wp2
        go_ret
        exact ⟨l, rfl, hl, HBE.out, HB.out⟩
end Go.Proofs.YtmpkjlifcdobiaaDoor.Ra
