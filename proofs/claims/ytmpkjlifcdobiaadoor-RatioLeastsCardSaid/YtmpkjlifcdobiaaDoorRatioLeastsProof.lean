/- That the law RatioLeasts returns true for every input that can be read, and leaves its arguments as they were; the package variables that it lists start as the program lays them, which the card ties to the text; no further condition. -/
import Derived.Test.YtmpkjlifcdobiaaDoorRows
import Derived.WalkKit
import Derived.ProofKit
import Derived.OpenShut
import Derived.LaidMore
import Derived.Stop.Joined
import Derived.SevenTiedAt
import Derived.Test.YtmpkjlifcdobiaaDoorCards
import Derived.Test.YtmpkjlifcdobiaaDoorTie
import Derived.Test.YtmpkjlifcdobiaaDoorWords
import Derived.Test.YtmpkjlifcdobiaaDoorRatioMath
import Derived.Test.YtmpkjlifcdobiaaDoorRatioAwake
import Derived.Test.YtmpkjlifcdobiaaDoorRatioLess
import Derived.Test.YtmpkjlifcdobiaaDoorSrcRatio
import Derived.Test.YtmpkjlifcdobiaaDoorSrcNew
import Derived.Test.YtmpkjlifcdobiaaDoorLeast
import Derived.Test.YtmpkjlifcdobiaaDoorRows1
import Derived.ShutString
import Derived.ChangeOld
import Derived.Below
namespace Go.Proofs.YtmpkjlifcdobiaaDoor.ratioLeasts
open Go.ChangeShapes Go.WideShapes Go.ChangeAt Go.RowKit Wo
open Go.ChangeMaps (open_string shut_string)
set_option linter.unusedVariables false

theorem own : ownKnob Tryd.prog.godebug = none := by kernel_rfl
theorem laidOut : laidOutB Tryd.prog = true := by kernel_rfl

/-- WHAT THE WALK IS TOLD OF A SLICE OF INTEGERS THAT CAME IN: it is nil; or it leads to a row of 'cap' cells, the numbers 'zs' (the first 'len' are its elements, the rest its spare room), each fitting its kind. -/
def IsRow (k : IntKind) (w : World) (a : Option Addr) (len cap : Nat) (zs : List Int) : Prop :=
  (a = none ∧ len = 0 ∧ cap = 0 ∧ zs = []) ∨
  ∃ x, a = some x ∧ len ≤ cap ∧ cap ≤ maxLen ∧ zs.length = cap ∧ (∀ i, i < zs.length → w.cell? (x.add i) = some (.int k (zs.getD i 0))) ∧ ∀ n ∈ zs, (Lit.int k n).wf = true

open Go.Proofs.YtmpkjlifcdobiaaDoor.Ra Go.Proofs.YtmpkjlifcdobiaaDoor.Wo Go.Proofs.YtmpkjlifcdobiaaDoor.Sr in
set_option maxHeartbeats 16000000 in
set_option maxRecDepth 100000 in
theorem walk (a0 : Option Addr) (len0 cap0 : Nat) (z0 : List Int) (w : World) (w0 : IsRow .i64 w a0 len0 cap0 z0) :
    Calls Tryd.prog 10 #[.slice a0 len0 cap0] w fun e w' => e = .returned (.bool true) ∧ Below w.heap.size w w' := by
  obtain ⟨i0, hi0, hz0, hz1, hz2⟩ := info_parts info_ratio
  have HI := Lib.hid hi0
  clear hi0
  go_enter Tryd.func10, Tryd.ntmps10
  go_wp2_with fail
  go_at_call 12
  refine (new_any a0 len0 cap0 z0 w w0).mono ?_
  rintro e w1 ⟨g, rfl, hg, ho1, hb1⟩
  have HO1 := Lib.hid ho1
  have HB1 := Lib.hid hb1
  clear ho1 hb1 w0
  go_wp2_with fail
  go_at_call 14
  refine (n_any g 7 (by decide) (by decide) _ HO1.out).mono ?_
  rintro e w2 ⟨n0, rfl, hn0, hn1, ho2, hc2⟩
  have HR0 : Hid (Row1 n0 g w2.heap.size w (.slice none 0 0) (.int .i64 n0) w2) :=
    ⟨0, [], by omega, by congr 1; omega, World.ownsRow_nil _ _ _ _, rfl, by simp, ho2, Bel.ch HB1.out hc2 hg, Nat.le_refl _⟩
  have hgb : g < w2.heap.size := ho2.lt
  clear ho2 hc2 HO1 HB1
  go_wp2
  go_loopw [4, 5] (fun s4 s5 wr => Row1 n0 g w2.heap.size w s4 s5 wr) (fun _ s5 _ => (intOf s5 + 1).toNat)
  case atStart => exact HR0.out
  case round =>
    clear HR0
    obtain ⟨k, L, hk, rfl, hown, hL, hv, hog, hb, hbase⟩ := hrel
    rename_i wr
    have HO := Lib.hid hown
    have HL := Lib.hid hL
    have HV := Lib.hid hv
    have HG := Lib.hid hog
    have HB := Lib.hid hb
    clear hown hL hv hog hb
    have kk : (0 : Int) ≤ (k : Int) := by omega
    rcases Int.lt_or_le (n0 - k) 0 with hneg | hpos
    · have bn : decide (0 ≤ n0 - (k : Int)) = false := decide_eq_false (by omega)
      obtain ⟨h, cap, hs4, hbh, hlt⟩ := HO.out.form (show 0 < k by omega)
      subst hs4
      have hk1 : 1 ≤ k := by omega
      have hk2 : k ≤ 1000 := by omega
      have HC := Lib.hid (row1_cells HO.out HL.out)
      have HVS := Lib.hid (valids_of HL.out HV.out)
      clear HO
      generalize (fun i => (L.getD i (0, 1)).1) = N at *
      generalize (fun i => (L.getD i (0, 1)).2) = D at *
      clear HL HV HG HI hz0 hz1 hz2 hbase hbh hgb
      go_wp2_with fail
      go_at_call 33
      refine (least_any h k cap N D hk1 hk2 HVS.out _ HC.out).mono ?_
      rintro e w3 ⟨l, rfl, hl, hbest, hb3⟩
      have HC3 := Lib.hid (HC.out.bel hb3)
      have HB3 := Lib.hid (HB.out.tr hb3)
      have HBE := Lib.hid hbest
      have l0 : (0 : Int) ≤ (l : Int) := by omega
      have l1 : (l : Int) < (k : Int) := by omega
      have bl0 : decide ((l : Int) < 0) = false := decide_eq_false (by omega)
      have bl1 : decide ((k : Int) ≤ (l : Int)) = false := decide_eq_false (by omega)
      have bl2 : decide (k ≤ l) = false := decide_eq_false (by omega)
      have cl := HC3.out l hl
      have cl0 := cl.1
      have cl1 := cl.2
      clear hbest hb3 HC HB cl
      go_wp2
      go_loopw [33] (fun s33 wr => ∃ j : Nat, j ≤ k ∧ s33 = .int .i64 (j : Int) ∧ Bel w3 wr) (fun s33 _ => k - (intOf s33).toNat)
      case atStart => exact ⟨0, by omega, rfl, Bel.rf⟩
      case round =>
        obtain ⟨j, hj, rfl, hbw⟩ := hrel
        rename_i wq
        have HBW := Lib.hid hbw
        have HCW := Lib.hid (HC3.out.bel hbw)
        clear cl0 cl1
        rcases Nat.lt_or_ge j k with hjk | hjk
        · have cj := HCW.out j hjk
          have cl := HCW.out l hl
          have z0 := cj.1
          have z1 := cj.2
          have z2 := cl.1
          have z3 := cl.2
          have ji0 : (0 : Int) ≤ (j : Int) := by omega
          have ji1 : (j : Int) < (k : Int) := by omega
          have KL : Hid (∀ W, Calls Tryd.prog 27 #[.agg #[.int .i64 (N j), .int .i64 (D j)], .agg #[.int .i64 (N l), .int .i64 (D l)]] W fun r w' => r = .returned (.bool false) ∧ Bel W w') :=
            fun W => less_as (N j) (D j) (N l) (D l) _ false rfl (decide_eq_false (by have := HBE.out.1 j hjk; omega)) W
          clear hbw cj cl
          rcases Nat.lt_or_ge j l with hjl | hjl
          · have bj : decide (j < l) = true := decide_eq_true hjl
            have bj2 : decide ((j : Int) < (l : Int)) = true := decide_eq_true (by omega)
            have hne : ¬ (N j = N l ∧ D j = D l) := fun h => by
              have h1 := HBE.out.2 j hjl
              have h2 := (rcmp_same (HVS.out j hjk) (HVS.out l hl)).2 h
              omega
            rcases Classical.em (N j = N l) with hq | hq
            · have e1 : (N j == N l) = true := by simpa using hq
              have e2 : (D j == D l) = false := by
                rw [beq_eq_false_iff_ne]
                exact fun h => hne ⟨hq, h⟩
              clear hq hne
              go_wp2_with fail
              go_region_held3 (fun w' => w'.cell? ⟨h, j * 2, none⟩ = some (.int .i64 (N j)) ∧ w'.cell? ⟨h, j * 2 + 1, none⟩ = some (.int .i64 (D j)) ∧ w'.cell? ⟨h, l * 2, none⟩ = some (.int .i64 (N l)) ∧ w'.cell? ⟨h, l * 2 + 1, none⟩ = some (.int .i64 (D l)))
                ((refine ⟨?_, ?_, ?_, ?_⟩) <;> (repeat (first | exact z0 | exact z1 | exact z2 | exact z3 | (with_reducible refine kp_al ?_ _) | (with_reducible refine kp_drwN ?_ _) | (with_reducible refine kp_drw ?_) | (refine Bel.kp (by assumption) ?_))))
                (first | (go_at_call 27; refine (KL.out _).mono ?_; rintro r p2 ⟨rfl, hp2⟩))
              go_wp2
              have hww := HBW.out
              go_roundw
              case rel => exact ⟨j + 1, by omega, by go_num, (by repeat (first | exact Bel.rf | (with_reducible refine Bel.drwN ?_ _) | (with_reducible refine Bel.drw ?_) | (with_reducible refine Bel.al ?_ _) | ((with_reducible refine Bel.st2 ?_ ?_ _); (show _ ≤ _); (simp only []; omega)) | refine Bel.tr ?_ (by assumption)))⟩
              case measure => simp [intOf]; omega
            · have e1 : (N j == N l) = false := by simpa using hq
              clear hq hne
              go_wp2_with fail
              go_region_held3 (fun w' => w'.cell? ⟨h, j * 2, none⟩ = some (.int .i64 (N j)) ∧ w'.cell? ⟨h, j * 2 + 1, none⟩ = some (.int .i64 (D j)) ∧ w'.cell? ⟨h, l * 2, none⟩ = some (.int .i64 (N l)) ∧ w'.cell? ⟨h, l * 2 + 1, none⟩ = some (.int .i64 (D l)))
                ((refine ⟨?_, ?_, ?_, ?_⟩) <;> (repeat (first | exact z0 | exact z1 | exact z2 | exact z3 | (with_reducible refine kp_al ?_ _) | (with_reducible refine kp_drwN ?_ _) | (with_reducible refine kp_drw ?_) | (refine Bel.kp (by assumption) ?_))))
                (first | (go_at_call 27; refine (KL.out _).mono ?_; rintro r p2 ⟨rfl, hp2⟩))
              go_wp2
              have hww := HBW.out
              go_roundw
              case rel => exact ⟨j + 1, by omega, by go_num, (by repeat (first | exact Bel.rf | (with_reducible refine Bel.drwN ?_ _) | (with_reducible refine Bel.drw ?_) | (with_reducible refine Bel.al ?_ _) | ((with_reducible refine Bel.st2 ?_ ?_ _); (show _ ≤ _); (simp only []; omega)) | refine Bel.tr ?_ (by assumption)))⟩
              case measure => simp [intOf]; omega
          · have bj : decide (j < l) = false := decide_eq_false (by omega)
            have bj2 : decide ((j : Int) < (l : Int)) = false := decide_eq_false (by omega)
            go_wp2_with fail
            refine wp_region_held_drew (S := (fun w' => w'.cell? ⟨h, j * 2, none⟩ = some (.int .i64 (N j)) ∧ w'.cell? ⟨h, j * 2 + 1, none⟩ = some (.int .i64 (D j)) ∧ w'.cell? ⟨h, l * 2, none⟩ = some (.int .i64 (N l)) ∧ w'.cell? ⟨h, l * 2 + 1, none⟩ = some (.int .i64 (D l)))) (by kernel_rfl) ?hS0 (fun hHeld => ?hgo)
            case hS0 =>
              try dsimp only
              ((refine ⟨?_, ?_, ?_, ?_⟩) <;> (repeat (first | exact z0 | exact z1 | exact z2 | exact z3 | (with_reducible refine kp_al ?_ _) | (with_reducible refine kp_drwN ?_ _) | (with_reducible refine kp_drw ?_) | (refine Bel.kp (by assumption) ?_))))
            refine wpAnyH_take (i := 0) (oi := { dst := some 36, op := Go.Op.move (Go.Operand.tmp 4), type := 30, pos := "law.go:146", after := #[], guard := none }) (v := ?_) rfl (by kernel_rfl) (by kernel_rfl) (by kernel_rfl) (fun _ _ _ h => h) (Or.inl ⟨by rfl, ?hy0⟩) (by assumption) ?hr0
            case hy0 =>
              intro w hSw
              try dsimp only at hSw
              go_simp
              try with_reducible rfl
            try simp only [Act.put, List.setIfInBounds_toArray, List.set_cons_zero, List.set_cons_succ]
            refine wpAnyH_take (i := 1) (oi := { dst := some 37, op := Go.Op.move (Go.Operand.tmp 7), type := 3, pos := "law.go:146", after := #[], guard := none }) (v := ?_) rfl (by kernel_rfl) (by kernel_rfl) (by kernel_rfl) (fun _ _ _ h => h) (Or.inl ⟨by rfl, ?hy1⟩) (by assumption) ?hr1
            case hy1 =>
              intro w hSw
              try dsimp only at hSw
              go_simp
              try with_reducible rfl
            try simp only [Act.put, List.setIfInBounds_toArray, List.set_cons_zero, List.set_cons_succ]
            refine wpAnyH_take (i := 2) (oi := { dst := some 38, op := Go.Op.indexAddr 30 (Go.Operand.tmp 36) (Go.Operand.tmp 37), type := 0, pos := "law.go:146", after := #[{ on := 0, ground := Go.Ground.data }, { on := 1, ground := Go.Ground.data }], guard := none }) (v := ?_) rfl (by kernel_rfl) (by kernel_rfl) (by kernel_rfl) (fun _ _ _ h => h) (Or.inl ⟨by rfl, ?hy2⟩) (by assumption) ?hr2
            case hy2 =>
              intro w hSw
              try dsimp only at hSw
              go_simp
              try with_reducible rfl
            try simp only [Act.put, List.setIfInBounds_toArray, List.set_cons_zero, List.set_cons_succ]
            refine wpAnyH_take (i := 3) (oi := { dst := some 39, op := Go.Op.load 23 (Go.Operand.tmp 38), type := 23, pos := "law.go:146", after := #[{ on := 2, ground := Go.Ground.data }], guard := none }) (v := ?_) rfl (by kernel_rfl) (by kernel_rfl) (by kernel_rfl) (fun _ _ _ h => h) (Or.inl ⟨by rfl, ?hy3⟩) (by assumption) ?hr3
            case hy3 =>
              intro w hSw
              try dsimp only at hSw
              go_simp
              try with_reducible rfl
            try simp only [Act.put, List.setIfInBounds_toArray, List.set_cons_zero, List.set_cons_succ]
            refine wpAnyH_take (i := 4) (oi := { dst := some 40, op := Go.Op.move (Go.Operand.tmp 4), type := 30, pos := "law.go:146", after := #[], guard := none }) (v := ?_) rfl (by kernel_rfl) (by kernel_rfl) (by kernel_rfl) (fun _ _ _ h => h) (Or.inl ⟨by rfl, ?hy4⟩) (by assumption) ?hr4
            case hy4 =>
              intro w hSw
              try dsimp only at hSw
              go_simp
              try with_reducible rfl
            try simp only [Act.put, List.setIfInBounds_toArray, List.set_cons_zero, List.set_cons_succ]
            refine wpAnyH_take (i := 5) (oi := { dst := some 41, op := Go.Op.move (Go.Operand.tmp 6), type := 3, pos := "law.go:146", after := #[], guard := none }) (v := ?_) rfl (by kernel_rfl) (by kernel_rfl) (by kernel_rfl) (fun _ _ _ h => h) (Or.inl ⟨by rfl, ?hy5⟩) (by assumption) ?hr5
            case hy5 =>
              intro w hSw
              try dsimp only at hSw
              go_simp
              try with_reducible rfl
            try simp only [Act.put, List.setIfInBounds_toArray, List.set_cons_zero, List.set_cons_succ]
            refine wpAnyH_take (i := 6) (oi := { dst := some 42, op := Go.Op.indexAddr 30 (Go.Operand.tmp 40) (Go.Operand.tmp 41), type := 0, pos := "law.go:146", after := #[{ on := 4, ground := Go.Ground.data }, { on := 5, ground := Go.Ground.data }], guard := none }) (v := ?_) rfl (by kernel_rfl) (by kernel_rfl) (by kernel_rfl) (fun _ _ _ h => h) (Or.inl ⟨by rfl, ?hy6⟩) (by assumption) ?hr6
            case hy6 =>
              intro w hSw
              try dsimp only at hSw
              go_simp
              try with_reducible rfl
            try simp only [Act.put, List.setIfInBounds_toArray, List.set_cons_zero, List.set_cons_succ]
            refine wpAnyH_take (i := 7) (oi := { dst := some 43, op := Go.Op.load 23 (Go.Operand.tmp 42), type := 23, pos := "law.go:146", after := #[{ on := 6, ground := Go.Ground.data }], guard := none }) (v := ?_) rfl (by kernel_rfl) (by kernel_rfl) (by kernel_rfl) (fun _ _ _ h => h) (Or.inl ⟨by rfl, ?hy7⟩) (by assumption) ?hr7
            case hy7 =>
              intro w hSw
              try dsimp only at hSw
              go_simp
              try with_reducible rfl
            try simp only [Act.put, List.setIfInBounds_toArray, List.set_cons_zero, List.set_cons_succ]
            refine wpAnyH_ready (rs := [8]) (by kernel_rfl) (by simp) ?_
            refine AllReadyH.cons (o := { dst := some 44, op := Go.Op.call { callee := Go.Callee.value (Go.Operand.func 27), args := #[Go.Operand.tmp 39, Go.Operand.tmp 43], argTypes := #[23, 23] }, type := 4, pos := "law.go:146", after := #[{ on := 3, ground := Go.Ground.data }, { on := 7, ground := Go.Ground.data }], guard := none }) rfl (fun K hK => ?hst) AllReadyH.nil
            go_simp
            go_at_call 27
            refine (KL.out _).mono ?_
            rintro r p2 ⟨rfl, hp2⟩
            refine hK.out _ _ ?hS1 (fun hHeld2 => ?hgo2)
            case hS1 =>
              try dsimp only
              ((refine ⟨?_, ?_, ?_, ?_⟩) <;> (repeat (first | exact z0 | exact z1 | exact z2 | exact z3 | (with_reducible refine kp_al ?_ _) | (with_reducible refine kp_drwN ?_ _) | (with_reducible refine kp_drw ?_) | (refine Bel.kp (by assumption) ?_))))
            clear hK K
            try simp only [Act.put, List.setIfInBounds_toArray, List.set_cons_zero, List.set_cons_succ]
            refine wpAnyH_take (i := 9) (oi := { dst := some 45, op := Go.Op.move (Go.Operand.tmp 44), type := 4, pos := "law.go:146", after := #[{ on := 8, ground := Go.Ground.data }, { on := 8, ground := Go.Ground.chain }], guard := none }) (v := ?_) rfl (by kernel_rfl) (by kernel_rfl) (by kernel_rfl) (fun _ _ _ h => h) (Or.inl ⟨by rfl, ?hy9⟩) (by assumption) ?hr9
            case hy9 =>
              intro w hSw
              try dsimp only at hSw
              go_simp
              try with_reducible rfl
            try simp only [Act.put, List.setIfInBounds_toArray, List.set_cons_zero, List.set_cons_succ]
            refine wpAnyH_take (i := 10) (oi := { dst := some 46, op := Go.Op.move (Go.Operand.tmp 7), type := 3, pos := "law.go:146", after := #[{ on := 9, ground := Go.Ground.guard }], guard := some (9, false) }) (v := ?_) rfl (by kernel_rfl) (by kernel_rfl) (by kernel_rfl) (fun _ _ _ h => h) (Or.inl ⟨by rfl, ?hy10⟩) (by assumption) ?hr10
            case hy10 =>
              intro w hSw
              try dsimp only at hSw
              go_simp
              try with_reducible rfl
            try simp only [Act.put, List.setIfInBounds_toArray, List.set_cons_zero, List.set_cons_succ]
            refine wpAnyH_take (i := 11) (oi := { dst := some 47, op := Go.Op.move (Go.Operand.tmp 6), type := 3, pos := "law.go:146", after := #[{ on := 9, ground := Go.Ground.guard }], guard := some (9, false) }) (v := ?_) rfl (by kernel_rfl) (by kernel_rfl) (by kernel_rfl) (fun _ _ _ h => h) (Or.inl ⟨by rfl, ?hy11⟩) (by assumption) ?hr11
            case hy11 =>
              intro w hSw
              try dsimp only at hSw
              go_simp
              try with_reducible rfl
            try simp only [Act.put, List.setIfInBounds_toArray, List.set_cons_zero, List.set_cons_succ]
            refine wpAnyH_take (i := 12) (oi := { dst := some 48, op := Go.Op.binOp Go.BinOp.lss 3 (Go.Operand.tmp 46) (Go.Operand.tmp 47) 3, type := 4, pos := "law.go:146", after := #[{ on := 10, ground := Go.Ground.data }, { on := 11, ground := Go.Ground.data }, { on := 9, ground := Go.Ground.guard }], guard := some (9, false) }) (v := ?_) rfl (by kernel_rfl) (by kernel_rfl) (by kernel_rfl) (fun _ _ _ h => h) (Or.inl ⟨by rfl, ?hy12⟩) (by assumption) ?hr12
            case hy12 =>
              intro w hSw
              try dsimp only at hSw
              go_simp
              try with_reducible rfl
            try simp only [Act.put, List.setIfInBounds_toArray, List.set_cons_zero, List.set_cons_succ]
            refine wpAnyH_take (i := 13) (oi := { dst := some 49, op := Go.Op.move (Go.Operand.tmp 48), type := 4, pos := "law.go:146", after := #[{ on := 12, ground := Go.Ground.data }, { on := 9, ground := Go.Ground.chain }, { on := 9, ground := Go.Ground.guard }], guard := some (9, false) }) (v := ?_) rfl (by kernel_rfl) (by kernel_rfl) (by kernel_rfl) (fun _ _ _ h => h) (Or.inl ⟨by rfl, ?hy13⟩) (by assumption) ?hr13
            case hy13 =>
              intro w hSw
              try dsimp only at hSw
              go_simp
              try with_reducible rfl
            try simp only [Act.put, List.setIfInBounds_toArray, List.set_cons_zero, List.set_cons_succ]
            refine wpAnyH_take (i := 14) (oi := { dst := some 50, op := Go.Op.move (Go.Operand.tmp 4), type := 30, pos := "law.go:146", after := #[{ on := 13, ground := Go.Ground.guard }], guard := some (13, true) }) (v := undef) rfl (by kernel_rfl) (by kernel_rfl) (by kernel_rfl) (fun _ _ _ h => h) (Or.inr ⟨by rfl, rfl⟩) (by assumption) ?_
            try simp only [Act.put, List.setIfInBounds_toArray, List.set_cons_zero, List.set_cons_succ]
            refine wpAnyH_take (i := 15) (oi := { dst := some 51, op := Go.Op.move (Go.Operand.tmp 7), type := 3, pos := "law.go:146", after := #[{ on := 13, ground := Go.Ground.guard }], guard := some (13, true) }) (v := undef) rfl (by kernel_rfl) (by kernel_rfl) (by kernel_rfl) (fun _ _ _ h => h) (Or.inr ⟨by rfl, rfl⟩) (by assumption) ?_
            try simp only [Act.put, List.setIfInBounds_toArray, List.set_cons_zero, List.set_cons_succ]
            refine wpAnyH_take (i := 16) (oi := { dst := some 52, op := Go.Op.indexAddr 30 (Go.Operand.tmp 50) (Go.Operand.tmp 51), type := 0, pos := "law.go:146", after := #[{ on := 14, ground := Go.Ground.data }, { on := 15, ground := Go.Ground.data }, { on := 13, ground := Go.Ground.guard }], guard := some (13, true) }) (v := undef) rfl (by kernel_rfl) (by kernel_rfl) (by kernel_rfl) (fun _ _ _ h => h) (Or.inr ⟨by rfl, rfl⟩) (by assumption) ?_
            try simp only [Act.put, List.setIfInBounds_toArray, List.set_cons_zero, List.set_cons_succ]
            refine wpAnyH_take (i := 17) (oi := { dst := some 53, op := Go.Op.load 23 (Go.Operand.tmp 52), type := 23, pos := "law.go:146", after := #[{ on := 16, ground := Go.Ground.data }, { on := 13, ground := Go.Ground.guard }], guard := some (13, true) }) (v := undef) rfl (by kernel_rfl) (by kernel_rfl) (by kernel_rfl) (fun _ _ _ h => h) (Or.inr ⟨by rfl, rfl⟩) (by assumption) ?_
            try simp only [Act.put, List.setIfInBounds_toArray, List.set_cons_zero, List.set_cons_succ]
            refine wpAnyH_take (i := 18) (oi := { dst := some 54, op := Go.Op.move (Go.Operand.tmp 4), type := 30, pos := "law.go:146", after := #[{ on := 13, ground := Go.Ground.guard }], guard := some (13, true) }) (v := undef) rfl (by kernel_rfl) (by kernel_rfl) (by kernel_rfl) (fun _ _ _ h => h) (Or.inr ⟨by rfl, rfl⟩) (by assumption) ?_
            try simp only [Act.put, List.setIfInBounds_toArray, List.set_cons_zero, List.set_cons_succ]
            refine wpAnyH_take (i := 19) (oi := { dst := some 55, op := Go.Op.move (Go.Operand.tmp 6), type := 3, pos := "law.go:146", after := #[{ on := 13, ground := Go.Ground.guard }], guard := some (13, true) }) (v := undef) rfl (by kernel_rfl) (by kernel_rfl) (by kernel_rfl) (fun _ _ _ h => h) (Or.inr ⟨by rfl, rfl⟩) (by assumption) ?_
            try simp only [Act.put, List.setIfInBounds_toArray, List.set_cons_zero, List.set_cons_succ]
            refine wpAnyH_take (i := 20) (oi := { dst := some 56, op := Go.Op.indexAddr 30 (Go.Operand.tmp 54) (Go.Operand.tmp 55), type := 0, pos := "law.go:146", after := #[{ on := 18, ground := Go.Ground.data }, { on := 19, ground := Go.Ground.data }, { on := 13, ground := Go.Ground.guard }], guard := some (13, true) }) (v := undef) rfl (by kernel_rfl) (by kernel_rfl) (by kernel_rfl) (fun _ _ _ h => h) (Or.inr ⟨by rfl, rfl⟩) (by assumption) ?_
            try simp only [Act.put, List.setIfInBounds_toArray, List.set_cons_zero, List.set_cons_succ]
            refine wpAnyH_take (i := 21) (oi := { dst := some 57, op := Go.Op.load 23 (Go.Operand.tmp 56), type := 23, pos := "law.go:146", after := #[{ on := 20, ground := Go.Ground.data }, { on := 13, ground := Go.Ground.guard }], guard := some (13, true) }) (v := undef) rfl (by kernel_rfl) (by kernel_rfl) (by kernel_rfl) (fun _ _ _ h => h) (Or.inr ⟨by rfl, rfl⟩) (by assumption) ?_
            try simp only [Act.put, List.setIfInBounds_toArray, List.set_cons_zero, List.set_cons_succ]
            refine wpAnyH_take (i := 22) (oi := { dst := some 58, op := Go.Op.binOp Go.BinOp.eql 23 (Go.Operand.tmp 53) (Go.Operand.tmp 57) 23, type := 4, pos := "law.go:146", after := #[{ on := 17, ground := Go.Ground.data }, { on := 21, ground := Go.Ground.data }, { on := 13, ground := Go.Ground.guard }], guard := some (13, true) }) (v := undef) rfl (by kernel_rfl) (by kernel_rfl) (by kernel_rfl) (fun _ _ _ h => h) (Or.inr ⟨by rfl, rfl⟩) (by assumption) ?_
            try simp only [Act.put, List.setIfInBounds_toArray, List.set_cons_zero, List.set_cons_succ]
            refine wpAnyH_take (i := 23) (oi := { dst := some 59, op := Go.Op.pick (Go.Operand.tmp 49) (Go.Operand.tmp 58) (Go.Operand.const (Go.Value.bool false)), type := 4, pos := "law.go:146", after := #[{ on := 13, ground := Go.Ground.data }, { on := 22, ground := Go.Ground.data }, { on := 9, ground := Go.Ground.guard }], guard := some (9, false) }) (v := ?_) rfl (by kernel_rfl) (by kernel_rfl) (by kernel_rfl) (fun _ _ _ h => h) (Or.inl ⟨by rfl, ?hy23⟩) (by assumption) ?hr23
            case hy23 =>
              intro w hSw
              try dsimp only at hSw
              go_simp
              try with_reducible rfl
            try simp only [Act.put, List.setIfInBounds_toArray, List.set_cons_zero, List.set_cons_succ]
            refine wpAnyH_take (i := 24) (oi := { dst := some 60, op := Go.Op.pick (Go.Operand.tmp 45) (Go.Operand.const (Go.Value.bool true)) (Go.Operand.tmp 59), type := 4, pos := "law.go:146", after := #[{ on := 9, ground := Go.Ground.data }, { on := 23, ground := Go.Ground.data }], guard := none }) (v := ?_) rfl (by kernel_rfl) (by kernel_rfl) (by kernel_rfl) (fun _ _ _ h => h) (Or.inl ⟨by rfl, ?hy24⟩) (by assumption) ?hr24
            case hy24 =>
              intro w hSw
              try dsimp only at hSw
              go_simp
              try with_reducible rfl
            try simp only [Act.put, List.setIfInBounds_toArray, List.set_cons_zero, List.set_cons_succ]
            refine wpAnyH_done (by kernel_rfl) ?_ _
            go_wp2
            have hww := HBW.out
            go_roundw
            case rel => exact ⟨j + 1, by omega, by go_num, (by repeat (first | exact Bel.rf | (with_reducible refine Bel.drwN ?_ _) | (with_reducible refine Bel.drw ?_) | (with_reducible refine Bel.al ?_ _) | ((with_reducible refine Bel.st2 ?_ ?_ _); (show _ ≤ _); (simp only []; omega)) | refine Bel.tr ?_ (by assumption)))⟩
            case measure => simp [intOf]; omega
        · obtain rfl : j = k := by omega
          clear hbw
          have hww := (HB3.out).tr HBW.out
          go_wp2_with (first | (go_at_call 11; refine (awake_any _).mono ?_; rintro e w9 ⟨rfl, hb9⟩))
          go_ret
          exact ⟨rfl, ((by repeat (first | exact Bel.rf | (with_reducible refine Bel.drwN ?_ _) | (with_reducible refine Bel.drw ?_) | (with_reducible refine Bel.al ?_ _) | ((with_reducible refine Bel.st2 ?_ ?_ _); (show _ ≤ _); (simp only []; omega)) | refine Bel.tr ?_ (by assumption))) : Bel w _)⟩
    · have bn : decide (0 ≤ n0 - (k : Int)) = true := decide_eq_true (by omega)
      go_wp2_with fail
      go_at_call 13
      refine (ratio_any g _ HG.out).mono ?_
      rintro e w3 ⟨n, d, rfl, hv3, ho3, hc3⟩
      have HV3 := Lib.hid (of_rv hv3)
      have HO3 := Lib.hid ho3
      have HC3 := Lib.hid hc3
      have hown1 := HO.out.kept hc3 (by
        rcases hob : u4.ownBlock with _ | q
        · exact .inl rfl
        · exact .inr (fun e => by injection e with e; have := (HO.out.lt q hob).1; omega))
      have hsz := hc3.sz
      have HOW := Lib.hid hown1
      clear ho3 hc3 hv3 hown1
      go_wp2_with (at_builtin; refine wpList_append_lies _ (by rfl) _ _ 30 (by rfl) w2.heap.size 23 i0 _ 2 16 Tryd.underlying30 HI.out hz0 hz1 hz2 (by rfl) (by omega) u4 k (flat L) (by rfl) (HOW.out.alloc _) ⟨w3.heap.size, 0, none⟩ 1 1 [.int .i64 n, .int .i64 d] (by rfl) (by rfl) (World.news_of_block (cs := #[.int .i64 n, .int .i64 d]) (t := 23) (fr := (0, 0)) (heap_alloc_new w3 _)) (by simp [Value.oneCell']) (by omega) (by unfold maxLen; omega) (by omega) (by simp; omega) (w3.heap.size + 1) (by simp) ?_; intro h cap w4 hown4 hgrow hat hlt4)
      have hstep := row1_step (n0 := n0) (n := n) (d := d) hgb hg (by omega) HL.out HV.out HV3.out HO.out HO3.out HC3.out HB.out hbase hown4 hgrow
      have HST := Lib.hid hstep
      clear hstep hown4 hgrow hat
      go_wp2
      go_roundw
      case rel => exact HST.out
      case measure => simp [intOf]; omega

theorem door_met (os : Os) (args : Array Value) : laidMetH Tryd.prog [("math/bits.deBruijn32tab", Rows.laid_math_bits_deBruijn32tab), ("math/bits.deBruijn64tab", Rows.laid_math_bits_deBruijn64tab), ("internal/strconv.uint64pow10", Rows.laid_internal_strconv_uint64pow10)] ((World.doorLaid Tryd.prog 400 os).forCall (fun _ _ => 0) ⟨#[], args, []⟩).memory :=
  laidMetH_of_parts3 (fuel := 8) (laidMet_of_run' 8 (by kernel_rfl) (by kernel_rfl)) (by kernel_rfl) (by kernel_rfl)
set_option maxRecDepth 100000 in
theorem lifted (os : Os) (started : os.Started) (H : Type) (enc : TypeId × Value → H) :
    ReturnsInHanded {} Tryd.checked os 10 .any (fun w args => (Rows.ratioLeastsSpec.pre enc Tryd.prog Tryd.f10 [] false w args ∧ laidMetH Tryd.prog [("math/bits.deBruijn32tab", Rows.laid_math_bits_deBruijn32tab), ("math/bits.deBruijn64tab", Rows.laid_math_bits_deBruijn64tab), ("internal/strconv.uint64pow10", Rows.laid_internal_strconv_uint64pow10)] w) ∧ sizedMet enc Tryd.prog Tryd.f10 (OpenSpec.ofChange Rows.ratioLeastsSpec) false w args)
      (Rows.ratioLeastsSpec.post enc Tryd.prog Tryd.f10 false true false false) := by
  refine returnsInHanded_of_change_and (C := Tryd.checked) (X := fun w _ => laidMetH Tryd.prog [("math/bits.deBruijn32tab", Rows.laid_math_bits_deBruijn32tab), ("math/bits.deBruijn64tab", Rows.laid_math_bits_deBruijn64tab), ("internal/strconv.uint64pow10", Rows.laid_internal_strconv_uint64pow10)] w) (fun _ _ _ hh h => h.of_heap hh) own started (by kernel_rfl) Tryd.func10
    (ChangeSpec.witness_shaped (enc := enc) (C := Tryd.checked) (os := os) (X := fun w _ => laidMetH Tryd.prog [("math/bits.deBruijn32tab", Rows.laid_math_bits_deBruijn32tab), ("math/bits.deBruijn64tab", Rows.laid_math_bits_deBruijn64tab), ("internal/strconv.uint64pow10", Rows.laid_internal_strconv_uint64pow10)] w) false (World.doorLaid Tryd.prog 400 os) #[.slice none 0 0] 8 rfl (World.shaped_of_RefB (by kernel_rfl) (by kernel_rfl)) (by kernel_rfl) (by kernel_rfl) (by kernel_rfl) (door_met os _)) ?_
  intro W base args ds gs before hval0 hW _ _ hL hsz
  have hval : ∀ (j : Nat) t v, Tryd.f10.params[j]? = some t → args[j]? = some v → Value.okWide Tryd.prog W .any base t v := hval0
  have hW' := hW
  obtain ⟨p, q, hA0, hV, rfl, hfz, hnd⟩ := hW
  have hA : DataW.TrodAll enc Tryd.prog W 0 (fun _ => true) true Tryd.f10.params.toList args.toList ds p := hA0
  rw [Tryd.params10] at hA hval
  obtain ⟨v0, vs0, d0, ds0, p0, q0, hargs, rfl, rfl, h0, r0⟩ := trodAll_cons hA
  obtain ⟨rfl, rfl, rfl⟩ := trodAll_nil r0
  obtain rfl : args = #[v0] := by cases args; simp_all
  obtain ⟨rfl, rfl⟩ := trodVars_none hV
  obtain ⟨a0, len0, cap0, rfl⟩ := okWide_slice Tryd.underlying24 (hval 0 24 v0 rfl rfl)
  have k0 := h0
  have lt0 : ∀ x ∈ p0, x.block < W.heap.size := by obtain ⟨m, hm⟩ := k0; exact DataW.trod_lt m _ _ _ hm
  obtain ⟨z0, w0⟩ : ∃ zs, IsRow .i64 W a0 len0 cap0 zs := by
    obtain ⟨fuel, hf⟩ := h0
    rcases open_ints Tryd.underlying24 Tryd.underlying3 (by kernel_rfl) hf with ⟨hcs, _⟩ | ⟨x, l, c, zs, hcs, _, hl, hm, hz, _, hcell, hwz⟩
    · simp [Value.cells] at hcs
      obtain ⟨rfl, rfl, rfl⟩ := hcs
      exact ⟨[], .inl ⟨rfl, rfl, rfl, rfl⟩⟩
    · simp [Value.cells] at hcs
      obtain ⟨rfl, rfl, rfl⟩ := hcs
      exact ⟨zs, .inr ⟨_, rfl, hl, hm, by simpa using hz, hcell, hwz⟩⟩
  clear hA0 hval0
  refine (walk a0 len0 cap0 z0 W w0).mono fun e W' ⟨he, bel⟩ => ?_
  subst he
  exact ⟨_, rfl, _, _, _, [], _, [], hW', trodAll_mk1 (shut_bool Tryd.underlying4 _), (trodAll_cons_mk (Below.trod laidOut (by kernel_rfl) (of_decide_eq_true (by kernel_rfl)) k0 bel lt0) trodAll_mk0), rfl, bel.frame _, fun h => by cases h⟩

theorem over : Rows.ratioLeastsRow.holds Tryd.pinned (OpenSpec.ofChange Rows.ratioLeastsSpec) :=
  OpenClaim.holds_of_wide 10 Tryd.f10 rfl rfl rfl rfl rfl rfl rfl ⟨rfl, rfl, rfl, rfl, rfl⟩ rfl rfl rfl rfl rfl (by kernel_rfl) Tryd.func10 (by kernel_rfl)
    (of_decide_eq_true (by kernel_rfl)) (by unfold Func.isWrapper; first | (rw [if_pos (by decide +kernel)]; kernel_rfl) | (rw [if_neg (by decide +kernel)]; exact ⟨rfl, rfl⟩))
    (fun os started H enc _ => lifted os started H enc)

theorem proved : Rows.RatioLeastsCardSaid :=
  Claim7.holds_tied_plain_at .later [] [.data, .data, .data] true (true, "11adef078fe66e4a341a668750a16cfedc9afc69f03447602818c62d2f963768") true
    over (fun _ h => by cases h) (by kernel_rfl) (fun _ h => by cases h) ratioLeasts_row_tie rfl ⟨rfl, rfl⟩ (by kernel_rfl) rfl
    (fun f fn hf hfn => by
      obtain rfl : f = 10 := Option.some.inj ((show Tryd.prog.funcNamed "shapesearch/shapesearchlaw01.RatioLeasts" = some 10 by kernel_rfl).symm.trans hf) |>.symm
      obtain rfl : fn = Tryd.f10 := (Option.some.inj (Tryd.func10.symm.trans hfn)).symm
      exact ⟨by kernel_rfl, fun j t ht => by
        rw [Tryd.params10] at ht
        have hm : t ∈ [24] := by simpa using Array.mem_of_getElem? ht
        have hall : ([24].all fun u => !Tryd.prog.wantsStandIn u) = true := by kernel_rfl
        exact (show Tryd.prog.wantsStandIn t = false by simpa using List.all_eq_true.1 hall t hm)⟩)
    (by kernel_rfl)
end Go.Proofs.YtmpkjlifcdobiaaDoor.ratioLeasts
