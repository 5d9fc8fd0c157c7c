/- That the law MeasureWithin returns true for every input that can be read, and leaves its arguments as they were; the package variables that it lists start as the program lays them, which the card ties to the text; no further condition. -/
import Derived.Test.YtabmpnmhjdbdmaaGreatDoorRows
import Derived.WalkKit
import Derived.ProofKit
import Derived.OpenShut
import Derived.LaidMore
import Derived.Stop.Joined
import Derived.SevenTiedAt
import Derived.Test.YtabmpnmhjdbdmaaGreatDoorCards
import Derived.Test.YtabmpnmhjdbdmaaGreatDoorTie
import Derived.Test.YtabmpnmhjdbdmaaGreatDoorWords
import Derived.Test.YtabmpnmhjdbdmaaGreatDoorSrcNew0
import Derived.Test.YtabmpnmhjdbdmaaGreatDoorMsU
import Derived.Test.YtabmpnmhjdbdmaaGreatDoorMsW
import Derived.Test.YtabmpnmhjdbdmaaGreatDoorSrcRat0
import Derived.ShutString
import Derived.ChangeOld
import Derived.Below
namespace Go.Proofs.YtabmpnmhjdbdmaaGreatDoor.measureWithin
open Go.ChangeShapes Go.WideShapes Go.ChangeAt Go.RowKit Wo
open Go.ChangeMaps (open_string shut_string)
set_option linter.unusedVariables false

theorem own : ownKnob Tryz.prog.godebug = none := by kernel_rfl
theorem laidOut : laidOutB Tryz.prog = true := by kernel_rfl

/-- WHAT THE WALK IS TOLD OF A SLICE OF INTEGERS THAT CAME IN: it is nil; or it leads to a row of 'cap' cells, the numbers 'zs' (the first 'len' are its elements, the rest its spare room), each fitting its kind. -/
def IsRow (k : IntKind) (w : World) (a : Option Addr) (len cap : Nat) (zs : List Int) : Prop :=
  (a = none ∧ len = 0 ∧ cap = 0 ∧ zs = []) ∨
  ∃ x, a = some x ∧ len ≤ cap ∧ cap ≤ maxLen ∧ zs.length = cap ∧ (∀ i, i < zs.length → w.cell? (x.add i) = some (.int k (zs.getD i 0))) ∧ ∀ n ∈ zs, (Lit.int k n).wf = true

open Go.Proofs.YtabmpnmhjdbdmaaGreatDoor.Ms Go.Proofs.YtabmpnmhjdbdmaaGreatDoor.Wi Go.Proofs.YtabmpnmhjdbdmaaGreatDoor.Wo Go.Proofs.YtabmpnmhjdbdmaaGreatDoor.Sr Go.Proofs.YtabmpnmhjdbdmaaGreatDoor.Ra Go.Proofs.YtabmpnmhjdbdmaaGreatDoor.Rr Go.Proofs.YtabmpnmhjdbdmaaGreatDoor.Nr in
set_option maxHeartbeats 8000000 in
set_option maxRecDepth 100000 in
theorem walk (a0 : Option Addr) (len0 cap0 : Nat) (z0 : List Int) (w : World) (hL : Rr.Lw w) (w0 : IsRow .i64 w a0 len0 cap0 z0) :
    Calls Tryz.prog 3 #[.slice a0 len0 cap0] w fun e w' => e = .returned (.bool true) ∧ Below w.heap.size w w' := by
  have HL := Lib.hid hL
  clear hL
  have AW : Hid (∀ W, Bel w W → Calls Tryz.prog 11 #[] W fun e w' => e = .returned (.bool true) ∧ Bel W w') := fun W hW => awake_any W (HL.out.bel hW)
  go_enter Tryz.func3, Tryz.ntmps3
  go_wp2_with fail
  go_at_call 4
  refine (new_any a0 len0 cap0 z0 w w0).mono ?_
  rintro e v1 ⟨q0, rfl, hq, ho1, hb1⟩
  have HO := Lib.hid ho1
  have HBa : Hid (Bel w v1) := hb1
  clear ho1 hb1
  go_wp2_with fail
  go_at_call 5
  refine (measure_any q0 _ HO.out).mono ?_
  rintro e u1 ⟨k, b, g, rfl, hmv, ho, hc⟩
  have HBm : Hid (Bel w u1) := Bel.ch HBa.out hc (by have := hq; omega)
  have HO1 : Hid (Ok (u1.alloc (.cells #[.int .i64 k, .int .i64 b, .int .i64 g] 26)) q0) := ho.bel (Bel.rf.al _)
  have HKm : Hid (Bk (u1.alloc (.cells #[.int .i64 k, .int .i64 b, .int .i64 g] 26)) u1.heap.size 26 #[.int .i64 k, .int .i64 b, .int .i64 g]) := Bk.nw _ _ _
  have QL : q0 < u1.heap.size := ho.lt
  clear ho hc
  have HMV := Lib.hid hmv
  clear hmv
  go_wp2_with fail
  go_at_call 6
  refine (suited_any q0 k b g HMV.out _ HO1.out).mono ?_
  rintro e v2 ⟨xa, xb, ya, yb, n, m, L, M, rfl, n1, n2, m1, m2, hf, hox, hoy, lL, lM, sL, sM, ho2, hc2⟩
  have kM0 := hc2.bk HKm.out (by have := QL; omega)
  have HBs : Hid (Bel w v2) := Bel.ch (HBm.out.al _) hc2 (by have := hq; omega)
  have HO2 := Lib.hid ho2
  have Q2 : q0 < v2.heap.size := ho2.lt
  have HOXY := Lib.hid (And.intro hox hoy)
  have hsz := hc2.sz
  clear ho2 hc2 hox hoy
  go_wp2_with fail
  go_at_call 7
  refine (ratio_any q0 _ HO2.out).mono ?_
  rintro e v2' ⟨u, v, rfl, hrv, ho2, hc2⟩
  have hlim := (of_rv hrv)
  have HBb : Hid (Bel w v2') := Bel.ch HBs.out hc2 (by have := hq; omega)
  have zx : Zi v2' (some ⟨xa, 0, none⟩) n L := own_zi (own_ch HOXY.out.1 hc2 (by simp only [World.size_alloc]; have := QL; omega)) lL
  have zy : Zi v2' (some ⟨ya, 0, none⟩) m M := own_zi (own_ch HOXY.out.2 hc2 (by simp only [World.size_alloc]; have := QL; omega)) lM
  have kM1 := hc2.bk kM0 (by have := QL; omega)
  obtain ⟨v3, hv3⟩ : ∃ V, V = v2'.alloc (.cells #[.int .i64 u, .int .i64 v] 31) := ⟨_, rfl⟩
  have B3 : Bel v2' v3 := by rw [hv3]; exact Bel.rf.al _
  have HBv3 : Hid (Bel w v3) := HBb.out.tr B3
  have zx3 := zx.bel B3
  have zy3 := zy.bel B3
  have kM3 := kM1.bel B3
  have HM3 := Lib.hid kM3
  have HL3 : Hid (Bk v3 v2'.heap.size 31 #[.int .i64 u, .int .i64 v]) := by rw [hv3]; exact Bk.nw _ _ _
  have D1 : Hid (∀ W, Bel v3 W → _) := fun W hW => dist_any k b g HMV.out (some ⟨xa, 0, none⟩) (some ⟨ya, 0, none⟩) xb yb n m L M hf n1 n2 m1 m2 sL sM W (zx3.bel hW) (zy3.bel hW)
  have rv := md_rv HMV.out hf n1 n2 m1 m2 lL lM sL sM
  obtain ⟨G, hG⟩ : ∃ G, md k b g n m L M = G := ⟨_, rfl⟩
  rw [hG] at D1 rv
  obtain ⟨p, q⟩ := G
  have CM : Hid (∀ W, Calls Tryz.prog 10 #[.agg #[.int .i64 p, .int .i64 q], .agg #[.int .i64 u, .int .i64 v]] W fun e w' => e = .returned (.int .i64 (cmpI (p * v) (u * q))) ∧ Bel W w') := rcmp_ok p q u v rv hlim
  have W2 : Hid (∀ W, Bel v3 W → Calls Tryz.prog 9 #[.agg #[.int .i64 k, .int .i64 b, .int .i64 g], .slice (some ⟨xa, 0, none⟩) n xb, .slice (some ⟨ya, 0, none⟩) m yb, .agg #[.int .i64 p, .int .i64 q]] W fun e w' => e = .returned (.tuple #[.agg #[.int .i64 p, .int .i64 q], .bool true]) ∧ Bel W w') := fun W hW =>
    within_of k b g _ _ xb yb n m p q p q rv rv false p q (decide_eq_false (by omega)) (fun e => by cases e) (fun _ => ⟨rfl, rfl⟩) W (fun V hV => D1.out V (hW.tr hV))
  have W1 : Hid (∀ (f : Bool) (r1 r2 : Int), decide (u * q < p * v) = f → (f = true → r1 = 0 ∧ r2 = 1) → (f = false → r1 = p ∧ r2 = q) → ∀ W, Bel v3 W → Calls Tryz.prog 9 #[.agg #[.int .i64 k, .int .i64 b, .int .i64 g], .slice (some ⟨xa, 0, none⟩) n xb, .slice (some ⟨ya, 0, none⟩) m yb, .agg #[.int .i64 u, .int .i64 v]] W fun e w' => e = .returned (.tuple #[.agg #[.int .i64 r1, .int .i64 r2], .bool (!f)]) ∧ Bel W w') := fun f r1 r2 h1 h2 h3 W hW =>
    within_of k b g _ _ xb yb n m p q u v rv hlim f r1 r2 h1 h2 h3 W (fun V hV => D1.out V (hW.tr hV))
  have k0 : v2'.cell? ⟨u1.heap.size, 0, none⟩ = some (.int .i64 k) := kM1.cell 0
  have k1 : v2'.cell? ⟨u1.heap.size, 1, none⟩ = some (.int .i64 b) := kM1.cell 1
  have k2 : v2'.cell? ⟨u1.heap.size, 2, none⟩ = some (.int .i64 g) := kM1.cell 2
  have lk0 := kM1.lt
  have RV0 := Lib.hid (And.intro rv hlim)
  clear zx zy zx3 zy3 lL lM sL sM hc2 ho2 hf rv hlim hG kM0 kM1 kM3 w0 B3 hrv
  subst hv3
  rcases Int.lt_or_le (u * q) (p * v) with hlt | hle
  · have hd : decide (u * q < p * v) = true := decide_eq_true hlt
    have WA := Lib.hid (W1.out true 0 1 hd (fun _ => ⟨rfl, rfl⟩) (fun _ => by contradiction))
    have hz : cmpI (p * v) (u * q) = 1 := cmpI_gt hlt
    rw [hz] at CM
    clear hd hz W1
    go_wp2_with fail
    go_at_call 8
    refine (D1.out _ Bel.rf).mono ?_
    rintro e v4 ⟨rfl, hb⟩
    have HB4 : Hid (Bel (v2'.alloc (.cells #[.int .i64 u, .int .i64 v] 31)) (v4.alloc (.cells #[.int .i64 p, .int .i64 q] 31))) := hb.al _
    have kM := HM3.out.bel hb
    have kL := HL3.out.bel hb
    have HM4 := Lib.hid (kM.al (.cells #[.int .i64 p, .int .i64 q] 31))
    have HL4 := Lib.hid (kL.al (.cells #[.int .i64 p, .int .i64 q] 31))
    have HA4 : Hid (Bk (v4.alloc (.cells #[.int .i64 p, .int .i64 q] 31)) v4.heap.size 31 #[.int .i64 p, .int .i64 q]) := Bk.nw _ _ _
    have k0 : v4.cell? ⟨u1.heap.size, 0, none⟩ = some (.int .i64 k) := kM.cell 0
    have k1 : v4.cell? ⟨u1.heap.size, 1, none⟩ = some (.int .i64 b) := kM.cell 1
    have k2 : v4.cell? ⟨u1.heap.size, 2, none⟩ = some (.int .i64 g) := kM.cell 2
    have l0 : v4.cell? ⟨v2'.heap.size, 0, none⟩ = some (.int .i64 u) := kL.cell 0
    have l1 : v4.cell? ⟨v2'.heap.size, 1, none⟩ = some (.int .i64 v) := kL.cell 1
    have lk := kM.lt
    have ll := kL.lt
    clear hb kM kL
    go_wp2_with fail
    go_at_call 9
    refine (WA.out _ HB4.out).mono ?_
    rintro e v5 ⟨rfl, hb⟩
    have HB5 : Hid (Bel (v2'.alloc (.cells #[.int .i64 u, .int .i64 v] 31)) (v5.alloc (.cells #[.int .i64 0, .int .i64 1] 31))) := (HB4.out.tr hb).al _
    have kM := HM4.out.bel hb
    have kA := HA4.out.bel hb
    have HL5 := Lib.hid ((HL4.out.bel hb).al (.cells #[.int .i64 0, .int .i64 1] 31))
    have HA5 := Lib.hid (kA.al (.cells #[.int .i64 0, .int .i64 1] 31))
    have HW5 : Hid (Bk (v5.alloc (.cells #[.int .i64 0, .int .i64 1] 31)) v5.heap.size 31 #[.int .i64 0, .int .i64 1]) := Bk.nw _ _ _
    have k0 : v5.cell? ⟨u1.heap.size, 0, none⟩ = some (.int .i64 k) := kM.cell 0
    have k1 : v5.cell? ⟨u1.heap.size, 1, none⟩ = some (.int .i64 b) := kM.cell 1
    have k2 : v5.cell? ⟨u1.heap.size, 2, none⟩ = some (.int .i64 g) := kM.cell 2
    have a0' : v5.cell? ⟨v4.heap.size, 0, none⟩ = some (.int .i64 p) := kA.cell 0
    have a1' : v5.cell? ⟨v4.heap.size, 1, none⟩ = some (.int .i64 q) := kA.cell 1
    have lk := kM.lt
    have la := kA.lt
    clear hb kM kA
    go_wp2_with fail
    go_at_call 9
    refine (W2.out _ HB5.out).mono ?_
    rintro e v6 ⟨rfl, hb⟩
    have HB6 : Hid (Bel w (v6.alloc (.cells #[.int .i64 p, .int .i64 q] 31))) := HBv3.out.tr ((HB5.out.tr hb).al _)
    have kL := HL5.out.bel hb
    have kA := HA5.out.bel hb
    have kW := HW5.out.bel hb
    have HA6 := Lib.hid ((kA.al (.cells #[.int .i64 p, .int .i64 q] 31)).al (.cells #[.int .i64 0, .int .i64 1] 31))
    have HW6 := Lib.hid ((kW.al (.cells #[.int .i64 p, .int .i64 q] 31)).al (.cells #[.int .i64 0, .int .i64 1] 31))
    have HC6 : Hid (Bk ((v6.alloc (.cells #[.int .i64 p, .int .i64 q] 31)).alloc (.cells #[.int .i64 0, .int .i64 1] 31)) v6.heap.size 31 #[.int .i64 p, .int .i64 q]) := (Bk.nw _ _ _).al _
    have HZ6 : Hid (Bk ((v6.alloc (.cells #[.int .i64 p, .int .i64 q] 31)).alloc (.cells #[.int .i64 0, .int .i64 1] 31)) (v6.heap.size + 1) 31 #[.int .i64 0, .int .i64 1]) := Bk.nq _ _ _ (by simp)
    have l0 : v6.cell? ⟨v2'.heap.size, 0, none⟩ = some (.int .i64 u) := kL.cell 0
    have l1 : v6.cell? ⟨v2'.heap.size, 1, none⟩ = some (.int .i64 v) := kL.cell 1
    have a0' : v6.cell? ⟨v4.heap.size, 0, none⟩ = some (.int .i64 p) := kA.cell 0
    have a1' : v6.cell? ⟨v4.heap.size, 1, none⟩ = some (.int .i64 q) := kA.cell 1
    have ll := kL.lt
    have la := kA.lt
    clear hb kL kA kW
    go_wp2_with fail
    go_at_call 10
    refine (CM.out _).mono ?_
    rintro e v7 ⟨rfl, hb⟩
    have HB7 : Hid (Bel w v7) := (HB6.out.al _).tr hb
    have kA := HA6.out.bel hb
    have kW := HW6.out.bel hb
    have kC := HC6.out.bel hb
    have kZ := HZ6.out.bel hb
    have a0' : v7.cell? ⟨v4.heap.size, 0, none⟩ = some (.int .i64 p) := kA.cell 0
    have a1' : v7.cell? ⟨v4.heap.size, 1, none⟩ = some (.int .i64 q) := kA.cell 1
    have w0' : v7.cell? ⟨v5.heap.size, 0, none⟩ = some (.int .i64 0) := kW.cell 0
    have w1' : v7.cell? ⟨v5.heap.size, 1, none⟩ = some (.int .i64 1) := kW.cell 1
    have c0' : v7.cell? ⟨v6.heap.size, 0, none⟩ = some (.int .i64 p) := kC.cell 0
    have c1' : v7.cell? ⟨v6.heap.size, 1, none⟩ = some (.int .i64 q) := kC.cell 1
    have z0' : v7.cell? ⟨v6.heap.size + 1, 0, none⟩ = some (.int .i64 0) := kZ.cell 0
    have z1' : v7.cell? ⟨v6.heap.size + 1, 1, none⟩ = some (.int .i64 1) := kZ.cell 1
    clear hb kA kW kC kZ
    go_wp2_with (go_at_call 11; refine (AW.out _ HB7.out).mono ?_; rintro e v11 ⟨rfl, h11⟩)
    go_ret
    exact ⟨rfl, (HB7.out.tr h11).bl⟩
  · have hd : decide (u * q < p * v) = false := decide_eq_false (by omega)
    have WA := Lib.hid (W1.out false p q hd (fun _ => by contradiction) (fun _ => ⟨rfl, rfl⟩))
    obtain ⟨z, hz⟩ : ∃ z, cmpI (p * v) (u * q) = z := ⟨_, rfl⟩
    have hz0 : z ≤ 0 := by rw [← hz]; exact cmpI_nle hle
    rw [hz] at CM
    clear hd hz W1
    go_wp2_with fail
    go_at_call 8
    refine (D1.out _ Bel.rf).mono ?_
    rintro e v4 ⟨rfl, hb⟩
    have HB4 : Hid (Bel (v2'.alloc (.cells #[.int .i64 u, .int .i64 v] 31)) (v4.alloc (.cells #[.int .i64 p, .int .i64 q] 31))) := hb.al _
    have kM := HM3.out.bel hb
    have kL := HL3.out.bel hb
    have HM4 := Lib.hid (kM.al (.cells #[.int .i64 p, .int .i64 q] 31))
    have HL4 := Lib.hid (kL.al (.cells #[.int .i64 p, .int .i64 q] 31))
    have HA4 : Hid (Bk (v4.alloc (.cells #[.int .i64 p, .int .i64 q] 31)) v4.heap.size 31 #[.int .i64 p, .int .i64 q]) := Bk.nw _ _ _
    have k0 : v4.cell? ⟨u1.heap.size, 0, none⟩ = some (.int .i64 k) := kM.cell 0
    have k1 : v4.cell? ⟨u1.heap.size, 1, none⟩ = some (.int .i64 b) := kM.cell 1
    have k2 : v4.cell? ⟨u1.heap.size, 2, none⟩ = some (.int .i64 g) := kM.cell 2
    have l0 : v4.cell? ⟨v2'.heap.size, 0, none⟩ = some (.int .i64 u) := kL.cell 0
    have l1 : v4.cell? ⟨v2'.heap.size, 1, none⟩ = some (.int .i64 v) := kL.cell 1
    have lk := kM.lt
    have ll := kL.lt
    clear hb kM kL
    go_wp2_with fail
    go_at_call 9
    refine (WA.out _ HB4.out).mono ?_
    rintro e v5 ⟨rfl, hb⟩
    have HB5 : Hid (Bel (v2'.alloc (.cells #[.int .i64 u, .int .i64 v] 31)) (v5.alloc (.cells #[.int .i64 p, .int .i64 q] 31))) := (HB4.out.tr hb).al _
    have kM := HM4.out.bel hb
    have kA := HA4.out.bel hb
    have HL5 := Lib.hid ((HL4.out.bel hb).al (.cells #[.int .i64 p, .int .i64 q] 31))
    have HA5 := Lib.hid (kA.al (.cells #[.int .i64 p, .int .i64 q] 31))
    have HW5 : Hid (Bk (v5.alloc (.cells #[.int .i64 p, .int .i64 q] 31)) v5.heap.size 31 #[.int .i64 p, .int .i64 q]) := Bk.nw _ _ _
    have k0 : v5.cell? ⟨u1.heap.size, 0, none⟩ = some (.int .i64 k) := kM.cell 0
    have k1 : v5.cell? ⟨u1.heap.size, 1, none⟩ = some (.int .i64 b) := kM.cell 1
    have k2 : v5.cell? ⟨u1.heap.size, 2, none⟩ = some (.int .i64 g) := kM.cell 2
    have a0' : v5.cell? ⟨v4.heap.size, 0, none⟩ = some (.int .i64 p) := kA.cell 0
    have a1' : v5.cell? ⟨v4.heap.size, 1, none⟩ = some (.int .i64 q) := kA.cell 1
    have lk := kM.lt
    have la := kA.lt
    clear hb kM kA
    go_wp2_with fail
    go_at_call 9
    refine (W2.out _ HB5.out).mono ?_
    rintro e v6 ⟨rfl, hb⟩
    have HB6 : Hid (Bel w (v6.alloc (.cells #[.int .i64 p, .int .i64 q] 31))) := HBv3.out.tr ((HB5.out.tr hb).al _)
    have kL := HL5.out.bel hb
    have kA := HA5.out.bel hb
    have kW := HW5.out.bel hb
    have HA6 := Lib.hid ((kA.al (.cells #[.int .i64 p, .int .i64 q] 31)).al (.cells #[.int .i64 0, .int .i64 1] 31))
    have HW6 := Lib.hid ((kW.al (.cells #[.int .i64 p, .int .i64 q] 31)).al (.cells #[.int .i64 0, .int .i64 1] 31))
    have HC6 : Hid (Bk ((v6.alloc (.cells #[.int .i64 p, .int .i64 q] 31)).alloc (.cells #[.int .i64 0, .int .i64 1] 31)) v6.heap.size 31 #[.int .i64 p, .int .i64 q]) := (Bk.nw _ _ _).al _
    have HZ6 : Hid (Bk ((v6.alloc (.cells #[.int .i64 p, .int .i64 q] 31)).alloc (.cells #[.int .i64 0, .int .i64 1] 31)) (v6.heap.size + 1) 31 #[.int .i64 0, .int .i64 1]) := Bk.nq _ _ _ (by simp)
    have l0 : v6.cell? ⟨v2'.heap.size, 0, none⟩ = some (.int .i64 u) := kL.cell 0
    have l1 : v6.cell? ⟨v2'.heap.size, 1, none⟩ = some (.int .i64 v) := kL.cell 1
    have a0' : v6.cell? ⟨v4.heap.size, 0, none⟩ = some (.int .i64 p) := kA.cell 0
    have a1' : v6.cell? ⟨v4.heap.size, 1, none⟩ = some (.int .i64 q) := kA.cell 1
    have ll := kL.lt
    have la := kA.lt
    clear hb kL kA kW
    go_wp2_with fail
    go_at_call 10
    refine (CM.out _).mono ?_
    rintro e v7 ⟨rfl, hb⟩
    have HB7 : Hid (Bel w v7) := (HB6.out.al _).tr hb
    have kA := HA6.out.bel hb
    have kW := HW6.out.bel hb
    have kC := HC6.out.bel hb
    have kZ := HZ6.out.bel hb
    have a0' : v7.cell? ⟨v4.heap.size, 0, none⟩ = some (.int .i64 p) := kA.cell 0
    have a1' : v7.cell? ⟨v4.heap.size, 1, none⟩ = some (.int .i64 q) := kA.cell 1
    have w0' : v7.cell? ⟨v5.heap.size, 0, none⟩ = some (.int .i64 p) := kW.cell 0
    have w1' : v7.cell? ⟨v5.heap.size, 1, none⟩ = some (.int .i64 q) := kW.cell 1
    have c0' : v7.cell? ⟨v6.heap.size, 0, none⟩ = some (.int .i64 p) := kC.cell 0
    have c1' : v7.cell? ⟨v6.heap.size, 1, none⟩ = some (.int .i64 q) := kC.cell 1
    have z0' : v7.cell? ⟨v6.heap.size + 1, 0, none⟩ = some (.int .i64 0) := kZ.cell 0
    have z1' : v7.cell? ⟨v6.heap.size + 1, 1, none⟩ = some (.int .i64 1) := kZ.cell 1
    clear hb kA kW kC kZ
    go_wp2_with (go_at_call 11; refine (AW.out _ HB7.out).mono ?_; rintro e v11 ⟨rfl, h11⟩)
    go_ret
    exact ⟨rfl, (HB7.out.tr h11).bl⟩

theorem door_met (os : Os) (args : Array Value) : laidMetH Tryz.prog [("math/bits.deBruijn32tab", Rows.laid_math_bits_deBruijn32tab), ("math/bits.deBruijn64tab", Rows.laid_math_bits_deBruijn64tab), ("internal/strconv.uint64pow10", Rows.laid_internal_strconv_uint64pow10), ("strconv.ErrRange", Rows.laid_strconv_ErrRange), ("strconv.ErrSyntax", Rows.laid_strconv_ErrSyntax)] ((World.doorLaid Tryz.prog 400 os).forCall (fun _ _ => 0) ⟨#[], args, []⟩).memory :=
  laidMetH_of_parts3 (fuel := 8) (laidMet_of_run' 8 (by kernel_rfl) (by kernel_rfl)) (by kernel_rfl) (by kernel_rfl)
set_option maxRecDepth 100000 in
theorem lifted (os : Os) (started : os.Started) (H : Type) (enc : TypeId × Value → H) :
    ReturnsInHanded {} Tryz.checked os 3 .any (fun w args => (Rows.measureWithinSpec.pre enc Tryz.prog Tryz.f3 [] false w args ∧ laidMetH Tryz.prog [("math/bits.deBruijn32tab", Rows.laid_math_bits_deBruijn32tab), ("math/bits.deBruijn64tab", Rows.laid_math_bits_deBruijn64tab), ("internal/strconv.uint64pow10", Rows.laid_internal_strconv_uint64pow10), ("strconv.ErrRange", Rows.laid_strconv_ErrRange), ("strconv.ErrSyntax", Rows.laid_strconv_ErrSyntax)] w) ∧ sizedMet enc Tryz.prog Tryz.f3 (OpenSpec.ofChange Rows.measureWithinSpec) false w args)
      (Rows.measureWithinSpec.post enc Tryz.prog Tryz.f3 false true false false) := by
  refine returnsInHanded_of_change_and (C := Tryz.checked) (X := fun w _ => laidMetH Tryz.prog [("math/bits.deBruijn32tab", Rows.laid_math_bits_deBruijn32tab), ("math/bits.deBruijn64tab", Rows.laid_math_bits_deBruijn64tab), ("internal/strconv.uint64pow10", Rows.laid_internal_strconv_uint64pow10), ("strconv.ErrRange", Rows.laid_strconv_ErrRange), ("strconv.ErrSyntax", Rows.laid_strconv_ErrSyntax)] w) (fun _ _ _ hh h => h.of_heap hh) own started (by kernel_rfl) Tryz.func3
    (ChangeSpec.witness_shaped (enc := enc) (C := Tryz.checked) (os := os) (X := fun w _ => laidMetH Tryz.prog [("math/bits.deBruijn32tab", Rows.laid_math_bits_deBruijn32tab), ("math/bits.deBruijn64tab", Rows.laid_math_bits_deBruijn64tab), ("internal/strconv.uint64pow10", Rows.laid_internal_strconv_uint64pow10), ("strconv.ErrRange", Rows.laid_strconv_ErrRange), ("strconv.ErrSyntax", Rows.laid_strconv_ErrSyntax)] w) false (World.doorLaid Tryz.prog 400 os) #[.slice none 0 0] 8 rfl (World.shaped_of_RefB (by kernel_rfl) (by kernel_rfl)) (by kernel_rfl) (by kernel_rfl) (by kernel_rfl) (door_met os _)) ?_
  intro W base args ds gs before hval0 hW _ _ hL hsz
  have hval : ∀ (j : Nat) t v, Tryz.f3.params[j]? = some t → args[j]? = some v → Value.okWide Tryz.prog W .any base t v := hval0
  have hW' := hW
  obtain ⟨p, q, hA0, hV, rfl, hfz, hnd⟩ := hW
  have hA : DataW.TrodAll enc Tryz.prog W 0 (fun _ => true) true Tryz.f3.params.toList args.toList ds p := hA0
  rw [Tryz.params3] at hA hval
  obtain ⟨v0, vs0, d0, ds0, p0, q0, hargs, rfl, rfl, h0, r0⟩ := trodAll_cons hA
  obtain ⟨rfl, rfl, rfl⟩ := trodAll_nil r0
  obtain rfl : args = #[v0] := by cases args; simp_all
  obtain ⟨rfl, rfl⟩ := trodVars_none hV
  obtain ⟨a0, len0, cap0, rfl⟩ := okWide_slice Tryz.underlying22 (hval 0 22 v0 rfl rfl)
  have k0 := h0
  have lt0 : ∀ x ∈ p0, x.block < W.heap.size := by obtain ⟨m, hm⟩ := k0; exact DataW.trod_lt m _ _ _ hm
  obtain ⟨z0, w0⟩ : ∃ zs, IsRow .i64 W a0 len0 cap0 zs := by
    obtain ⟨fuel, hf⟩ := h0
    rcases open_ints Tryz.underlying22 Tryz.underlying3 (by kernel_rfl) hf with ⟨hcs, _⟩ | ⟨x, l, c, zs, hcs, _, hl, hm, hz, _, hcell, hwz⟩
    · simp [Value.cells] at hcs
      obtain ⟨rfl, rfl, rfl⟩ := hcs
      exact ⟨[], .inl ⟨rfl, rfl, rfl, rfl⟩⟩
    · simp [Value.cells] at hcs
      obtain ⟨rfl, rfl, rfl⟩ := hcs
      exact ⟨zs, .inr ⟨_, rfl, hl, hm, by simpa using hz, hcell, hwz⟩⟩
  clear hA0 hval0
  refine (walk a0 len0 cap0 z0 W (Rr.lw_of hL) w0).mono fun e W' ⟨he, bel⟩ => ?_
  subst he
  exact ⟨_, rfl, _, _, _, [], _, [], hW', trodAll_mk1 (shut_bool Tryz.underlying4 _), (trodAll_cons_mk (Below.trod laidOut (by kernel_rfl) (of_decide_eq_true (by kernel_rfl)) k0 bel lt0) trodAll_mk0), rfl, bel.frame _, fun h => by cases h⟩

theorem over : Rows.measureWithinRow.holds Tryz.pinned (OpenSpec.ofChange Rows.measureWithinSpec) :=
  OpenClaim.holds_of_wide 3 Tryz.f3 rfl rfl rfl rfl rfl rfl rfl ⟨rfl, rfl, rfl, rfl, rfl⟩ rfl rfl rfl rfl rfl (by kernel_rfl) Tryz.func3 (by kernel_rfl)
    (of_decide_eq_true (by kernel_rfl)) (by unfold Func.isWrapper; first | (rw [if_pos (by decide +kernel)]; kernel_rfl) | (rw [if_neg (by decide +kernel)]; exact ⟨rfl, rfl⟩))
    (fun os started H enc _ => lifted os started H enc)

theorem proved : Rows.MeasureWithinCardSaid :=
  Claim7.holds_tied_plain_at .later [] [.data, .data, .data, .sentinel, .sentinel] true (true, "9a3e16124f632c5b3a5f922eea954fa6b039f7c14c1310997c561d461029d565") true
    over (fun _ h => by cases h) (by kernel_rfl) (fun _ h => by cases h) measureWithin_row_tie rfl ⟨rfl, rfl⟩ (by kernel_rfl) rfl
    (fun f fn hf hfn => by
      obtain rfl : f = 3 := Option.some.inj ((show Tryz.prog.funcNamed "shapesearch/shapesearchlaw17.MeasureWithin" = some 3 by kernel_rfl).symm.trans hf) |>.symm
      obtain rfl : fn = Tryz.f3 := (Option.some.inj (Tryz.func3.symm.trans hfn)).symm
      exact ⟨by kernel_rfl, fun j t ht => by
        rw [Tryz.params3] at ht
        have hm : t ∈ [22] := by simpa using Array.mem_of_getElem? ht
        have hall : ([22].all fun u => !Tryz.prog.wantsStandIn u) = true := by kernel_rfl
        exact (show Tryz.prog.wantsStandIn t = false by simpa using List.all_eq_true.1 hall t hm)⟩)
    (by kernel_rfl)
end Go.Proofs.YtabmpnmhjdbdmaaGreatDoor.measureWithin
