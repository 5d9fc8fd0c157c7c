/- That the law RatioSums returns true for every input that can be read, and leaves its arguments as they were; the package variables that it lists start as the program lays them, which the card ties to the text; no further condition. -/
import Derived.Test.YtmpkjlifcdobiaaDoorRows
import Derived.WalkKit
import Derived.ProofKit
import Derived.OpenShut
import Derived.LaidMore
import Derived.Stop.Joined
import Derived.SevenTiedAt
import Derived.Test.YtmpkjlifcdobiaaDoorCards
import Derived.Test.YtmpkjlifcdobiaaDoorTie
import Derived.Test.YtmpkjlifcdobiaaDoorWords
import Derived.Test.YtmpkjlifcdobiaaDoorRatioMath
import Derived.Test.YtmpkjlifcdobiaaDoorRatioAwake
import Derived.Test.YtmpkjlifcdobiaaDoorRatioLess
import Derived.Test.YtmpkjlifcdobiaaDoorSrcRatio
import Derived.Test.YtmpkjlifcdobiaaDoorSrcNew
import Derived.Test.YtmpkjlifcdobiaaDoorRatioAddAny
import Derived.ShutString
import Derived.ChangeOld
import Derived.Below
namespace Go.Proofs.YtmpkjlifcdobiaaDoor.ratioSums
open Go.ChangeShapes Go.WideShapes Go.ChangeAt Go.RowKit Wo
open Go.ChangeMaps (open_string shut_string)
set_option linter.unusedVariables false

theorem own : ownKnob Tryd.prog.godebug = none := by kernel_rfl
theorem laidOut : laidOutB Tryd.prog = true := by kernel_rfl

/-- WHAT THE WALK IS TOLD OF A SLICE OF INTEGERS THAT CAME IN: it is nil; or it leads to a row of 'cap' cells, the numbers 'zs' (the first 'len' are its elements, the rest its spare room), each fitting its kind. -/
def IsRow (k : IntKind) (w : World) (a : Option Addr) (len cap : Nat) (zs : List Int) : Prop :=
  (a = none ∧ len = 0 ∧ cap = 0 ∧ zs = []) ∨
  ∃ x, a = some x ∧ len ≤ cap ∧ cap ≤ maxLen ∧ zs.length = cap ∧ (∀ i, i < zs.length → w.cell? (x.add i) = some (.int k (zs.getD i 0))) ∧ ∀ n ∈ zs, (Lit.int k n).wf = true

open Go.Proofs.YtmpkjlifcdobiaaDoor.Ra Go.Proofs.YtmpkjlifcdobiaaDoor.Wo Go.Proofs.YtmpkjlifcdobiaaDoor.Sr in
set_option maxHeartbeats 64000000 in
set_option maxRecDepth 100000 in
theorem walk (a0 : Option Addr) (len0 cap0 : Nat) (z0 : List Int) (w : World) (w0 : IsRow .i64 w a0 len0 cap0 z0) :
    Calls Tryd.prog 6 #[.slice a0 len0 cap0] w fun e w' => e = .returned (.bool true) ∧ Below w.heap.size w w' := by
  go_enter Tryd.func6, Tryd.ntmps6
  go_wp2_with fail
  go_at_call 12
  refine (new_any a0 len0 cap0 z0 w w0).mono ?_
  rintro e w1 ⟨g, rfl, hg, ho1, hb1⟩
  have HO1 := Lib.hid ho1
  have HB1 := Lib.hid hb1
  clear ho1 hb1 w0
  go_wp2_with fail
  go_at_call 13
  refine (ratio_any g _ HO1.out).mono ?_
  rintro e w2 ⟨an, ad, rfl, hv, ho, hc⟩
  have HV1 := Lib.hid (of_rv hv)
  have HO2 := Lib.hid ho
  have HB2 : Hid (Bel w w2) := Bel.ch HB1.out hc hg
  clear hv ho hc
  go_wp2_with fail
  go_at_call 13
  refine (ratio_any g _ HO2.out).mono ?_
  rintro e w3 ⟨bn, bd, rfl, hv, ho, hc⟩
  have HV2 := Lib.hid (of_rv hv)
  have HO3 := Lib.hid ho
  have HB3 : Hid (Bel w w3) := Bel.ch HB2.out hc hg
  clear hv ho hc
  go_wp2_with fail
  go_at_call 13
  refine (ratio_any g _ HO3.out).mono ?_
  rintro e w4 ⟨cn, cd, rfl, hv, ho, hc⟩
  have HV3 := Lib.hid (of_rv hv)
  have HO4 := Lib.hid ho
  have HB4 : Hid (Bel w w4) := Bel.ch HB3.out hc hg
  clear hv ho hc
  obtain ⟨xn, xd, xe, hX⟩ : ∃ xn xd xe, radd an ad bn bd = (xn, xd, xe) := ⟨_, _, _, rfl⟩
  obtain ⟨un, ud, ue, hU⟩ : ∃ xn' xd' xe', radd xn xd cn cd = (xn', xd', xe') := ⟨_, _, _, rfl⟩
  obtain ⟨vn, vd, ve, hV⟩ : ∃ xn xd xe, radd bn bd cn cd = (xn, xd, xe) := ⟨_, _, _, rfl⟩
  obtain ⟨wn, wd, we, hW⟩ : ∃ xn xd xe, radd an ad vn vd = (xn, xd, xe) := ⟨_, _, _, rfl⟩
  obtain ⟨sn, sd, se, hS⟩ : ∃ xn xd xe, radd an ad cn cd = (xn, xd, xe) := ⟨_, _, _, rfl⟩
  have JX : Hid (∀ W, Calls Tryd.prog 23 #[.agg #[.int .i64 an, .int .i64 ad], .agg #[.int .i64 bn, .int .i64 bd]] W fun r w' => r = .returned (.tuple #[.agg #[.int .i64 xn, .int .i64 xd], .int .i64 xe]) ∧ Bel W w') := fun W => by
    have := add_any an ad bn bd W
    rwa [hX] at this
  have JY : Hid (∀ W, Calls Tryd.prog 23 #[.agg #[.int .i64 bn, .int .i64 bd], .agg #[.int .i64 an, .int .i64 ad]] W fun r w' => r = .returned (.tuple #[.agg #[.int .i64 xn, .int .i64 xd], .int .i64 xe]) ∧ Bel W w') := fun W => by
    have := add_any bn bd an ad W
    rwa [radd_comm HV1.out HV2.out, hX] at this
  have JZ : Hid (∀ W, Calls Tryd.prog 23 #[.agg #[.int .i64 an, .int .i64 ad], .agg #[.int .i64 0, .int .i64 1]] W fun r w' => r = .returned (.tuple #[.agg #[.int .i64 an, .int .i64 ad], .int .i64 0]) ∧ Bel W w') := fun W => by
    have := add_any an ad 0 1 W
    rwa [radd_zero HV1.out] at this
  have JU : Hid (∀ W, Calls Tryd.prog 23 #[.agg #[.int .i64 xn, .int .i64 xd], .agg #[.int .i64 cn, .int .i64 cd]] W fun r w' => r = .returned (.tuple #[.agg #[.int .i64 un, .int .i64 ud], .int .i64 ue]) ∧ Bel W w') := fun W => by
    have := add_any xn xd cn cd W
    rwa [hU] at this
  have JV : Hid (∀ W, Calls Tryd.prog 23 #[.agg #[.int .i64 bn, .int .i64 bd], .agg #[.int .i64 cn, .int .i64 cd]] W fun r w' => r = .returned (.tuple #[.agg #[.int .i64 vn, .int .i64 vd], .int .i64 ve]) ∧ Bel W w') := fun W => by
    have := add_any bn bd cn cd W
    rwa [hV] at this
  have JW : Hid (∀ W, Calls Tryd.prog 23 #[.agg #[.int .i64 an, .int .i64 ad], .agg #[.int .i64 vn, .int .i64 vd]] W fun r w' => r = .returned (.tuple #[.agg #[.int .i64 wn, .int .i64 wd], .int .i64 we]) ∧ Bel W w') := fun W => by
    have := add_any an ad vn vd W
    rwa [hW] at this
  have JS : Hid (∀ W, Calls Tryd.prog 23 #[.agg #[.int .i64 an, .int .i64 ad], .agg #[.int .i64 cn, .int .i64 cd]] W fun r w' => r = .returned (.tuple #[.agg #[.int .i64 sn, .int .i64 sd], .int .i64 se]) ∧ Bel W w') := fun W => by
    have := add_any an ad cn cd W
    rwa [hS] at this
  have ok : ∀ {n d m e t u c : Int}, radd n d m e = (t, u, c) → c = 0 → RV n d ∧ RV m e ∧ RV t u ∧ t * (d * e) = (n * e + m * d) * u := fun {n d m e t u c} h hc => by
    have := radd_ok (n := n) (d := d) (m := m) (e := e) (by rw [h]; exact hc)
    rwa [h] at this
  have F5 : Hid (xe = 0 → ue = 0 → ve = 0 → we = 0 → un = wn ∧ ud = wd) := by
    show _ → _
    intro h1 h2 h3 h4
    have x := ok hX h1
    have u := ok hU h2
    have v := ok hV h3
    have w := ok hW h4
    exact radd_assoc x.2.2.1 v.2.2.1 u.2.2.1 w.2.2.1 HV1.out.1.2.2.1 HV2.out.1.2.2.1 HV3.out.1.2.2.1 x.2.2.2 u.2.2.2 v.2.2.2 w.2.2.2
  have F14 : Hid (se = 0 → ve = 0 → rcmp sn sd vn vd = rcmp an ad bn bd) := by
    show _ → _
    intro h1 h2
    have s := ok hS h1
    have v := ok hV h2
    exact radd_order HV1.out HV2.out HV3.out.1.2.2.1 s.2.2.1 v.2.2.1 s.2.2.2 v.2.2.2
  have F16 : Hid (xe = 0 → rv xn xd = true ∧ decide (rcmp xn xd an ad < 0) = false) := by
    show _ → _
    intro h1
    have x := ok hX h1
    exact ⟨rv_yes x.2.2.1, radd_ge HV1.out HV2.out x.2.2.1 x.2.2.2⟩
  clear hX hU hV hW hS ok HV1 HV2 HV3 HO1 HO2 HO3 HO4 HB1 HB2 HB3
  go_wp2_with fail
  go_at_call 23
  refine (JX.out _).mono ?_
  rintro e p1 ⟨rfl, h1⟩
  have HBA : Hid (Bk p1 w4.heap.size 23 #[.int .i64 an, .int .i64 ad]) := (((Bk.nw w4 _ _).al _).al _).bel h1
  have HBB : Hid (Bk p1 (w4.heap.size + 1) 23 #[.int .i64 bn, .int .i64 bd]) := ((Bk.nq (w4.alloc _) _ _ (by simp)).al _).bel h1
  have HBC : Hid (Bk p1 (w4.heap.size + 2) 23 #[.int .i64 cn, .int .i64 cd]) := (Bk.nq ((w4.alloc _).alloc _) _ _ (by simp)).bel h1
  have HX : Hid (Bel w p1) := (((HB4.out.al _).al _).al _).tr h1
  clear h1
  have kA0 : p1.cell? ⟨w4.heap.size, 0, none⟩ = some (.int .i64 an) := HBA.out.cell 0
  have kA1 : p1.cell? ⟨w4.heap.size, 1, none⟩ = some (.int .i64 ad) := HBA.out.cell 1
  have lA := HBA.out.lt
  have kB0 : p1.cell? ⟨(w4.heap.size + 1), 0, none⟩ = some (.int .i64 bn) := HBB.out.cell 0
  have kB1 : p1.cell? ⟨(w4.heap.size + 1), 1, none⟩ = some (.int .i64 bd) := HBB.out.cell 1
  have lB := HBB.out.lt
  go_wp2_with fail
  go_at_call 23
  refine (JY.out _).mono ?_
  rintro e p2 ⟨rfl, h2⟩
  clear kA0 kA1 lA kB0 kB1 lB
  have HBA := Lib.hid ((HBA.out.al _).bel h2)
  have HBB := Lib.hid ((HBB.out.al _).bel h2)
  have HBC := Lib.hid ((HBC.out.al _).bel h2)
  have HBX : Hid (Bk p2 p1.heap.size 23 #[.int .i64 xn, .int .i64 xd]) := (Bk.nw p1 _ _).bel h2
  have HX := Lib.hid ((HX.out.al _).tr h2)
  clear h2
  have kA0 : p2.cell? ⟨w4.heap.size, 0, none⟩ = some (.int .i64 an) := HBA.out.cell 0
  have kA1 : p2.cell? ⟨w4.heap.size, 1, none⟩ = some (.int .i64 ad) := HBA.out.cell 1
  have lA := HBA.out.lt
  go_wp2_with fail
  go_at_call 23
  refine (JZ.out _).mono ?_
  rintro e p3 ⟨rfl, h3⟩
  clear kA0 kA1 lA
  have HBA := Lib.hid ((HBA.out.al _).bel h3)
  have HBB := Lib.hid ((HBB.out.al _).bel h3)
  have HBC := Lib.hid ((HBC.out.al _).bel h3)
  have HBX := Lib.hid ((HBX.out.al _).bel h3)
  have HBY : Hid (Bk p3 p2.heap.size 23 #[.int .i64 xn, .int .i64 xd]) := (Bk.nw p2 _ _).bel h3
  have HX := Lib.hid ((HX.out.al _).tr h3)
  clear h3
  have kA0 : p3.cell? ⟨w4.heap.size, 0, none⟩ = some (.int .i64 an) := HBA.out.cell 0
  have kA1 : p3.cell? ⟨w4.heap.size, 1, none⟩ = some (.int .i64 ad) := HBA.out.cell 1
  have lA := HBA.out.lt
  have kC0 : p3.cell? ⟨(w4.heap.size + 2), 0, none⟩ = some (.int .i64 cn) := HBC.out.cell 0
  have kC1 : p3.cell? ⟨(w4.heap.size + 2), 1, none⟩ = some (.int .i64 cd) := HBC.out.cell 1
  have lC := HBC.out.lt
  have kX0 : p3.cell? ⟨p1.heap.size, 0, none⟩ = some (.int .i64 xn) := HBX.out.cell 0
  have kX1 : p3.cell? ⟨p1.heap.size, 1, none⟩ = some (.int .i64 xd) := HBX.out.cell 1
  have lX := HBX.out.lt
  have kY0 : p3.cell? ⟨p2.heap.size, 0, none⟩ = some (.int .i64 xn) := HBY.out.cell 0
  have kY1 : p3.cell? ⟨p2.heap.size, 1, none⟩ = some (.int .i64 xd) := HBY.out.cell 1
  have lY := HBY.out.lt
  go_wp2_with fail
  go_at_call 23
  refine (JU.out _).mono ?_
  rintro e p4 ⟨rfl, h4⟩
  clear kX0 kX1 lX kY0 kY1 lY kA0 kA1 lA kC0 kC1 lC
  have HBA := Lib.hid ((HBA.out.al _).bel h4)
  have HBB := Lib.hid ((HBB.out.al _).bel h4)
  have HBC := Lib.hid ((HBC.out.al _).bel h4)
  have HBX := Lib.hid ((HBX.out.al _).bel h4)
  have HBY := Lib.hid ((HBY.out.al _).bel h4)
  have HBZ : Hid (Bk p4 p3.heap.size 23 #[.int .i64 an, .int .i64 ad]) := (Bk.nw p3 _ _).bel h4
  have HX := Lib.hid ((HX.out.al _).tr h4)
  clear h4
  have kB0 : p4.cell? ⟨(w4.heap.size + 1), 0, none⟩ = some (.int .i64 bn) := HBB.out.cell 0
  have kB1 : p4.cell? ⟨(w4.heap.size + 1), 1, none⟩ = some (.int .i64 bd) := HBB.out.cell 1
  have lB := HBB.out.lt
  have kC0 : p4.cell? ⟨(w4.heap.size + 2), 0, none⟩ = some (.int .i64 cn) := HBC.out.cell 0
  have kC1 : p4.cell? ⟨(w4.heap.size + 2), 1, none⟩ = some (.int .i64 cd) := HBC.out.cell 1
  have lC := HBC.out.lt
  go_wp2_with fail
  go_at_call 23
  refine (JV.out _).mono ?_
  rintro e p5 ⟨rfl, h5⟩
  clear kB0 kB1 lB kC0 kC1 lC
  have HBA := Lib.hid ((HBA.out.al _).bel h5)
  have HBB := Lib.hid ((HBB.out.al _).bel h5)
  have HBC := Lib.hid ((HBC.out.al _).bel h5)
  have HBX := Lib.hid ((HBX.out.al _).bel h5)
  have HBY := Lib.hid ((HBY.out.al _).bel h5)
  have HBZ := Lib.hid ((HBZ.out.al _).bel h5)
  have HBU : Hid (Bk p5 p4.heap.size 23 #[.int .i64 un, .int .i64 ud]) := (Bk.nw p4 _ _).bel h5
  have HX := Lib.hid ((HX.out.al _).tr h5)
  clear h5
  have kA0 : p5.cell? ⟨w4.heap.size, 0, none⟩ = some (.int .i64 an) := HBA.out.cell 0
  have kA1 : p5.cell? ⟨w4.heap.size, 1, none⟩ = some (.int .i64 ad) := HBA.out.cell 1
  have lA := HBA.out.lt
  go_wp2_with fail
  go_at_call 23
  refine (JW.out _).mono ?_
  rintro e p6 ⟨rfl, h6⟩
  clear kA0 kA1 lA
  have HBA := Lib.hid ((HBA.out.al _).bel h6)
  have HBB := Lib.hid ((HBB.out.al _).bel h6)
  have HBC := Lib.hid ((HBC.out.al _).bel h6)
  have HBX := Lib.hid ((HBX.out.al _).bel h6)
  have HBY := Lib.hid ((HBY.out.al _).bel h6)
  have HBZ := Lib.hid ((HBZ.out.al _).bel h6)
  have HBU := Lib.hid ((HBU.out.al _).bel h6)
  have HBV : Hid (Bk p6 p5.heap.size 23 #[.int .i64 vn, .int .i64 vd]) := (Bk.nw p5 _ _).bel h6
  have HX := Lib.hid ((HX.out.al _).tr h6)
  clear h6
  have kA0 : p6.cell? ⟨w4.heap.size, 0, none⟩ = some (.int .i64 an) := HBA.out.cell 0
  have kA1 : p6.cell? ⟨w4.heap.size, 1, none⟩ = some (.int .i64 ad) := HBA.out.cell 1
  have lA := HBA.out.lt
  have kC0 : p6.cell? ⟨(w4.heap.size + 2), 0, none⟩ = some (.int .i64 cn) := HBC.out.cell 0
  have kC1 : p6.cell? ⟨(w4.heap.size + 2), 1, none⟩ = some (.int .i64 cd) := HBC.out.cell 1
  have lC := HBC.out.lt
  have kU0 : p6.cell? ⟨p4.heap.size, 0, none⟩ = some (.int .i64 un) := HBU.out.cell 0
  have kU1 : p6.cell? ⟨p4.heap.size, 1, none⟩ = some (.int .i64 ud) := HBU.out.cell 1
  have lU := HBU.out.lt
  have g11 : ((xe == 0) = true ∧ (ue == 0) = true ∧ (ve == 0) = true ∧ (we == 0) = true ∧ un = wn ∧ ud = wd) ∨ ((xe == 0) = true ∧ (ue == 0) = true ∧ (ve == 0) = true ∧ (we == 0) = false) ∨ ((xe == 0) = true ∧ (ue == 0) = true ∧ (ve == 0) = false) ∨ ((xe == 0) = true ∧ (ue == 0) = false) ∨ (xe == 0) = false := by
    rcases Classical.em (xe = 0) with h1 | h1
    · rcases Classical.em (ue = 0) with h2 | h2
      · rcases Classical.em (ve = 0) with h3 | h3
        · rcases Classical.em (we = 0) with h4 | h4
          · exact .inl ⟨by simpa using h1, by simpa using h2, by simpa using h3, by simpa using h4, F5.out h1 h2 h3 h4⟩
          · exact .inr (.inl ⟨by simpa using h1, by simpa using h2, by simpa using h3, by simpa using h4⟩)
        · exact .inr (.inr (.inl ⟨by simpa using h1, by simpa using h2, by simpa using h3⟩))
      · exact .inr (.inr (.inr (.inl ⟨by simpa using h1, by simpa using h2⟩)))
    · exact .inr (.inr (.inr (.inr (by simpa using h1))))
  have g14 : ((se == 0) = true ∧ (ve == 0) = true ∧ rcmp sn sd vn vd = rcmp an ad bn bd) ∨ ((se == 0) = true ∧ (ve == 0) = false) ∨ (se == 0) = false := by
    rcases Classical.em (se = 0) with h1 | h1
    · rcases Classical.em (ve = 0) with h3 | h3
      · exact .inl ⟨by simpa using h1, by simpa using h3, F14.out h1 h3⟩
      · exact .inr (.inl ⟨by simpa using h1, by simpa using h3⟩)
    · exact .inr (.inr (by simpa using h1))
  have g16 : ((xe == 0) = true ∧ (xe != 0) = false ∧ rv xn xd = true ∧ decide (rcmp xn xd an ad < 0) = false) ∨ ((xe == 0) = false ∧ (xe != 0) = true) := by
    rcases Classical.em (xe = 0) with h1 | h1
    · exact .inl ⟨by simpa using h1, by simpa using h1, F16.out h1⟩
    · exact .inr ⟨by simpa using h1, by simpa using h1⟩
  have G14 := Lib.hid g14
  have G16 := Lib.hid g16
  clear F5 F14 F16 g14 g16
  rcases g11 with ⟨y1, y2, yv, y4, rfl, rfl⟩ | ⟨y1, y2, yv, y4⟩ | ⟨y1, y2, yv⟩ | ⟨y1, y2⟩ | y1
  all_goals
    go_wp2_with fail
    go_at_call 23
    refine (JS.out _).mono ?_
    rintro e p7 ⟨rfl, h7⟩
    clear kU0 kU1 lU kA0 kA1 lA kC0 kC1 lC
    have HBA := Lib.hid ((HBA.out.al _).bel h7)
    have HBB := Lib.hid ((HBB.out.al _).bel h7)
    have HBX := Lib.hid ((HBX.out.al _).bel h7)
    have HBV := Lib.hid ((HBV.out.al _).bel h7)
    have HX := Lib.hid ((HX.out.al _).tr h7)
    clear h7
    have kA0 : p7.cell? ⟨w4.heap.size, 0, none⟩ = some (.int .i64 an) := HBA.out.cell 0
    have kA1 : p7.cell? ⟨w4.heap.size, 1, none⟩ = some (.int .i64 ad) := HBA.out.cell 1
    have lA := HBA.out.lt
    have kB0 : p7.cell? ⟨(w4.heap.size + 1), 0, none⟩ = some (.int .i64 bn) := HBB.out.cell 0
    have kB1 : p7.cell? ⟨(w4.heap.size + 1), 1, none⟩ = some (.int .i64 bd) := HBB.out.cell 1
    have lB := HBB.out.lt
    have kX0 : p7.cell? ⟨p1.heap.size, 0, none⟩ = some (.int .i64 xn) := HBX.out.cell 0
    have kX1 : p7.cell? ⟨p1.heap.size, 1, none⟩ = some (.int .i64 xd) := HBX.out.cell 1
    have lX := HBX.out.lt
    have kV0 : p7.cell? ⟨p5.heap.size, 0, none⟩ = some (.int .i64 vn) := HBV.out.cell 0
    have kV1 : p7.cell? ⟨p5.heap.size, 1, none⟩ = some (.int .i64 vd) := HBV.out.cell 1
    have lV := HBV.out.lt
    have HBS := Lib.hid (Bk.nw p7 23 #[.int .i64 sn, .int .i64 sd])
    have zs0 := HBS.out.cell 0
    have zs1 := HBS.out.cell 1
    go_wp2_with fail
    try clear y2
    try clear y4
    obtain ⟨K, hK⟩ : ∃ K, rcmp an ad bn bd = K := ⟨_, rfl⟩
    have JC2 : Hid (∀ W, Calls Tryd.prog 25 #[.agg #[.int .i64 an, .int .i64 ad], .agg #[.int .i64 bn, .int .i64 bd]] W fun r w' => r = .returned (.int .i64 K) ∧ Bel W w') := fun W => by
      have := cmp_any an ad bn bd W
      rwa [hK] at this
    rcases G14.out with ⟨z1, z2, z3⟩ | ⟨z1, z2⟩ | z1
    · have JC1 : Hid (∀ W, Calls Tryd.prog 25 #[.agg #[.int .i64 sn, .int .i64 sd], .agg #[.int .i64 vn, .int .i64 vd]] W fun r w' => r = .returned (.int .i64 K) ∧ Bel W w') := fun W => by
        have := cmp_any sn sd vn vd W
        rwa [z3, hK] at this
      clear z3 hK
      obtain rfl : se = 0 := by simpa using z1
      obtain rfl : ve = 0 := by simpa using z2
      clear z1 z2
      try clear yv
      have zs0' : (p7.alloc (.cells #[.int .i64 sn, .int .i64 sd] 23)).cell? ⟨p7.heap.size, 0, none⟩ = some (.int .i64 sn) := zs0
      go_region_held3 (fun w' => w'.cell? ⟨p7.heap.size, 0, none⟩ = some (.int .i64 sn) ∧ w'.cell? ⟨p7.heap.size, 1, none⟩ = some (.int .i64 sd) ∧ w'.cell? ⟨p5.heap.size, 0, none⟩ = some (.int .i64 vn) ∧ w'.cell? ⟨p5.heap.size, 1, none⟩ = some (.int .i64 vd) ∧ w'.cell? ⟨w4.heap.size, 0, none⟩ = some (.int .i64 an) ∧ w'.cell? ⟨w4.heap.size, 1, none⟩ = some (.int .i64 ad) ∧ w'.cell? ⟨(w4.heap.size + 1), 0, none⟩ = some (.int .i64 bn) ∧ w'.cell? ⟨(w4.heap.size + 1), 1, none⟩ = some (.int .i64 bd))
        ((refine ⟨?_, ?_, ?_, ?_, ?_, ?_, ?_, ?_⟩) <;> (repeat (first | exact zs0 | exact zs1 | exact kV0 | exact kV1 | exact kA0 | exact kA1 | exact kB0 | exact kB1 | (with_reducible refine kp_al ?_ _) | (with_reducible refine kp_drwN ?_ _) | (with_reducible refine kp_drw ?_) | (refine Bel.kp (by assumption) ?_))))
        (first
          | (go_at_call 25; first
              | ((with_reducible refine (JC1.out _).mono ?_); rintro r p8 ⟨rfl, h8⟩)
              | ((with_reducible refine (JC2.out _).mono ?_); rintro r p9 ⟨rfl, h9⟩)))
      all_goals
        have kX0 : p9.cell? ⟨p1.heap.size, 0, none⟩ = some (.int .i64 xn) := (by repeat (first | exact kX0 | (with_reducible refine kp_al ?_ _) | (with_reducible refine kp_drwN ?_ _) | (with_reducible refine kp_drw ?_) | (refine Bel.kp (by assumption) ?_)))
        have kX1 : p9.cell? ⟨p1.heap.size, 1, none⟩ = some (.int .i64 xd) := (by repeat (first | exact kX1 | (with_reducible refine kp_al ?_ _) | (with_reducible refine kp_drwN ?_ _) | (with_reducible refine kp_drw ?_) | (refine Bel.kp (by assumption) ?_)))
        have kA0 : p9.cell? ⟨w4.heap.size, 0, none⟩ = some (.int .i64 an) := (by repeat (first | exact kA0 | (with_reducible refine kp_al ?_ _) | (with_reducible refine kp_drwN ?_ _) | (with_reducible refine kp_drw ?_) | (refine Bel.kp (by assumption) ?_)))
        have kA1 : p9.cell? ⟨w4.heap.size, 1, none⟩ = some (.int .i64 ad) := (by repeat (first | exact kA1 | (with_reducible refine kp_al ?_ _) | (with_reducible refine kp_drwN ?_ _) | (with_reducible refine kp_drw ?_) | (refine Bel.kp (by assumption) ?_)))
        have HX : Hid (Bel w p9) := (by repeat (first | exact HX.out | (with_reducible refine Bel.drwN ?_ _) | (with_reducible refine Bel.drw ?_) | (with_reducible refine Bel.al ?_ _) | refine Bel.tr ?_ (by assumption)))
        clear h8 h9 JC1 JC2
        rcases G16.out with ⟨u1, u2, u3, u4⟩ | ⟨u1, u2⟩
        · first
          | (have hcon := y1.symm.trans u1; cases hcon; done)
          | (have JL : Hid (∀ W, Calls Tryd.prog 27 #[.agg #[.int .i64 xn, .int .i64 xd], .agg #[.int .i64 an, .int .i64 ad]] W fun r w' => r = .returned (.bool false) ∧ Bel W w') := fun W => less_as xn xd an ad _ false rfl u4 W
             clear u4
             go_wp2_with fail
             go_at_call 15
             refine (valid_any _ _ _).mono ?_
             rintro e q1 ⟨rfl, hq1⟩
             have kX0 : q1.cell? ⟨p1.heap.size, 0, none⟩ = some (.int .i64 xn) := (by repeat (first | exact kX0 | (with_reducible refine kp_al ?_ _) | (with_reducible refine kp_drwN ?_ _) | (with_reducible refine kp_drw ?_) | (refine Bel.kp (by assumption) ?_)))
             have kX1 : q1.cell? ⟨p1.heap.size, 1, none⟩ = some (.int .i64 xd) := (by repeat (first | exact kX1 | (with_reducible refine kp_al ?_ _) | (with_reducible refine kp_drwN ?_ _) | (with_reducible refine kp_drw ?_) | (refine Bel.kp (by assumption) ?_)))
             have kA0 : q1.cell? ⟨w4.heap.size, 0, none⟩ = some (.int .i64 an) := (by repeat (first | exact kA0 | (with_reducible refine kp_al ?_ _) | (with_reducible refine kp_drwN ?_ _) | (with_reducible refine kp_drw ?_) | (refine Bel.kp (by assumption) ?_)))
             have kA1 : q1.cell? ⟨w4.heap.size, 1, none⟩ = some (.int .i64 ad) := (by repeat (first | exact kA1 | (with_reducible refine kp_al ?_ _) | (with_reducible refine kp_drwN ?_ _) | (with_reducible refine kp_drw ?_) | (refine Bel.kp (by assumption) ?_)))
             have HX : Hid (Bel w q1) := (by repeat (first | exact HX.out | (with_reducible refine Bel.drwN ?_ _) | (with_reducible refine Bel.drw ?_) | (with_reducible refine Bel.al ?_ _) | refine Bel.tr ?_ (by assumption)))
             clear hq1
             go_wp2_with fail
             go_at_call 27
             refine (JL.out _).mono ?_
             rintro e q2 ⟨rfl, hq2⟩
             have HX := Lib.hid (HX.out.tr hq2)
             clear hq2
             go_wp2_with (go_at_call 11; refine (awake_any _).mono ?_; rintro e w9 ⟨rfl, hb9⟩)
             go_ret
             exact ⟨rfl, (HX.out.tr hb9).bl⟩)
        · first
          | (have hcon := y1.symm.trans u1; cases hcon; done)
          | (go_wp2_with (go_at_call 11; refine (awake_any _).mono ?_; rintro e w9 ⟨rfl, hb9⟩)
             go_ret
             exact ⟨rfl, Bel.bl ((by repeat (first | exact HX.out | (with_reducible refine Bel.drwN ?_ _) | (with_reducible refine Bel.drw ?_) | (with_reducible refine Bel.al ?_ _) | refine Bel.tr ?_ (by assumption))) : Bel w _)⟩)
    · first
      | (have hcon := yv.symm.trans z2; cases hcon; done)
      | (clear hK JC2
         go_quiet (fail)
         rcases G16.out with ⟨u1, u2, u3, u4⟩ | ⟨u1, u2⟩
         · first
           | (have hcon := y1.symm.trans u1; cases hcon; done)
           | (have JL : Hid (∀ W, Calls Tryd.prog 27 #[.agg #[.int .i64 xn, .int .i64 xd], .agg #[.int .i64 an, .int .i64 ad]] W fun r w' => r = .returned (.bool false) ∧ Bel W w') := fun W => less_as xn xd an ad _ false rfl u4 W
              clear u4
              go_wp2_with fail
              go_at_call 15
              refine (valid_any _ _ _).mono ?_
              rintro e q1 ⟨rfl, hq1⟩
              have kX0 : q1.cell? ⟨p1.heap.size, 0, none⟩ = some (.int .i64 xn) := (by repeat (first | exact kX0 | (with_reducible refine kp_al ?_ _) | (with_reducible refine kp_drwN ?_ _) | (with_reducible refine kp_drw ?_) | (refine Bel.kp (by assumption) ?_)))
              have kX1 : q1.cell? ⟨p1.heap.size, 1, none⟩ = some (.int .i64 xd) := (by repeat (first | exact kX1 | (with_reducible refine kp_al ?_ _) | (with_reducible refine kp_drwN ?_ _) | (with_reducible refine kp_drw ?_) | (refine Bel.kp (by assumption) ?_)))
              have kA0 : q1.cell? ⟨w4.heap.size, 0, none⟩ = some (.int .i64 an) := (by repeat (first | exact kA0 | (with_reducible refine kp_al ?_ _) | (with_reducible refine kp_drwN ?_ _) | (with_reducible refine kp_drw ?_) | (refine Bel.kp (by assumption) ?_)))
              have kA1 : q1.cell? ⟨w4.heap.size, 1, none⟩ = some (.int .i64 ad) := (by repeat (first | exact kA1 | (with_reducible refine kp_al ?_ _) | (with_reducible refine kp_drwN ?_ _) | (with_reducible refine kp_drw ?_) | (refine Bel.kp (by assumption) ?_)))
              have HX : Hid (Bel w q1) := (by repeat (first | exact HX.out | (with_reducible refine Bel.drwN ?_ _) | (with_reducible refine Bel.drw ?_) | (with_reducible refine Bel.al ?_ _) | refine Bel.tr ?_ (by assumption)))
              clear hq1
              go_wp2_with fail
              go_at_call 27
              refine (JL.out _).mono ?_
              rintro e q2 ⟨rfl, hq2⟩
              have HX := Lib.hid (HX.out.tr hq2)
              clear hq2
              go_wp2_with (go_at_call 11; refine (awake_any _).mono ?_; rintro e w9 ⟨rfl, hb9⟩)
              go_ret
              exact ⟨rfl, (HX.out.tr hb9).bl⟩)
         · first
           | (have hcon := y1.symm.trans u1; cases hcon; done)
           | (go_wp2_with (go_at_call 11; refine (awake_any _).mono ?_; rintro e w9 ⟨rfl, hb9⟩)
              go_ret
              exact ⟨rfl, Bel.bl ((by repeat (first | exact HX.out | (with_reducible refine Bel.drwN ?_ _) | (with_reducible refine Bel.drw ?_) | (with_reducible refine Bel.al ?_ _) | refine Bel.tr ?_ (by assumption))) : Bel w _)⟩))
    · clear hK JC2
      go_quiet (fail)
      rcases G16.out with ⟨u1, u2, u3, u4⟩ | ⟨u1, u2⟩
      · first
        | (have hcon := y1.symm.trans u1; cases hcon; done)
        | (have JL : Hid (∀ W, Calls Tryd.prog 27 #[.agg #[.int .i64 xn, .int .i64 xd], .agg #[.int .i64 an, .int .i64 ad]] W fun r w' => r = .returned (.bool false) ∧ Bel W w') := fun W => less_as xn xd an ad _ false rfl u4 W
           clear u4
           go_wp2_with fail
           go_at_call 15
           refine (valid_any _ _ _).mono ?_
           rintro e q1 ⟨rfl, hq1⟩
           have kX0 : q1.cell? ⟨p1.heap.size, 0, none⟩ = some (.int .i64 xn) := (by repeat (first | exact kX0 | (with_reducible refine kp_al ?_ _) | (with_reducible refine kp_drwN ?_ _) | (with_reducible refine kp_drw ?_) | (refine Bel.kp (by assumption) ?_)))
           have kX1 : q1.cell? ⟨p1.heap.size, 1, none⟩ = some (.int .i64 xd) := (by repeat (first | exact kX1 | (with_reducible refine kp_al ?_ _) | (with_reducible refine kp_drwN ?_ _) | (with_reducible refine kp_drw ?_) | (refine Bel.kp (by assumption) ?_)))
           have kA0 : q1.cell? ⟨w4.heap.size, 0, none⟩ = some (.int .i64 an) := (by repeat (first | exact kA0 | (with_reducible refine kp_al ?_ _) | (with_reducible refine kp_drwN ?_ _) | (with_reducible refine kp_drw ?_) | (refine Bel.kp (by assumption) ?_)))
           have kA1 : q1.cell? ⟨w4.heap.size, 1, none⟩ = some (.int .i64 ad) := (by repeat (first | exact kA1 | (with_reducible refine kp_al ?_ _) | (with_reducible refine kp_drwN ?_ _) | (with_reducible refine kp_drw ?_) | (refine Bel.kp (by assumption) ?_)))
           have HX : Hid (Bel w q1) := (by repeat (first | exact HX.out | (with_reducible refine Bel.drwN ?_ _) | (with_reducible refine Bel.drw ?_) | (with_reducible refine Bel.al ?_ _) | refine Bel.tr ?_ (by assumption)))
           clear hq1
           go_wp2_with fail
           go_at_call 27
           refine (JL.out _).mono ?_
           rintro e q2 ⟨rfl, hq2⟩
           have HX := Lib.hid (HX.out.tr hq2)
           clear hq2
           go_wp2_with (go_at_call 11; refine (awake_any _).mono ?_; rintro e w9 ⟨rfl, hb9⟩)
           go_ret
           exact ⟨rfl, (HX.out.tr hb9).bl⟩)
      · first
        | (have hcon := y1.symm.trans u1; cases hcon; done)
        | (go_wp2_with (go_at_call 11; refine (awake_any _).mono ?_; rintro e w9 ⟨rfl, hb9⟩)
           go_ret
           exact ⟨rfl, Bel.bl ((by repeat (first | exact HX.out | (with_reducible refine Bel.drwN ?_ _) | (with_reducible refine Bel.drw ?_) | (with_reducible refine Bel.al ?_ _) | refine Bel.tr ?_ (by assumption))) : Bel w _)⟩)
  

theorem door_met (os : Os) (args : Array Value) : laidMetH Tryd.prog [("math/bits.deBruijn32tab", Rows.laid_math_bits_deBruijn32tab), ("math/bits.deBruijn64tab", Rows.laid_math_bits_deBruijn64tab), ("internal/strconv.uint64pow10", Rows.laid_internal_strconv_uint64pow10)] ((World.doorLaid Tryd.prog 400 os).forCall (fun _ _ => 0) ⟨#[], args, []⟩).memory :=
  laidMetH_of_parts3 (fuel := 8) (laidMet_of_run' 8 (by kernel_rfl) (by kernel_rfl)) (by kernel_rfl) (by kernel_rfl)
set_option maxRecDepth 100000 in
theorem lifted (os : Os) (started : os.Started) (H : Type) (enc : TypeId × Value → H) :
    ReturnsInHanded {} Tryd.checked os 6 .any (fun w args => (Rows.ratioSumsSpec.pre enc Tryd.prog Tryd.f6 [] false w args ∧ laidMetH Tryd.prog [("math/bits.deBruijn32tab", Rows.laid_math_bits_deBruijn32tab), ("math/bits.deBruijn64tab", Rows.laid_math_bits_deBruijn64tab), ("internal/strconv.uint64pow10", Rows.laid_internal_strconv_uint64pow10)] w) ∧ sizedMet enc Tryd.prog Tryd.f6 (OpenSpec.ofChange Rows.ratioSumsSpec) false w args)
      (Rows.ratioSumsSpec.post enc Tryd.prog Tryd.f6 false true false false) := by
  refine returnsInHanded_of_change_and (C := Tryd.checked) (X := fun w _ => laidMetH Tryd.prog [("math/bits.deBruijn32tab", Rows.laid_math_bits_deBruijn32tab), ("math/bits.deBruijn64tab", Rows.laid_math_bits_deBruijn64tab), ("internal/strconv.uint64pow10", Rows.laid_internal_strconv_uint64pow10)] w) (fun _ _ _ hh h => h.of_heap hh) own started (by kernel_rfl) Tryd.func6
    (ChangeSpec.witness_shaped (enc := enc) (C := Tryd.checked) (os := os) (X := fun w _ => laidMetH Tryd.prog [("math/bits.deBruijn32tab", Rows.laid_math_bits_deBruijn32tab), ("math/bits.deBruijn64tab", Rows.laid_math_bits_deBruijn64tab), ("internal/strconv.uint64pow10", Rows.laid_internal_strconv_uint64pow10)] w) false (World.doorLaid Tryd.prog 400 os) #[.slice none 0 0] 8 rfl (World.shaped_of_RefB (by kernel_rfl) (by kernel_rfl)) (by kernel_rfl) (by kernel_rfl) (by kernel_rfl) (door_met os _)) ?_
  intro W base args ds gs before hval0 hW _ _ hL hsz
  have hval : ∀ (j : Nat) t v, Tryd.f6.params[j]? = some t → args[j]? = some v → Value.okWide Tryd.prog W .any base t v := hval0
  have hW' := hW
  obtain ⟨p, q, hA0, hV, rfl, hfz, hnd⟩ := hW
  have hA : DataW.TrodAll enc Tryd.prog W 0 (fun _ => true) true Tryd.f6.params.toList args.toList ds p := hA0
  rw [Tryd.params6] at hA hval
  obtain ⟨v0, vs0, d0, ds0, p0, q0, hargs, rfl, rfl, h0, r0⟩ := trodAll_cons hA
  obtain ⟨rfl, rfl, rfl⟩ := trodAll_nil r0
  obtain rfl : args = #[v0] := by cases args; simp_all
  obtain ⟨rfl, rfl⟩ := trodVars_none hV
  obtain ⟨a0, len0, cap0, rfl⟩ := okWide_slice Tryd.underlying24 (hval 0 24 v0 rfl rfl)
  have k0 := h0
  have lt0 : ∀ x ∈ p0, x.block < W.heap.size := by obtain ⟨m, hm⟩ := k0; exact DataW.trod_lt m _ _ _ hm
  obtain ⟨z0, w0⟩ : ∃ zs, IsRow .i64 W a0 len0 cap0 zs := by
    obtain ⟨fuel, hf⟩ := h0
    rcases open_ints Tryd.underlying24 Tryd.underlying3 (by kernel_rfl) hf with ⟨hcs, _⟩ | ⟨x, l, c, zs, hcs, _, hl, hm, hz, _, hcell, hwz⟩
    · simp [Value.cells] at hcs
      obtain ⟨rfl, rfl, rfl⟩ := hcs
      exact ⟨[], .inl ⟨rfl, rfl, rfl, rfl⟩⟩
    · simp [Value.cells] at hcs
      obtain ⟨rfl, rfl, rfl⟩ := hcs
      exact ⟨zs, .inr ⟨_, rfl, hl, hm, by simpa using hz, hcell, hwz⟩⟩
  clear hA0 hval0
  refine (walk a0 len0 cap0 z0 W w0).mono fun e W' ⟨he, bel⟩ => ?_
  subst he
  exact ⟨_, rfl, _, _, _, [], _, [], hW', trodAll_mk1 (shut_bool Tryd.underlying4 _), (trodAll_cons_mk (Below.trod laidOut (by kernel_rfl) (of_decide_eq_true (by kernel_rfl)) k0 bel lt0) trodAll_mk0), rfl, bel.frame _, fun h => by cases h⟩

theorem over : Rows.ratioSumsRow.holds Tryd.pinned (OpenSpec.ofChange Rows.ratioSumsSpec) :=
  OpenClaim.holds_of_wide 6 Tryd.f6 rfl rfl rfl rfl rfl rfl rfl ⟨rfl, rfl, rfl, rfl, rfl⟩ rfl rfl rfl rfl rfl (by kernel_rfl) Tryd.func6 (by kernel_rfl)
    (of_decide_eq_true (by kernel_rfl)) (by unfold Func.isWrapper; first | (rw [if_pos (by decide +kernel)]; kernel_rfl) | (rw [if_neg (by decide +kernel)]; exact ⟨rfl, rfl⟩))
    (fun os started H enc _ => lifted os started H enc)

theorem proved : Rows.RatioSumsCardSaid :=
  Claim7.holds_tied_plain_at .later [] [.data, .data, .data] true (true, "11adef078fe66e4a341a668750a16cfedc9afc69f03447602818c62d2f963768") true
    over (fun _ h => by cases h) (by kernel_rfl) (fun _ h => by cases h) ratioSums_row_tie rfl ⟨rfl, rfl⟩ (by kernel_rfl) rfl
    (fun f fn hf hfn => by
      obtain rfl : f = 6 := Option.some.inj ((show Tryd.prog.funcNamed "shapesearch/shapesearchlaw01.RatioSums" = some 6 by kernel_rfl).symm.trans hf) |>.symm
      obtain rfl : fn = Tryd.f6 := (Option.some.inj (Tryd.func6.symm.trans hfn)).symm
      exact ⟨by kernel_rfl, fun j t ht => by
        rw [Tryd.params6] at ht
        have hm : t ∈ [24] := by simpa using Array.mem_of_getElem? ht
        have hall : ([24].all fun u => !Tryd.prog.wantsStandIn u) = true := by kernel_rfl
        exact (show Tryd.prog.wantsStandIn t = false by simpa using List.all_eq_true.1 hall t hm)⟩)
    (by kernel_rfl)
end Go.Proofs.YtmpkjlifcdobiaaDoor.ratioSums
