/- That the law TopTriangles returns true for every input that can be read, and leaves its arguments as they were; the package variables that it lists start as the program lays them, which the card ties to the text; no further condition. -/
import Derived.Test.YtpbnabibnkohdaaGreatDoorRows
import Derived.WalkKit
import Derived.ProofKit
import Derived.OpenShut
import Derived.LaidMore
import Derived.Stop.Joined
import Derived.SevenTiedAt
import Derived.Test.YtpbnabibnkohdaaGreatDoorCards
import Derived.Test.YtpbnabibnkohdaaGreatDoorTie
import Derived.Test.YtpbnabibnkohdaaGreatDoorGm1
import Derived.Test.YtpbnabibnkohdaaGreatDoorGm2
import Derived.Test.YtpbnabibnkohdaaGreatDoorGm3
import Derived.Test.YtpbnabibnkohdaaGreatDoorGm4
import Derived.Test.YtpbnabibnkohdaaGreatDoorGm5
import Derived.Test.YtpbnabibnkohdaaGreatDoorGm6
import Derived.Test.YtpbnabibnkohdaaGreatDoorGm7
import Derived.Test.YtpbnabibnkohdaaGreatDoorGm8
import Derived.ShutString
import Derived.ChangeOld
import Derived.Below
namespace Go.Proofs.YtpbnabibnkohdaaGreatDoor.topTriangles
open Go.ChangeShapes Go.WideShapes Go.ChangeAt Go.RowKit Wo
open Go.ChangeMaps (open_string shut_string)
set_option linter.unusedVariables false

theorem own : ownKnob Tryz.prog.godebug = none := by kernel_rfl
theorem laidOut : laidOutB Tryz.prog = true := by kernel_rfl

/-- WHAT THE WALK IS TOLD OF A SLICE OF INTEGERS THAT CAME IN: it is nil; or it leads to a row of 'cap' cells, the numbers 'zs' (the first 'len' are its elements, the rest its spare room), each fitting its kind. -/
def IsRow (k : IntKind) (w : World) (a : Option Addr) (len cap : Nat) (zs : List Int) : Prop :=
  (a = none ∧ len = 0 ∧ cap = 0 ∧ zs = []) ∨
  ∃ x, a = some x ∧ len ≤ cap ∧ cap ≤ maxLen ∧ zs.length = cap ∧ (∀ i, i < zs.length → w.cell? (x.add i) = some (.int k (zs.getD i 0))) ∧ ∀ n ∈ zs, (Lit.int k n).wf = true

open Go.Proofs.YtpbnabibnkohdaaGreatDoor.Ms Go.Proofs.YtpbnabibnkohdaaGreatDoor.Wi Go.Proofs.YtpbnabibnkohdaaGreatDoor.Wo Go.Proofs.YtpbnabibnkohdaaGreatDoor.Sr Go.Proofs.YtpbnabibnkohdaaGreatDoor.Ra Go.Proofs.YtpbnabibnkohdaaGreatDoor.Tp in
set_option maxHeartbeats 16000000 in
set_option maxRecDepth 100000 in
theorem walk (a0 : Option Addr) (len0 cap0 : Nat) (z0 : List Int) (w : World) (hL : Tp.Lt w) (w0 : IsRow .i64 w a0 len0 cap0 z0) :
    Calls Tryz.prog 5 #[.slice a0 len0 cap0] w fun e w' => e = .returned (.bool true) ∧ Below w.heap.size w w' := by
  have AW : Hid (∀ W, Bel w W → Calls Tryz.prog 13 #[] W fun e w' => e = .returned (.bool true) ∧ Bel W w') := fun W hW => running_any W (Un.Pows.bel hL hW)
  clear hL
  go_enter Tryz.func5, Tryz.ntmps5
  go_wp2_with fail
  go_at_call 6
  refine (new_any a0 len0 cap0 z0 w w0).mono ?_
  rintro e v0 ⟨q, rfl, hq, ho1, hb1⟩
  have HO0 := Lib.hid ho1
  have HBa : Hid (Bel w v0) := hb1
  clear ho1 hb1
  go_wp2_with fail
  go_at_call 14
  refine (measure_any q _ HO0.out).mono ?_
  rintro e um ⟨k, b, g, rfl, hmv, ho, hc⟩
  have HBm : Hid (Bel w um) := Bel.ch HBa.out hc (by have := hq; omega)
  have QL : q < um.heap.size := ho.lt
  have hv1u : v0.heap.size ≤ um.heap.size := hc.sz
  have HMV := Lib.hid hmv
  obtain ⟨v1, hv1⟩ : ∃ v1, um.alloc (.cells #[.int .i64 k, .int .i64 b, .int .i64 g] 38) = v1 := ⟨_, rfl⟩
  have HO1 : Hid (Ok v1 q) := by show Ok v1 q; rw [← hv1]; exact ho.bel (Bel.rf.al _)
  have HK1 : Hid (Bk v1 um.heap.size 38 #[.int .i64 k, .int .i64 b, .int .i64 g]) := by show Bk v1 _ _ _; rw [← hv1]; exact Bk.nw _ _ _
  have HB1 : Hid (Bel w v1) := by show Bel w v1; rw [← hv1]; exact HBm.out.al _
  have sz1 : v1.heap.size = um.heap.size + 1 := by rw [← hv1]; simp
  have HV1 := Lib.hid hv1
  clear ho hc hmv hv1
  go_wp2_with fail
  rw [HV1.out]
  go_at_call 7
  refine (pair_any q _ HO1.out).mono ?_
  rintro e v2 ⟨xa, xb, ya, yb, n, L, M, rfl, n1, n2, hxy, hox, hoy, lL, lM, sL, sM, ho2, hc2⟩
  have HO2 := Lib.hid ho2
  have HC2 := Lib.hid hc2
  have HOX := Lib.hid hox
  have HOY := Lib.hid hoy
  have HK2 := Lib.hid (hc2.bk HK1.out (by omega))
  have hgv := HO1.out.lt
  have hxv := (hox.lt xa rfl)
  have hyv := (hoy.lt ya rfl)
  have ni1 : 2 ≤ (n : Int) := by omega
  have ni2 : (n : Int) ≤ 32 := by omega
  have HLL := Lib.hid (And.intro lL (And.intro lM (And.intro sL sM)))
  clear ho2 hc2 hox hoy lL lM sL sM
  go_wp2_with fail
  go_at_call 8
  refine (near_any q (some ⟨xa, 0, none⟩) xb n L (by omega) (by omega) HLL.out.2.2.1 _ HO2.out (own_zi HOX.out HLL.out.1) (fun ad e => by cases e; show xa ≠ q; omega)).mono ?_
  rintro e v3 ⟨vz, N, rfl, hoz, lN, sN, ho3, hc3⟩
  obtain ⟨za, zb, rfl, hzc, hzb⟩ := row_form hoz (by omega)
  have HB3 : Hid (Bel w v3) := Bel.ch (Bel.ch HB1.out HC2.out hq) hc3 hq
  have HX3 := Lib.hid (own_ch HOX.out hc3 hgv)
  have HY3 := Lib.hid (own_ch HOY.out hc3 hgv)
  have HZ3 := Lib.hid hoz
  have HK3 := Lib.hid (hc3.bk HK2.out (by omega))
  have HLN := Lib.hid (And.intro lN sN)
  have hyv3 := hyv.2
  have hyl := hyv.1
  clear ho3 hc3 hoz lN sN HOX HOY
  have hxz : xa ≠ za := by omega
  have hyz : ya ≠ za := by omega
  have hxy2 : xa ≠ ya := by omega
  have hwv := HB1.out.size
  have hw1 : w.heap.size ≤ xa := by omega
  have hw2 : w.heap.size ≤ ya := by omega
  have hw3 : w.heap.size ≤ za := by omega
  have HNE := Lib.hid (And.intro hxz (And.intro hyz (And.intro hxy2 (And.intro hw1 (And.intro hw2 hw3)))))
  have HR0 : Hid (RI L M N n xa xb ya yb za zb v1.heap.size v2.heap.size w (.int .i64 0) v3) := ⟨0, _, rfl, by omega, rfl, by simpa [mixf] using HX3.out, by simpa [mixf] using HY3.out, by simpa [mixf] using HZ3.out, HB3.out⟩
  have HMX : Hid (um.heap.size < xa ∧ um.heap.size < ya ∧ um.heap.size < za) := ⟨by omega, by omega, by omega⟩
  clear HX3 HY3 HZ3 hxz hyz hxy hxy2 hw1 hw2 hw3 hwv hxv hyv hyv3 hyl hzc hzb hgv
  go_wp2
  go_loopw [33] (fun s34 wr => RI L M N n xa xb ya yb za zb v1.heap.size v2.heap.size w s34 wr ∧ Bk wr um.heap.size 38 #[.int .i64 k, .int .i64 b, .int .i64 g]) (fun s34 _ => n - (intOf s34).toNat)
  case atStart => exact ⟨HR0.out, HK3.out⟩
  case round =>
    clear HR0
    obtain ⟨⟨t, wr, hwr, ht, rfl, hx, hy, hz, hb⟩, hkm⟩ := hrel
    subst hwr
    have HX := Lib.hid hx
    have HY := Lib.hid hy
    have HZ := Lib.hid hz
    have HB := Lib.hid hb
    have HKM := Lib.hid hkm
    clear hkm
    rcases Nat.lt_or_ge t n with hlt | hge
    · have c1 := (own_zi hx (by rw [mixf_len]; exact HLL.out.1)).at t hlt
      have c2 := (own_zi hy (by rw [mixf_len]; exact HLL.out.2.1)).at t hlt
      have c3 := (own_zi hz (by rw [mixf_len]; exact HLN.out.1)).at t hlt
      rw [mixf_at L t (by have := HLL.out.1; omega)] at c1
      rw [mixf_at M t (by have := HLL.out.2.1; omega)] at c2
      rw [mixf_at N t (by have := HLN.out.1; omega)] at c3
      have f1 := own_fr hx t
      have f2 := own_fr hy t
      have f3 := own_fr hz t
      have p1 := HLL.out.2.2.1.at t
      have p2 := HLL.out.2.2.2.at t
      have p3 := HLN.out.2.at t
      obtain ⟨u1, hu1⟩ : ∃ u, L.getD t 0 = u := ⟨_, rfl⟩
      obtain ⟨u2, hu2⟩ : ∃ u, M.getD t 0 = u := ⟨_, rfl⟩
      obtain ⟨u3, hu3⟩ : ∃ u, N.getD t 0 = u := ⟨_, rfl⟩
      rw [hu1] at c1 p1
      rw [hu2] at c2 p2
      rw [hu3] at c3 p3
      have q1 := fth_in p1.1 p1.2
      have q2 := fth_in p2.1 p2.2
      have q3 := fth_in p3.1 p3.2
      obtain ⟨y1, hy1⟩ : ∃ u, fth u1 = u := ⟨_, rfl⟩
      obtain ⟨y2, hy2⟩ : ∃ u, fth u2 = u := ⟨_, rfl⟩
      obtain ⟨y3, hy3⟩ : ∃ u, fth u3 = u := ⟨_, rfl⟩
      have d1 : u1.tdiv 5 = y1 := hy1
      have d2 : u2.tdiv 5 = y2 := hy2
      have d3 : u3.tdiv 5 = y3 := hy3
      rw [hy1] at q1
      rw [hy2] at q2
      rw [hy3] at q3
      have w1 : IntKind.i64.wrap y1 = y1 := IntWalk.i64_in _ (by omega)
      have w2 : IntKind.i64.wrap y2 = y2 := IntWalk.i64_in _ (by omega)
      have w3 : IntKind.i64.wrap y3 = y3 := IntWalk.i64_in _ (by omega)
      have HYS : Hid (fth (L.getD t 0) = y1 ∧ fth (M.getD t 0) = y2 ∧ fth (N.getD t 0) = y3) := ⟨by rw [hu1, hy1], by rw [hu2, hy2], by rw [hu3, hy3]⟩
      have n1 : xa ≠ ya := HNE.out.2.2.1
      have n2 : xa ≠ za := HNE.out.1
      have n3 : ya ≠ za := HNE.out.2.1
      have ti : (t : Int) < (n : Int) := by omega
      have hst := ri_step (wr := wr) hlt HLL.out.1 HLL.out.2.1 HLN.out.1 n1 n2 n3 HNE.out.2.2.2.1 HNE.out.2.2.2.2.1 HNE.out.2.2.2.2.2 HYS.out.1 HYS.out.2.1 HYS.out.2.2 HX.out HY.out HZ.out HB.out
      have HST : Hid (RI L M N n xa xb ya yb za zb v1.heap.size v2.heap.size w (.int .i64 ((t : Int) + 1)) (((wr.setCell ⟨xa, t, none⟩ (.int .i64 y1)).setCell ⟨ya, t, none⟩ (.int .i64 y2)).setCell ⟨za, t, none⟩ (.int .i64 y3)) ∧ Bk (((wr.setCell ⟨xa, t, none⟩ (.int .i64 y1)).setCell ⟨ya, t, none⟩ (.int .i64 y2)).setCell ⟨za, t, none⟩ (.int .i64 y3)) um.heap.size 38 #[.int .i64 k, .int .i64 b, .int .i64 g]) := ⟨hst, ((HKM.out.far (show um.heap.size ≠ xa by have := HMX.out; omega) _).far (show um.heap.size ≠ ya by have := HMX.out; omega) _).far (show um.heap.size ≠ za by have := HMX.out; omega) _⟩
      clear hx hy hz hb hu1 hu2 hu3 hy1 hy2 hy3 hst q1 q2 q3 p1 p2 p3
      go_wp2
      go_region
      all_goals
        go_wp2
        go_roundw
        case rel => first | exact HST.out | exact ⟨HST.out.1.drwN _, HST.out.2.drwN _⟩ | exact ⟨HST.out.1.drwN 1, HST.out.2.drwN 1⟩
        case measure => simp [intOf]; omega
    · obtain rfl : t = n := by omega
      have eX := mixf_all L t HLL.out.1
      have eY := mixf_all M t HLL.out.2.1
      have eZ := mixf_all N t HLN.out.1
      rw [eX] at hx
      rw [eY] at hy
      rw [eZ] at hz
      have sP := fth_sam HLL.out.2.2.1
      have sQ := fth_sam HLL.out.2.2.2
      have sR := fth_sam HLN.out.2
      have bP := fth_bd HLL.out.2.2.1
      have bQ := fth_bd HLL.out.2.2.2
      have bR := fth_bd HLN.out.2
      obtain ⟨P, hP⟩ : ∃ P, L.map fth = P := ⟨_, rfl⟩
      obtain ⟨Q, hQ⟩ : ∃ P, M.map fth = P := ⟨_, rfl⟩
      obtain ⟨R, hR⟩ : ∃ P, N.map fth = P := ⟨_, rfl⟩
      rw [hP] at hx sP bP
      rw [hQ] at hy sQ bQ
      rw [hR] at hz sR bR
      have lP : P.length = t := by rw [← hP]; simpa using HLL.out.1
      have lQ : Q.length = t := by rw [← hQ]; simpa using HLL.out.2.1
      have lR : R.length = t := by rw [← hR]; simpa using HLN.out.1
      have zx := own_zi hx lP
      have zy := own_zi hy lQ
      have zz := own_zi hz lR
      have bd := fun (X Y : List Int) (bX : Bd 200 X) (bY : Bd 200 Y) (lX : X.length = t) (lY : Y.length = t) => tv_bd (k := k) (g := g) n1 n2 bX bY lX lY (mv_g HMV.out).1 (mv_g HMV.out).2
      have D1 : Hid (∀ W, Bel wr W → _) := fun W hW => dist_any k b g HMV.out (some ⟨xa, 0, none⟩) (some ⟨ya, 0, none⟩) xb yb t t P Q (Fit.one t HMV.out) n1 n2 n1 n2 sP sQ W (zx.bel hW) (zy.bel hW)
      have D2 : Hid (∀ W, Bel wr W → _) := fun W hW => dist_any k b g HMV.out (some ⟨ya, 0, none⟩) (some ⟨za, 0, none⟩) yb zb t t Q R (Fit.one t HMV.out) n1 n2 n1 n2 sQ sR W (zy.bel hW) (zz.bel hW)
      have D3 : Hid (∀ W, Bel wr W → _) := fun W hW => dist_any k b g HMV.out (some ⟨xa, 0, none⟩) (some ⟨za, 0, none⟩) xb zb t t P R (Fit.one t HMV.out) n1 n2 n1 n2 sP sR W (zx.bel hW) (zz.bel hW)
      have r1 := md_rv HMV.out (Fit.one t HMV.out) n1 n2 n1 n2 lP lQ sP sQ
      have r2 := md_rv HMV.out (Fit.one t HMV.out) n1 n2 n1 n2 lQ lR sQ sR
      have r3 := md_rv HMV.out (Fit.one t HMV.out) n1 n2 n1 n2 lP lR sP sR
      have VA : Hid (∀ W, _) := fun W => valid_yes r1 W
      have VB : Hid (∀ W, _) := fun W => valid_yes r2 W
      have VC : Hid (∀ W, _) := fun W => valid_yes r3 W
      have HVAL : Hid (k ≠ 3 ∧ k ≠ 4 → _) := fun hk => And.intro (md_val HMV.out hk n1 n2 lP lQ) (And.intro (md_val HMV.out hk n1 n2 lQ lR) (And.intro (md_val HMV.out hk n1 n2 lP lR) (And.intro (tri_any HMV.out hk n1 lP lQ lR) (And.intro (bd P Q bP bQ lP lQ) (And.intro (bd Q R bQ bR lQ lR) (bd P R bP bR lP lR))))))
      have p1 := r1.1.2.2.1
      have p2 := r2.1.2.2.1
      have p3 := r3.1.2.2.1
      have HP2 := Lib.hid (And.intro hP (And.intro hQ hR))
      have HBw : Hid (Bel w wr) := hb
      clear hx hy hz eX eY eZ sP sQ sR bP bQ bR hP hQ hR lP lQ lR zx zy zz hb HX HY HZ bd r1 r2 r3 HB
      obtain ⟨T1, hT1⟩ : ∃ T, md k b g t t P Q = T := ⟨_, rfl⟩
      obtain ⟨T2, hT2⟩ : ∃ T, md k b g t t Q R = T := ⟨_, rfl⟩
      obtain ⟨T3, hT3⟩ : ∃ T, md k b g t t P R = T := ⟨_, rfl⟩
      rw [hT1] at D1 VA HVAL p1
      rw [hT2] at D2 VB HVAL p2
      rw [hT3] at D3 VC HVAL p3
      obtain ⟨a1, a2⟩ := T1
      obtain ⟨b1, b2⟩ := T2
      obtain ⟨c1, c2⟩ := T3
      clear hT1 hT2 hT3
      have kA := HKM.out
      have k0 : wr.cell? ⟨um.heap.size, 0, none⟩ = some (.int .i64 k) := kA.cell 0
      have k1 : wr.cell? ⟨um.heap.size, 1, none⟩ = some (.int .i64 b) := kA.cell 1
      have k2 : wr.cell? ⟨um.heap.size, 2, none⟩ = some (.int .i64 g) := kA.cell 2
      have lk := kA.lt
      clear kA
      have HB : Hid (Bel wr wr) := Bel.rf
      have HKM' : Hid (Bk wr um.heap.size 38 #[.int .i64 k, .int .i64 b, .int .i64 g]) := HKM.out
      clear HKM
      have HKM := HKM'
      clear HKM'
      go_wp2_with fail
      go_at_call 16
      refine (D1.out _ HB.out).mono ?_
      rintro e v5 ⟨rfl, hb⟩
      have HBa : Hid (Bel wr v5) := HB.out.tr hb
      have KM : Bk v5 um.heap.size 38 #[.int .i64 k, .int .i64 b, .int .i64 g] := HKM.out.bel hb
      have cM0 : v5.cell? ⟨um.heap.size, 0, none⟩ = some (.int .i64 k) := KM.cell 0
      have cM1 : v5.cell? ⟨um.heap.size, 1, none⟩ = some (.int .i64 b) := KM.cell 1
      have cM2 : v5.cell? ⟨um.heap.size, 2, none⟩ = some (.int .i64 g) := KM.cell 2
      have lM := KM.lt
      replace HB : Hid (Bel wr (v5.alloc (.cells #[.int .i64 a1, .int .i64 a2] 42))) := HBa.out.al _
      replace HKM : Hid (Bk (v5.alloc (.cells #[.int .i64 a1, .int .i64 a2] 42)) um.heap.size 38 #[.int .i64 k, .int .i64 b, .int .i64 g]) := KM.al _
      have HKA : Hid (Bk (v5.alloc (.cells #[.int .i64 a1, .int .i64 a2] 42)) v5.heap.size 42 #[.int .i64 a1, .int .i64 a2]) := Bk.nw _ _ _
      clear hb HBa KM
      go_wp2_with fail
      go_at_call 16
      refine (D2.out _ HB.out).mono ?_
      rintro e v6 ⟨rfl, hb⟩
      have HBa : Hid (Bel wr v6) := HB.out.tr hb
      have KM : Bk v6 um.heap.size 38 #[.int .i64 k, .int .i64 b, .int .i64 g] := HKM.out.bel hb
      have cM0 : v6.cell? ⟨um.heap.size, 0, none⟩ = some (.int .i64 k) := KM.cell 0
      have cM1 : v6.cell? ⟨um.heap.size, 1, none⟩ = some (.int .i64 b) := KM.cell 1
      have cM2 : v6.cell? ⟨um.heap.size, 2, none⟩ = some (.int .i64 g) := KM.cell 2
      have lM := KM.lt
      have KA : Bk v6 v5.heap.size 42 #[.int .i64 a1, .int .i64 a2] := HKA.out.bel hb
      have cA0 : v6.cell? ⟨v5.heap.size, 0, none⟩ = some (.int .i64 a1) := KA.cell 0
      have cA1 : v6.cell? ⟨v5.heap.size, 1, none⟩ = some (.int .i64 a2) := KA.cell 1
      have lA := KA.lt
      replace HB : Hid (Bel wr (v6.alloc (.cells #[.int .i64 b1, .int .i64 b2] 42))) := HBa.out.al _
      replace HKM : Hid (Bk (v6.alloc (.cells #[.int .i64 b1, .int .i64 b2] 42)) um.heap.size 38 #[.int .i64 k, .int .i64 b, .int .i64 g]) := KM.al _
      replace HKA : Hid (Bk (v6.alloc (.cells #[.int .i64 b1, .int .i64 b2] 42)) v5.heap.size 42 #[.int .i64 a1, .int .i64 a2]) := KA.al _
      have HKB : Hid (Bk (v6.alloc (.cells #[.int .i64 b1, .int .i64 b2] 42)) v6.heap.size 42 #[.int .i64 b1, .int .i64 b2]) := Bk.nw _ _ _
      clear hb HBa KM KA
      go_wp2_with fail
      go_at_call 16
      refine (D3.out _ HB.out).mono ?_
      rintro e v7 ⟨rfl, hb⟩
      have HBa : Hid (Bel wr v7) := HB.out.tr hb
      have KM : Bk v7 um.heap.size 38 #[.int .i64 k, .int .i64 b, .int .i64 g] := HKM.out.bel hb
      have cM0 : v7.cell? ⟨um.heap.size, 0, none⟩ = some (.int .i64 k) := KM.cell 0
      have cM1 : v7.cell? ⟨um.heap.size, 1, none⟩ = some (.int .i64 b) := KM.cell 1
      have cM2 : v7.cell? ⟨um.heap.size, 2, none⟩ = some (.int .i64 g) := KM.cell 2
      have lM := KM.lt
      have KA : Bk v7 v5.heap.size 42 #[.int .i64 a1, .int .i64 a2] := HKA.out.bel hb
      have cA0 : v7.cell? ⟨v5.heap.size, 0, none⟩ = some (.int .i64 a1) := KA.cell 0
      have cA1 : v7.cell? ⟨v5.heap.size, 1, none⟩ = some (.int .i64 a2) := KA.cell 1
      have lA := KA.lt
      have KB : Bk v7 v6.heap.size 42 #[.int .i64 b1, .int .i64 b2] := HKB.out.bel hb
      have cB0 : v7.cell? ⟨v6.heap.size, 0, none⟩ = some (.int .i64 b1) := KB.cell 0
      have cB1 : v7.cell? ⟨v6.heap.size, 1, none⟩ = some (.int .i64 b2) := KB.cell 1
      have lB := KB.lt
      replace HB : Hid (Bel wr (v7.alloc (.cells #[.int .i64 c1, .int .i64 c2] 42))) := HBa.out.al _
      replace HKM : Hid (Bk (v7.alloc (.cells #[.int .i64 c1, .int .i64 c2] 42)) um.heap.size 38 #[.int .i64 k, .int .i64 b, .int .i64 g]) := KM.al _
      replace HKA : Hid (Bk (v7.alloc (.cells #[.int .i64 c1, .int .i64 c2] 42)) v5.heap.size 42 #[.int .i64 a1, .int .i64 a2]) := KA.al _
      replace HKB : Hid (Bk (v7.alloc (.cells #[.int .i64 c1, .int .i64 c2] 42)) v6.heap.size 42 #[.int .i64 b1, .int .i64 b2]) := KB.al _
      have HKC : Hid (Bk (v7.alloc (.cells #[.int .i64 c1, .int .i64 c2] 42)) v7.heap.size 42 #[.int .i64 c1, .int .i64 c2]) := Bk.nw _ _ _
      clear hb HBa KM KA KB
      go_wp2_with fail
      go_at_call 17
      refine (VA.out _).mono ?_
      rintro e v8 ⟨rfl, hb⟩
      have HBa : Hid (Bel wr v8) := HB.out.tr hb
      have KM : Bk v8 um.heap.size 38 #[.int .i64 k, .int .i64 b, .int .i64 g] := HKM.out.bel hb
      have cM0 : v8.cell? ⟨um.heap.size, 0, none⟩ = some (.int .i64 k) := KM.cell 0
      have cM1 : v8.cell? ⟨um.heap.size, 1, none⟩ = some (.int .i64 b) := KM.cell 1
      have cM2 : v8.cell? ⟨um.heap.size, 2, none⟩ = some (.int .i64 g) := KM.cell 2
      have lM := KM.lt
      have KA : Bk v8 v5.heap.size 42 #[.int .i64 a1, .int .i64 a2] := HKA.out.bel hb
      have cA0 : v8.cell? ⟨v5.heap.size, 0, none⟩ = some (.int .i64 a1) := KA.cell 0
      have cA1 : v8.cell? ⟨v5.heap.size, 1, none⟩ = some (.int .i64 a2) := KA.cell 1
      have lA := KA.lt
      have KB : Bk v8 v6.heap.size 42 #[.int .i64 b1, .int .i64 b2] := HKB.out.bel hb
      have cB0 : v8.cell? ⟨v6.heap.size, 0, none⟩ = some (.int .i64 b1) := KB.cell 0
      have cB1 : v8.cell? ⟨v6.heap.size, 1, none⟩ = some (.int .i64 b2) := KB.cell 1
      have lB := KB.lt
      have KC : Bk v8 v7.heap.size 42 #[.int .i64 c1, .int .i64 c2] := HKC.out.bel hb
      have cC0 : v8.cell? ⟨v7.heap.size, 0, none⟩ = some (.int .i64 c1) := KC.cell 0
      have cC1 : v8.cell? ⟨v7.heap.size, 1, none⟩ = some (.int .i64 c2) := KC.cell 1
      have lC := KC.lt
      replace HB : Hid (Bel wr v8) := HBa.out
      replace HKM : Hid (Bk v8 um.heap.size 38 #[.int .i64 k, .int .i64 b, .int .i64 g]) := KM
      replace HKA : Hid (Bk v8 v5.heap.size 42 #[.int .i64 a1, .int .i64 a2]) := KA
      replace HKB : Hid (Bk v8 v6.heap.size 42 #[.int .i64 b1, .int .i64 b2]) := KB
      replace HKC : Hid (Bk v8 v7.heap.size 42 #[.int .i64 c1, .int .i64 c2]) := KC
      clear hb HBa KM KA KB KC
      go_wp2_with fail
      go_at_call 17
      refine (VB.out _).mono ?_
      rintro e v9 ⟨rfl, hb⟩
      have HBa : Hid (Bel wr v9) := HB.out.tr hb
      have KM : Bk v9 um.heap.size 38 #[.int .i64 k, .int .i64 b, .int .i64 g] := HKM.out.bel hb
      have cM0 : v9.cell? ⟨um.heap.size, 0, none⟩ = some (.int .i64 k) := KM.cell 0
      have cM1 : v9.cell? ⟨um.heap.size, 1, none⟩ = some (.int .i64 b) := KM.cell 1
      have cM2 : v9.cell? ⟨um.heap.size, 2, none⟩ = some (.int .i64 g) := KM.cell 2
      have lM := KM.lt
      have KA : Bk v9 v5.heap.size 42 #[.int .i64 a1, .int .i64 a2] := HKA.out.bel hb
      have cA0 : v9.cell? ⟨v5.heap.size, 0, none⟩ = some (.int .i64 a1) := KA.cell 0
      have cA1 : v9.cell? ⟨v5.heap.size, 1, none⟩ = some (.int .i64 a2) := KA.cell 1
      have lA := KA.lt
      have KB : Bk v9 v6.heap.size 42 #[.int .i64 b1, .int .i64 b2] := HKB.out.bel hb
      have cB0 : v9.cell? ⟨v6.heap.size, 0, none⟩ = some (.int .i64 b1) := KB.cell 0
      have cB1 : v9.cell? ⟨v6.heap.size, 1, none⟩ = some (.int .i64 b2) := KB.cell 1
      have lB := KB.lt
      have KC : Bk v9 v7.heap.size 42 #[.int .i64 c1, .int .i64 c2] := HKC.out.bel hb
      have cC0 : v9.cell? ⟨v7.heap.size, 0, none⟩ = some (.int .i64 c1) := KC.cell 0
      have cC1 : v9.cell? ⟨v7.heap.size, 1, none⟩ = some (.int .i64 c2) := KC.cell 1
      have lC := KC.lt
      replace HB : Hid (Bel wr v9) := HBa.out
      replace HKM : Hid (Bk v9 um.heap.size 38 #[.int .i64 k, .int .i64 b, .int .i64 g]) := KM
      replace HKA : Hid (Bk v9 v5.heap.size 42 #[.int .i64 a1, .int .i64 a2]) := KA
      replace HKB : Hid (Bk v9 v6.heap.size 42 #[.int .i64 b1, .int .i64 b2]) := KB
      replace HKC : Hid (Bk v9 v7.heap.size 42 #[.int .i64 c1, .int .i64 c2]) := KC
      clear hb HBa KM KA KB KC
      go_wp2_with fail
      go_at_call 17
      refine (VC.out _).mono ?_
      rintro e v10 ⟨rfl, hb⟩
      have HBa : Hid (Bel wr v10) := HB.out.tr hb
      have KM : Bk v10 um.heap.size 38 #[.int .i64 k, .int .i64 b, .int .i64 g] := HKM.out.bel hb
      have cM0 : v10.cell? ⟨um.heap.size, 0, none⟩ = some (.int .i64 k) := KM.cell 0
      have cM1 : v10.cell? ⟨um.heap.size, 1, none⟩ = some (.int .i64 b) := KM.cell 1
      have cM2 : v10.cell? ⟨um.heap.size, 2, none⟩ = some (.int .i64 g) := KM.cell 2
      have lM := KM.lt
      have KA : Bk v10 v5.heap.size 42 #[.int .i64 a1, .int .i64 a2] := HKA.out.bel hb
      have cA0 : v10.cell? ⟨v5.heap.size, 0, none⟩ = some (.int .i64 a1) := KA.cell 0
      have cA1 : v10.cell? ⟨v5.heap.size, 1, none⟩ = some (.int .i64 a2) := KA.cell 1
      have lA := KA.lt
      have KB : Bk v10 v6.heap.size 42 #[.int .i64 b1, .int .i64 b2] := HKB.out.bel hb
      have cB0 : v10.cell? ⟨v6.heap.size, 0, none⟩ = some (.int .i64 b1) := KB.cell 0
      have cB1 : v10.cell? ⟨v6.heap.size, 1, none⟩ = some (.int .i64 b2) := KB.cell 1
      have lB := KB.lt
      have KC : Bk v10 v7.heap.size 42 #[.int .i64 c1, .int .i64 c2] := HKC.out.bel hb
      have cC0 : v10.cell? ⟨v7.heap.size, 0, none⟩ = some (.int .i64 c1) := KC.cell 0
      have cC1 : v10.cell? ⟨v7.heap.size, 1, none⟩ = some (.int .i64 c2) := KC.cell 1
      have lC := KC.lt
      replace HB : Hid (Bel wr v10) := HBa.out
      replace HKM : Hid (Bk v10 um.heap.size 38 #[.int .i64 k, .int .i64 b, .int .i64 g]) := KM
      replace HKA : Hid (Bk v10 v5.heap.size 42 #[.int .i64 a1, .int .i64 a2]) := KA
      replace HKB : Hid (Bk v10 v6.heap.size 42 #[.int .i64 b1, .int .i64 b2]) := KB
      replace HKC : Hid (Bk v10 v7.heap.size 42 #[.int .i64 c1, .int .i64 c2]) := KC
      clear hb HBa KM KA KB KC
      rcases Classical.em (k = 3 ∨ k = 4) with hk | hk
      · rcases Classical.em (k = 3) with h3 | h3
        · subst h3
          go_wp2_with (go_at_call 13; refine (AW.out _ (HBw.out.tr HB.out)).mono ?_; rintro e v11 ⟨rfl, h11⟩)
          go_ret
          exact ⟨rfl, ((HBw.out.tr HB.out).tr h11).bl⟩
        · have h4 : k = 4 := by omega
          subst h4
          go_wp2_with (go_at_call 13; refine (AW.out _ (HBw.out.tr HB.out)).mono ?_; rintro e v11 ⟨rfl, h11⟩)
          go_ret
          exact ⟨rfl, ((HBw.out.tr HB.out).tr h11).bl⟩
      · have h3 : ¬ k = 3 := by omega
        have h4 : ¬ k = 4 := by omega
        have e3 : (k == 3) = false := by simpa using h3
        have e4 : (k == 4) = false := by simpa using h4
        obtain ⟨⟨q1, r1, d1, m1, q10, q11⟩, ⟨q2, r2, d2, m2, q20, q21⟩, ⟨q3, r3, d3, m3, q30, q31⟩, tri, B1, B2, B3⟩ := HVAL.out ⟨h3, h4⟩
        obtain ⟨A, hA⟩ : ∃ x, tv k g t P Q = x := ⟨_, rfl⟩
        obtain ⟨B, hB⟩ : ∃ x, tv k g t Q R = x := ⟨_, rfl⟩
        obtain ⟨C, hC⟩ : ∃ x, tv k g t P R = x := ⟨_, rfl⟩
        rw [hA] at m1 tri B1
        rw [hB] at m2 tri B2
        rw [hC] at m3 tri B3
        obtain ⟨B10, B11⟩ := B1
        obtain ⟨B20, B21⟩ := B2
        obtain ⟨B30, B31⟩ := B3
        have w1 : IntKind.i64.wrap (a1 * q1) = A := by rw [m1]; exact IntWalk.i64_in _ (by omega)
        have w2 : IntKind.i64.wrap (b1 * q2) = B := by rw [m2]; exact IntWalk.i64_in _ (by omega)
        have w3 : IntKind.i64.wrap (c1 * q3) = C := by rw [m3]; exact IntWalk.i64_in _ (by omega)
        have w4 : IntKind.i64.wrap q1 = q1 := IntWalk.i64_in _ (by omega)
        have w5 : IntKind.i64.wrap q2 = q2 := IntWalk.i64_in _ (by omega)
        have w6 : IntKind.i64.wrap q3 = q3 := IntWalk.i64_in _ (by omega)
        have z1 : a2 ≠ 0 := by have : 1 ≤ a2 := p1; omega
        have z2 : b2 ≠ 0 := by have : 1 ≤ b2 := p2; omega
        have z3 : c2 ≠ 0 := by have : 1 ≤ c2 := p3; omega
        have HM := Lib.hid (And.intro m1 (And.intro m2 m3))
        clear m1 m2 m3 hA hB hC p1 p2 p3 h3 h4 hk
        go_wp2
        go_quiet (fail)
        clear r1 r2 r3 d1 d2 d3 w1 w2 w3 w4 w5 w6 q10 q11 q20 q21 q30 q31 z1 z2 z3
        rcases Int.lt_or_le (A + B) C with hlt | hge
        · obtain ⟨k5, sqr⟩ : k ≠ 5 ∧ (C - A - B) * (C - A - B) ≤ 4 * A * B := by
            rcases tri with h | h
            · omega
            · exact h
          have e5 : (k == 5) = false := by simpa using k5
          have e6 : (k != 5) = true := by simpa using k5
          have g1 : decide (C ≤ A + B) = false := decide_eq_false (by omega)
          obtain ⟨D, hD⟩ : ∃ x, C - A - B = x := ⟨_, rfl⟩
          rw [hD] at sqr
          have x1 := sq_bd (B := 500000000) (x := D) (by omega) (by omega)
          have x2 : 0 ≤ 4 * A * B := Int.mul_nonneg (by omega) (by omega)
          have x3 : 4 * A * B ≤ 655360000 * 163840000 := Int.mul_le_mul (by omega) (by omega) (by omega) (by omega)
          obtain ⟨DD, hDD⟩ : ∃ x, D * D = x := ⟨_, rfl⟩
          obtain ⟨F, hF⟩ : ∃ x, 4 * A = x := ⟨_, rfl⟩
          rw [hF] at sqr x2 x3
          obtain ⟨FB, hFB⟩ : ∃ x, F * B = x := ⟨_, rfl⟩
          rw [hDD] at sqr x1
          rw [hFB] at sqr x2 x3
          have y1 : wrap64 (D * D) = DD := by rw [hDD]; exact IntWalk.wrap64_in _ (by omega)
          have y2 : wrap64 F = F := IntWalk.wrap64_in _ (by omega)
          have y3 : wrap64 (F * B) = FB := by rw [hFB]; exact IntWalk.wrap64_in _ (by omega)
          have y4 : wrap64 D = D := IntWalk.wrap64_in _ (by omega)
          have HS : Hid (DD ≤ FB) := sqr
          have g2 : decide (DD ≤ FB) = true := decide_eq_true sqr
          clear tri sqr x1 x2 x3 hDD hFB
          go_wp2_with (go_at_call 13; refine (AW.out _ (HBw.out.tr (by first | exact HB.out | exact HB.out.drwN _ | exact HB.out.drw))).mono ?_; rintro e v11 ⟨rfl, h11⟩)
          go_ret
          exact ⟨rfl, ((HBw.out.tr (by first | exact HB.out | exact HB.out.drwN _ | exact HB.out.drw)).tr h11).bl⟩
        · have g1 : decide (C ≤ A + B) = true := decide_eq_true hge
          clear tri
          go_wp2_with (go_at_call 13; refine (AW.out _ (HBw.out.tr (by first | exact HB.out | exact HB.out.drwN _ | exact HB.out.drw))).mono ?_; rintro e v11 ⟨rfl, h11⟩)
          go_ret
          exact ⟨rfl, ((HBw.out.tr (by first | exact HB.out | exact HB.out.drwN _ | exact HB.out.drw)).tr h11).bl⟩

noncomputable def pinWorld (os : Os) : World := { World.doorLaid Tryz.prog 400 os with heap := (World.doorLaid Tryz.prog 400 os).heap.setIfInBounds 4 (.cells (Go.Pinned.utf8FirstZ.map fun (n : Nat) => Value.int .u8 (n : Int)).toArray 240 (0, 0)) }
theorem door_met (os : Os) (args : Array Value) : laidMetH Tryz.prog [("math/bits.deBruijn32tab", Rows.laid_math_bits_deBruijn32tab), ("math/bits.deBruijn64tab", Rows.laid_math_bits_deBruijn64tab), ("internal/strconv.uint64pow10", Rows.laid_internal_strconv_uint64pow10), ("unicode/utf8.acceptRanges", Rows.laid_unicode_utf8_acceptRanges), ("strconv.ErrRange", Rows.laid_strconv_ErrRange), ("strconv.ErrSyntax", Rows.laid_strconv_ErrSyntax), ("shapesearch/unit.powers", Rows.laid_shapesearch_unit_powers), ("unicode/utf8.first", Rows.laid_unicode_utf8_first)] ((pinWorld os).forCall (fun _ _ => 0) ⟨#[], args, []⟩).memory :=
  laidMetH_of_parts3 (fuel := 8) (laidMet_of_run' 8 (by kernel_rfl) (by kernel_rfl)) (by kernel_rfl) (by kernel_rfl)
set_option maxRecDepth 100000 in
theorem lifted (os : Os) (started : os.Started) (H : Type) (enc : TypeId × Value → H) :
    ReturnsInHanded {} Tryz.checked os 5 .any (fun w args => (Rows.topTrianglesSpec.pre enc Tryz.prog Tryz.f5 [] false w args ∧ laidMetH Tryz.prog [("math/bits.deBruijn32tab", Rows.laid_math_bits_deBruijn32tab), ("math/bits.deBruijn64tab", Rows.laid_math_bits_deBruijn64tab), ("internal/strconv.uint64pow10", Rows.laid_internal_strconv_uint64pow10), ("unicode/utf8.acceptRanges", Rows.laid_unicode_utf8_acceptRanges), ("strconv.ErrRange", Rows.laid_strconv_ErrRange), ("strconv.ErrSyntax", Rows.laid_strconv_ErrSyntax), ("shapesearch/unit.powers", Rows.laid_shapesearch_unit_powers), ("unicode/utf8.first", Rows.laid_unicode_utf8_first)] w) ∧ sizedMet enc Tryz.prog Tryz.f5 (OpenSpec.ofChange Rows.topTrianglesSpec) false w args)
      (Rows.topTrianglesSpec.post enc Tryz.prog Tryz.f5 false true false false) := by
  refine returnsInHanded_of_change_and (C := Tryz.checked) (X := fun w _ => laidMetH Tryz.prog [("math/bits.deBruijn32tab", Rows.laid_math_bits_deBruijn32tab), ("math/bits.deBruijn64tab", Rows.laid_math_bits_deBruijn64tab), ("internal/strconv.uint64pow10", Rows.laid_internal_strconv_uint64pow10), ("unicode/utf8.acceptRanges", Rows.laid_unicode_utf8_acceptRanges), ("strconv.ErrRange", Rows.laid_strconv_ErrRange), ("strconv.ErrSyntax", Rows.laid_strconv_ErrSyntax), ("shapesearch/unit.powers", Rows.laid_shapesearch_unit_powers), ("unicode/utf8.first", Rows.laid_unicode_utf8_first)] w) (fun _ _ _ hh h => h.of_heap hh) own started (by kernel_rfl) Tryz.func5
    (ChangeSpec.witness_shaped (enc := enc) (C := Tryz.checked) (os := os) (X := fun w _ => laidMetH Tryz.prog [("math/bits.deBruijn32tab", Rows.laid_math_bits_deBruijn32tab), ("math/bits.deBruijn64tab", Rows.laid_math_bits_deBruijn64tab), ("internal/strconv.uint64pow10", Rows.laid_internal_strconv_uint64pow10), ("unicode/utf8.acceptRanges", Rows.laid_unicode_utf8_acceptRanges), ("strconv.ErrRange", Rows.laid_strconv_ErrRange), ("strconv.ErrSyntax", Rows.laid_strconv_ErrSyntax), ("shapesearch/unit.powers", Rows.laid_shapesearch_unit_powers), ("unicode/utf8.first", Rows.laid_unicode_utf8_first)] w) false (pinWorld os) #[.slice none 0 0] 8 rfl (World.shaped_of_RefB (by kernel_rfl) (by kernel_rfl)) (by kernel_rfl) (by kernel_rfl) (by kernel_rfl) (door_met os _)) ?_
  intro W base args ds gs before hval0 hW _ _ hL hsz
  have hval : ∀ (j : Nat) t v, Tryz.f5.params[j]? = some t → args[j]? = some v → Value.okWide Tryz.prog W .any base t v := hval0
  have hW' := hW
  obtain ⟨p, q, hA0, hV, rfl, hfz, hnd⟩ := hW
  have hA : DataW.TrodAll enc Tryz.prog W 0 (fun _ => true) true Tryz.f5.params.toList args.toList ds p := hA0
  rw [Tryz.params5] at hA hval
  obtain ⟨v0, vs0, d0, ds0, p0, q0, hargs, rfl, rfl, h0, r0⟩ := trodAll_cons hA
  obtain ⟨rfl, rfl, rfl⟩ := trodAll_nil r0
  obtain rfl : args = #[v0] := by cases args; simp_all
  obtain ⟨rfl, rfl⟩ := trodVars_none hV
  obtain ⟨a0, len0, cap0, rfl⟩ := okWide_slice Tryz.underlying22 (hval 0 22 v0 rfl rfl)
  have k0 := h0
  have lt0 : ∀ x ∈ p0, x.block < W.heap.size := by obtain ⟨m, hm⟩ := k0; exact DataW.trod_lt m _ _ _ hm
  obtain ⟨z0, w0⟩ : ∃ zs, IsRow .i64 W a0 len0 cap0 zs := by
    obtain ⟨fuel, hf⟩ := h0
    rcases open_ints Tryz.underlying22 Tryz.underlying3 (by kernel_rfl) hf with ⟨hcs, _⟩ | ⟨x, l, c, zs, hcs, _, hl, hm, hz, _, hcell, hwz⟩
    · simp [Value.cells] at hcs
      obtain ⟨rfl, rfl, rfl⟩ := hcs
      exact ⟨[], .inl ⟨rfl, rfl, rfl, rfl⟩⟩
    · simp [Value.cells] at hcs
      obtain ⟨rfl, rfl, rfl⟩ := hcs
      exact ⟨zs, .inr ⟨_, rfl, hl, hm, by simpa using hz, hcell, hwz⟩⟩
  clear hA0 hval0
  refine (walk a0 len0 cap0 z0 W (Tp.lt_of hL) w0).mono fun e W' ⟨he, bel⟩ => ?_
  subst he
  exact ⟨_, rfl, _, _, _, [], _, [], hW', trodAll_mk1 (shut_bool Tryz.underlying4 _), (trodAll_cons_mk (Below.trod laidOut (by kernel_rfl) (of_decide_eq_true (by kernel_rfl)) k0 bel lt0) trodAll_mk0), rfl, bel.frame _, fun h => by cases h⟩

theorem over : Rows.topTrianglesRow.holds Tryz.pinned (OpenSpec.ofChange Rows.topTrianglesSpec) :=
  OpenClaim.holds_of_wide 5 Tryz.f5 rfl rfl rfl rfl rfl rfl rfl ⟨rfl, rfl, rfl, rfl, rfl⟩ rfl rfl rfl rfl rfl (by kernel_rfl) Tryz.func5 (by kernel_rfl)
    (of_decide_eq_true (by kernel_rfl)) (by unfold Func.isWrapper; first | (rw [if_pos (by decide +kernel)]; kernel_rfl) | (rw [if_neg (by decide +kernel)]; exact ⟨rfl, rfl⟩))
    (fun os started H enc _ => lifted os started H enc)

theorem proved : Rows.TopTrianglesCardSaid :=
  Claim7.holds_tied_plain_at .later [] [.data, .data, .data, .data, .sentinel, .sentinel, .data, .pinned] true (true, "b141cbc9322f80865e9265fb1d9648d696aa6cb162d7e691e33f3edc7f9f5847") true
    over (fun _ h => by cases h) (by kernel_rfl) (fun _ h => by cases h) topTriangles_row_tie rfl ⟨rfl, rfl⟩ (by kernel_rfl) rfl
    (fun f fn hf hfn => by
      obtain rfl : f = 5 := Option.some.inj ((show Tryz.prog.funcNamed "shapesearch/shapesearchtop.TopTriangles" = some 5 by kernel_rfl).symm.trans hf) |>.symm
      obtain rfl : fn = Tryz.f5 := (Option.some.inj (Tryz.func5.symm.trans hfn)).symm
      exact ⟨by kernel_rfl, fun j t ht => by
        rw [Tryz.params5] at ht
        have hm : t ∈ [22] := by simpa using Array.mem_of_getElem? ht
        have hall : ([22].all fun u => !Tryz.prog.wantsStandIn u) = true := by kernel_rfl
        exact (show Tryz.prog.wantsStandIn t = false by simpa using List.all_eq_true.1 hall t hm)⟩)
    (by kernel_rfl)
end Go.Proofs.YtpbnabibnkohdaaGreatDoor.topTriangles
