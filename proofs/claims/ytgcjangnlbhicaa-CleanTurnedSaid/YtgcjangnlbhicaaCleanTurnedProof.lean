/- That the law CleanTurned returns true for every input that can be read, and leaves its arguments as they were; no further condition. -/
import Derived.Test.YtgcjangnlbhicaaRows
import Derived.WalkKit
import Derived.ProofKit
import Derived.OpenShut
import Derived.Test.YtgcjangnlbhicaaWords
import Derived.Test.YtgcjangnlbhicaaSrcNew0
import Derived.Test.YtgcjangnlbhicaaStC
import Derived.ShutString
import Derived.ChangeOld
import Derived.Below
namespace Go.Proofs.Ytgcjangnlbhicaa.cleanTurned
open Go.ChangeShapes Go.WideShapes Go.ChangeAt Go.RowKit Wo
open Go.ChangeMaps (open_string shut_string)
set_option linter.unusedVariables false

theorem own : ownKnob Try.prog.godebug = none := by kernel_rfl
theorem laidOut : laidOutB Try.prog = true := by kernel_rfl

/-- WHAT THE WALK IS TOLD OF A SLICE OF INTEGERS THAT CAME IN: it is nil; or it leads to a row of 'cap' cells, the numbers 'zs' (the first 'len' are its elements, the rest its spare room), each fitting its kind. -/
def IsRow (k : IntKind) (w : World) (a : Option Addr) (len cap : Nat) (zs : List Int) : Prop :=
  (a = none ∧ len = 0 ∧ cap = 0 ∧ zs = []) ∨
  ∃ x, a = some x ∧ len ≤ cap ∧ cap ≤ maxLen ∧ zs.length = cap ∧ (∀ i, i < zs.length → w.cell? (x.add i) = some (.int k (zs.getD i 0))) ∧ ∀ n ∈ zs, (Lit.int k n).wf = true

open Go.Proofs.Ytgcjangnlbhicaa.St Go.Proofs.Ytgcjangnlbhicaa.Pk Go.Proofs.Ytgcjangnlbhicaa.Rg Go.Proofs.Ytgcjangnlbhicaa.Rm Go.Proofs.Ytgcjangnlbhicaa.Wi Go.Proofs.Ytgcjangnlbhicaa.Wo Go.Proofs.Ytgcjangnlbhicaa.Sr in
set_option maxHeartbeats 8000000 in
set_option maxRecDepth 100000 in
set_option linter.unusedSimpArgs false in
theorem walk (a0 : Option Addr) (len0 cap0 : Nat) (z0 : List Int) (a1 : Int) (a2 : Int) (w : World) (w0 : IsRow .i64 w a0 len0 cap0 z0) (w1 : (Lit.int .u8 a1).wf = true) (w2 : (Lit.int .u8 a2).wf = true) :
    Calls Try.prog 3 #[.slice a0 len0 cap0, .int .u8 a1, .int .u8 a2] w fun e w' => e = .returned (.bool true) ∧ Below w.heap.size w w' := by
  obtain ⟨p0, p1⟩ := bounds_u8 w1
  obtain ⟨q0, q1⟩ := bounds_u8 w2
  obtain ⟨T, rfl⟩ := Int.eq_ofNat_of_zero_le p0
  obtain ⟨Q, hQ⟩ : ∃ x, a2.tmod 3 = x := ⟨_, rfl⟩
  have Q0 : 0 ≤ Q := by rw [← hQ]; exact Int.tmod_nonneg 3 q0
  have Q2 : Q ≤ 2 := by have := Int.tmod_lt_of_pos a2 (b := 3) (by decide); omega
  have wa1 : IntKind.i64.wrap (T : Int) = (T : Int) := IntWalk.i64_in _ (by omega)
  have wa2 : IntKind.i64.wrap a2 = a2 := IntWalk.i64_in _ (by omega)
  clear w1 w2
  have AW : Hid (∀ W, Calls Try.prog 12 #[] W fun e w' => e = .returned (.bool true) ∧ Bel W w') := awake_any
  go_enter Try.func3, Try.ntmps3
  go_wp2_with fail
  go_at_call 8
  refine (new_any a0 len0 cap0 z0 w w0).mono ?_
  rintro e v1 ⟨g, rfl, hg, ho1, hb1⟩
  have HO1 := Lib.hid ho1
  have HB1 := Lib.hid hb1
  clear ho1 hb1 w0
  go_wp2_with fail
  go_at_call 9
  refine (readings_new g 25 (by decide) _ HO1.out).mono ?_
  rintro e v2 ⟨v, k, l, rfl, hown, hl, hk, hv, ho2, hc2⟩
  have HB2 : Hid (Bel w v2) := Bel.ch HB1.out hc2 hg
  obtain ⟨A, ca, rfl, hz, hA⟩ := own_zn hown hl
  have HZ : Hid (∀ W, Bel v2 W → Zo W A k l) := fun W hW => Zo.bel (Zr.zo hz) hW
  have HZR := Lib.hid hz
  have HV := Lib.hid hv
  have HL := Lib.hid hl
  have HA := Lib.hid hA
  have kk : (k : Int) ≤ 25 := by omega
  have HO2 := Lib.hid ho2
  have HC2 := Lib.hid hc2
  clear hown hz hv hl ho2 hc2 hA
  obtain ⟨fy, hfy⟩ : ∃ f : Nat → Rp, (fun i => rd l ((i + T) % k)) = f := ⟨_, rfl⟩
  obtain ⟨fz, hfz⟩ : ∃ f : Nat → Rp, (fun i => rd l (k - 1 - i)) = f := ⟨_, rfl⟩
  have HFY : Hid (∀ i, rd l ((i + T) % k) = fy i) := fun i => congrFun hfy i
  have HFZ : Hid (∀ i, rd l (k - 1 - i) = fz i) := fun i => congrFun hfz i
  have HPY : Hid ((lst fy k).Perm l) := by show (lst fy k).Perm l; rw [← hfy, ← HL.out]; exact lst_rot l T
  have HRZ : Hid (lst fz k = l.reverse) := by show _ = _; rw [← hfz, ← HL.out]; exact lst_rev l
  clear hfy hfz
  go_wp2
  go_loopw [8, 9, 27] (fun s8 s9 s27 wr => ∃ (i : Nat) (V : World) (ux uy : Value), V = wr ∧ ux = s8 ∧ uy = s9 ∧ i ≤ k ∧ s27 = .int .i64 (i : Int) ∧ Pq v2 wr s8 s9 i i (lst fy i) (lst fz i)) (fun _ _ s27 _ => k - (intOf s27).toNat)
  case atStart => exact ⟨0, _, _, _, rfl, rfl, rfl, by omega, rfl, Pq.nil (by repeat (first | exact Bel.rf | (with_reducible refine Bel.drwN ?_ _) | (with_reducible refine Bel.drw ?_) | (with_reducible refine Bel.al ?_ _)))⟩
  case round =>
    obtain ⟨i, wr, ux, uy, hwr, hux, huy, hik, rfl, hp⟩ := hrel
    subst hwr
    subst hux
    subst huy
    have HP := Lib.hid hp
    clear hp
    rcases Nat.lt_or_ge i k with hlt | hge
    · obtain ⟨ga, e, hga, hc⟩ := (HZR.out.bel HP.out.bel).2 (by omega)
      subst e
      obtain ⟨q, hq⟩ : ∃ q, (i + T) % k = q := ⟨_, rfl⟩
      have hqk : q < k := by rw [← hq]; exact Nat.mod_lt _ (by omega)
      obtain ⟨r, hr⟩ : ∃ r, k - 1 - i = r := ⟨_, rfl⟩
      obtain ⟨y1, y2⟩ := hc q hqk
      obtain ⟨z1, z2⟩ := hc r (by omega)
      have hy := HFY.out i
      have hz := HFZ.out i
      rw [hq] at hy
      rw [hr] at hz
      obtain ⟨⟨ty, vy⟩, hPY⟩ : ∃ x, fy i = x := ⟨_, rfl⟩
      obtain ⟨⟨tz, vz⟩, hPZ⟩ : ∃ x, fz i = x := ⟨_, rfl⟩
      rw [hPY] at hy
      rw [hPZ] at hz
      rw [tm_rd, hy] at y1
      rw [vl_rd, hy] at y2
      rw [tm_rd, hz] at z1
      rw [vl_rd, hz] at z2
      have HSY : Hid (lst fy (i + 1) = lst fy i ++ [(ty, vy)]) := by show _ = _; rw [lst_succ, hPY]
      have HSZ : Hid (lst fz (i + 1) = lst fz i ++ [(tz, vz)]) := by show _ = _; rw [lst_succ, hPZ]
      have ii : (i : Int) < (k : Int) := by omega
      have i0 : (0 : Int) ≤ (i : Int) := by omega
      have wit : IntKind.i64.wrap ((i : Int) + (T : Int)) = (i : Int) + (T : Int) := IntWalk.i64_in _ (by omega)
      have qm : ((i : Int) + (T : Int)).tmod (k : Int) = (q : Int) := by rw [← hq]; exact (Int.ofNat_tmod (i + T) k).symm
      have kn0 : ¬ k = 0 := by omega
      have qi : (q : Int) < (k : Int) := by omega
      have qi0 : (0 : Int) ≤ (q : Int) := by omega
      have wk1 : IntKind.i64.wrap ((k : Int) - 1) = (k : Int) - 1 := IntWalk.i64_in _ (by omega)
      have rk : (k : Int) - 1 - (i : Int) = (r : Int) := by omega
      have wr1 : IntKind.i64.wrap (r : Int) = (r : Int) := IntWalk.i64_in _ (by omega)
      have wr2 : IntKind.i64.wrap ((k : Int) - 1 - (i : Int)) = (r : Int) := by rw [rk]; exact wr1
      have wq1 : IntKind.i64.wrap (q : Int) = (q : Int) := IntWalk.i64_in _ (by omega)
      have ri : (r : Int) < (k : Int) := by omega
      have ri0 : (0 : Int) ≤ (r : Int) := by omega
      have HXL : Hid (∀ b, ux.ownBlock = some b → b < wr.heap.size) := fun b e => (HP.out.ox.lt b e).2
      have HYL : Hid (∀ b, uy.ownBlock = some b → b < wr.heap.size) := fun b e => (HP.out.oy.lt b e).2
      have hsz := HP.out.bel.size
      have KY1 : ∀ o, (wr.alloc o).cell? (⟨ga, q * 2, none⟩ : Addr) = some (.int .i64 ty) := fun o => (Bel.rf.al o).kp y1
      have KY2 : ∀ o, (wr.alloc o).cell? (⟨ga, q * 2 + 1, none⟩ : Addr) = some (.int .i64 vy) := fun o => (Bel.rf.al o).kp y2
      have KZ1 : ∀ o, (wr.alloc o).cell? (⟨ga, r * 2, none⟩ : Addr) = some (.int .i64 tz) := fun o => (Bel.rf.al o).kp z1
      have KZ2 : ∀ o, (wr.alloc o).cell? (⟨ga, r * 2 + 1, none⟩ : Addr) = some (.int .i64 vz) := fun o => (Bel.rf.al o).kp z2
      have HZC : Hid (∀ W, Bel v2 W → W.cell? (⟨ga, r * 2, none⟩ : Addr) = some (.int .i64 tz) ∧ W.cell? (⟨ga, r * 2 + 1, none⟩ : Addr) = some (.int .i64 vz)) := fun W hW => by
        obtain ⟨ga2, e, _, hc2⟩ := (HZR.out.bel hW).2 (by omega)
        cases e
        have h := hc2 r (by omega)
        rw [tm_rd, vl_rd, hz] at h
        exact h
      clear hc hq hr hy hz hPY hPZ
      go_wp2_with fail
      go_region_law (first
        | (refine step_appr _ rfl (.tmp 43) (.tmp 52) rfl v2.heap.size uy i (lst fz i) rfl (own_bel hTA.oy (by repeat (first | exact Bel.rf | (with_reducible refine Bel.drwN ?_ _) | (with_reducible refine Bel.drw ?_) | (with_reducible refine Bel.al ?_ _)))) _ 1 (tz, vz) rfl (by first | (refine Bk.bel (Bk.nq ?_ _ _ ?_) ?_; rotate_left 2; (repeat (first | (with_reducible exact Bel.rf) | (with_reducible refine Bel.drwN ?_ _) | (with_reducible refine Bel.drw ?_) | (with_reducible refine Bel.al ?_ _))); all_goals first | rfl | (simp; done) | (simp; omega)) | (refine Bk.bel (hkA _ _ ?_ (Bk.bel (Bk.nq ?_ _ _ ?_) ?_)) ?_; rotate_left 4; (repeat (first | (with_reducible exact Bel.rf) | (with_reducible refine Bel.drwN ?_ _) | (with_reducible refine Bel.drw ?_) | (with_reducible refine Bel.al ?_ _))); rotate_left 3; (repeat (first | (with_reducible exact Bel.rf) | (with_reducible refine Bel.drwN ?_ _) | (with_reducible refine Bel.drw ?_) | (with_reducible refine Bel.al ?_ _))); all_goals first | rfl | (simp; done) | (simp; omega))) (by omega) ((hTA.up (by repeat (first | exact Bel.rf | (with_reducible refine Bel.drwN ?_ _) | (with_reducible refine Bel.drw ?_) | (with_reducible refine Bel.al ?_ _)))).bel.size) ?_; intro vq wq hoq hgq hatq; have hT2 := ((hTA.up (by repeat (first | exact Bel.rf | (with_reducible refine Bel.drwN ?_ _) | (with_reducible refine Bel.drw ?_) | (with_reducible refine Bel.al ?_ _)))).sx.ax hoq hgq hatq).sx; clear hoq hgq hatq)
          | (refine step_appr _ rfl (.tmp 30) (.tmp 41) rfl v2.heap.size ux i (lst fy i) rfl (own_bel HP.out.ox (by repeat (first | exact Bel.rf | (with_reducible refine Bel.drwN ?_ _) | (with_reducible refine Bel.drw ?_) | (with_reducible refine Bel.al ?_ _)))) _ 1 (ty, vy) rfl (by (refine Bk.bel (Bk.nq ?_ _ _ ?_) ?_; rotate_left 2; (repeat (first | (with_reducible exact Bel.rf) | (with_reducible refine Bel.drwN ?_ _) | (with_reducible refine Bel.drw ?_) | (with_reducible refine Bel.al ?_ _))); all_goals first | rfl | (simp; done) | (simp; omega))) (by omega) ((HP.out.up (by repeat (first | exact Bel.rf | (with_reducible refine Bel.drwN ?_ _) | (with_reducible refine Bel.drw ?_) | (with_reducible refine Bel.al ?_ _)))).bel.size) ?_; intro vp wp hop hgp hatp; have hTA := (HP.out.up (by repeat (first | exact Bel.rf | (with_reducible refine Bel.drwN ?_ _) | (with_reducible refine Bel.drw ?_) | (with_reducible refine Bel.al ?_ _)))).ax hop hgp hatp; have hkA := fun (b : Nat) (cs : Array Value) (hb : wr.heap.size ≤ b) hk => bk_grt (g := b) (t := 28) (cs := cs) hk hgp (fun e => by have := HXL.out b e; omega); have hzc := HZC.out _ hTA.bel; obtain ⟨m1, m2⟩ := hzc; clear hop hgp hatp))
      all_goals
        have HT2 := Lib.hid hT2
        clear hT2 hTA hkA
        go_wp2
        go_roundw
        case rel => exact ⟨i + 1, _, _, _, rfl, rfl, rfl, by omega, by go_num, by rw [HSY.out, HSZ.out]; exact HT2.out.up (by repeat (first | exact Bel.rf | (with_reducible refine Bel.drwN ?_ _) | (with_reducible refine Bel.drw ?_) | (with_reducible refine Bel.al ?_ _)))⟩
        case measure => simp [intOf]; omega
    · obtain rfl : i = k := by omega
      obtain ⟨Y, hY⟩ : ∃ L, lst fy i = L := ⟨_, rfl⟩
      obtain ⟨Z, hZ⟩ : ∃ L, lst fz i = L := ⟨_, rfl⟩
      have lY : Y.length = i := by rw [← hY]; exact lst_len _ _
      have lZ : Z.length = i := by rw [← hZ]; exact lst_len _ _
      have ox := HP.out.ox
      have oy := HP.out.oy
      rw [hY] at ox HPY
      rw [hZ] at oy HRZ
      obtain ⟨Ay, cy, rfl, hzy, hay⟩ := own_zn ox lY
      obtain ⟨Az, cz, rfl, hzz, haz⟩ := own_zn oy lZ
      have HPZ : Hid (Z.Perm l) := by show Z.Perm l; rw [HRZ.out]; exact List.reverse_perm l
      have HVY : Hid (Vrs Y) := vrs_perm HPY.out HV.out
      have HVZ : Hid (Vrs Z) := vrs_perm HPZ.out HV.out
      have HYY : Hid (∀ W, Bel wr W → Zo W Ay i Y) := fun W hW => Zo.bel (Zr.zo hzy) hW
      have HZZ : Hid (∀ W, Bel wr W → Zo W Az i Z) := fun W hW => Zo.bel (Zr.zo hzz) hW
      have HXX : Hid (∀ W, Bel wr W → Zo W A i l) := fun W hW => HZ.out W (HP.out.bel.tr hW)
      have HAY := Lib.hid (And.intro hay haz)
      obtain ⟨nb, hnb⟩ : ∃ x, (uts l).length = x := ⟨_, rfl⟩
      have hnk : nb ≤ i := by have := uts_le l; have := HL.out; omega
      have HEY : Hid (cln (3 + Q) Y = cln (3 + Q) l) := cln_perm HPY.out (by omega) (by omega)
      have HEZ : Hid (cln (3 + Q) Z = cln (3 + Q) l) := cln_perm HPZ.out (by omega) (by omega)
      have HEV : Hid (cln 2 Z = cln 1 l) := by show _ = _; rw [HRZ.out]; exact cln_rev l
      have HLC : Hid (∀ p, (cln p l).length = nb) := fun p => by rw [cln_len, uts_len]; exact hnb
      have HBW : Hid (Bel w wr) := HB2.out.tr HP.out.bel
      clear hY hZ lY lZ ox oy hzy hzz hay haz hnb
      go_wp2_with fail
      go_at_call 10
      refine (clean_ok A ca i l (3 + Q) (by omega) (by omega) (by omega) HV.out _ (HXX.out _ (by repeat (first | exact Bel.rf | (with_reducible refine Bel.drwN ?_ _) | (with_reducible refine Bel.drw ?_) | (with_reducible refine Bel.al ?_ _)))) HA.out (fun h => by omega)).mono ?_
      rintro e w3 ⟨vr3, rfl, ho, hb⟩
      rw [HLC.out] at ho
      obtain ⟨B3, d3, rfl, hq, _⟩ := own_zn ho (HLC.out _)
      have hcn : Bel wr w3 := Bel.tr (by repeat (first | exact Bel.rf | (with_reducible refine Bel.drwN ?_ _) | (with_reducible refine Bel.drw ?_) | (with_reducible refine Bel.al ?_ _))) hb
      have HW3 : Hid (Bel wr w3) := Bel.tr (by repeat (first | exact Bel.rf | (with_reducible refine Bel.drwN ?_ _) | (with_reducible refine Bel.drw ?_) | (with_reducible refine Bel.al ?_ _))) hb
      have HR3 : Hid (∀ W, Bel w3 W → Zr W B3 nb (cln (3 + Q) l)) := fun W hW => hq.bel hW
      skip
      clear ho hb hq hcn
      go_wp2_with fail
      go_at_call 10
      refine (clean_ok Ay cy i Y (3 + Q) (by omega) (by omega) (by omega) HVY.out _ (HYY.out _ (by repeat (first | exact HW3.out | (with_reducible refine Bel.drwN ?_ _) | (with_reducible refine Bel.drw ?_) | (with_reducible refine Bel.al ?_ _)))) HAY.out.1 (fun h => by omega)).mono ?_
      rintro e w4 ⟨vr4, rfl, ho, hb⟩
      rw [HEY.out, HLC.out] at ho
      obtain ⟨B4, d4, rfl, hq, _⟩ := own_zn ho (HLC.out _)
      have hcn : Bel w3 w4 := Bel.tr (by repeat (first | exact Bel.rf | (with_reducible refine Bel.drwN ?_ _) | (with_reducible refine Bel.drw ?_) | (with_reducible refine Bel.al ?_ _))) hb
      have HW4 : Hid (Bel wr w4) := HW3.out.tr (Bel.tr (by repeat (first | exact Bel.rf | (with_reducible refine Bel.drwN ?_ _) | (with_reducible refine Bel.drw ?_) | (with_reducible refine Bel.al ?_ _))) hb)
      have HR4 : Hid (∀ W, Bel w4 W → Zr W B4 nb (cln (3 + Q) l)) := fun W hW => hq.bel hW
      have hc34 := hcn
      clear ho hb hq hcn
      go_wp2_with fail
      go_at_call 10
      refine (clean_ok Az cz i Z (3 + Q) (by omega) (by omega) (by omega) HVZ.out _ (HZZ.out _ (by repeat (first | exact HW4.out | (with_reducible refine Bel.drwN ?_ _) | (with_reducible refine Bel.drw ?_) | (with_reducible refine Bel.al ?_ _)))) HAY.out.2 (fun h => by omega)).mono ?_
      rintro e w5 ⟨vr5, rfl, ho, hb⟩
      rw [HEZ.out, HLC.out] at ho
      obtain ⟨B5, d5, rfl, hq, _⟩ := own_zn ho (HLC.out _)
      have hcn : Bel w4 w5 := Bel.tr (by repeat (first | exact Bel.rf | (with_reducible refine Bel.drwN ?_ _) | (with_reducible refine Bel.drw ?_) | (with_reducible refine Bel.al ?_ _))) hb
      have HW5 : Hid (Bel wr w5) := HW4.out.tr (Bel.tr (by repeat (first | exact Bel.rf | (with_reducible refine Bel.drwN ?_ _) | (with_reducible refine Bel.drw ?_) | (with_reducible refine Bel.al ?_ _))) hb)
      have HR5 : Hid (∀ W, Bel w5 W → Zr W B5 nb (cln (3 + Q) l)) := fun W hW => hq.bel hW
      have hc45 := hcn
      have hc35 := hc34.tr hcn
      clear ho hb hq hcn
      go_wp2_with fail
      go_at_call 10
      refine (clean_ok A ca i l (1) (by omega) (by omega) (by omega) HV.out _ (HXX.out _ (by repeat (first | exact HW5.out | (with_reducible refine Bel.drwN ?_ _) | (with_reducible refine Bel.drw ?_) | (with_reducible refine Bel.al ?_ _)))) HA.out (fun h => by omega)).mono ?_
      rintro e w6 ⟨vr6, rfl, ho, hb⟩
      rw [HLC.out] at ho
      obtain ⟨B6, d6, rfl, hq, _⟩ := own_zn ho (HLC.out _)
      have hcn : Bel w5 w6 := Bel.tr (by repeat (first | exact Bel.rf | (with_reducible refine Bel.drwN ?_ _) | (with_reducible refine Bel.drw ?_) | (with_reducible refine Bel.al ?_ _))) hb
      have HW6 : Hid (Bel wr w6) := HW5.out.tr (Bel.tr (by repeat (first | exact Bel.rf | (with_reducible refine Bel.drwN ?_ _) | (with_reducible refine Bel.drw ?_) | (with_reducible refine Bel.al ?_ _))) hb)
      have HR6 : Hid (∀ W, Bel w6 W → Zr W B6 nb (cln (1) l)) := fun W hW => hq.bel hW
      have hc56 := hcn
      have hc46 := hc45.tr hcn
      have hc36 := hc35.tr hcn
      clear ho hb hq hcn
      go_wp2_with fail
      go_at_call 10
      refine (clean_ok Az cz i Z (2) (by omega) (by omega) (by omega) HVZ.out _ (HZZ.out _ (by repeat (first | exact HW6.out | (with_reducible refine Bel.drwN ?_ _) | (with_reducible refine Bel.drw ?_) | (with_reducible refine Bel.al ?_ _)))) HAY.out.2 (fun h => by omega)).mono ?_
      rintro e w7 ⟨vr7, rfl, ho, hb⟩
      rw [HEV.out, HLC.out] at ho
      obtain ⟨B7, d7, rfl, hq, _⟩ := own_zn ho (HLC.out _)
      have hcn : Bel w6 w7 := Bel.tr (by repeat (first | exact Bel.rf | (with_reducible refine Bel.drwN ?_ _) | (with_reducible refine Bel.drw ?_) | (with_reducible refine Bel.al ?_ _))) hb
      have HW7 : Hid (Bel wr w7) := HW6.out.tr (Bel.tr (by repeat (first | exact Bel.rf | (with_reducible refine Bel.drwN ?_ _) | (with_reducible refine Bel.drw ?_) | (with_reducible refine Bel.al ?_ _))) hb)
      have HR7 : Hid (∀ W, Bel w7 W → Zr W B7 nb (cln (1) l)) := fun W hW => hq.bel hW
      have hc67 := hcn
      have hc57 := hc56.tr hcn
      have hc47 := hc46.tr hcn
      have hc37 := hc36.tr hcn
      clear hc34 hc45 hc35 hc56 hc46 hc36
      clear ho hb hq hcn
      have hfp : ∀ W, Bel w7 W → Zr W B3 nb (cln (3 + Q) l) ∧ Zr W B4 nb (cln (3 + Q) l) ∧ Zr W B5 nb (cln (3 + Q) l) ∧ Zr W B6 nb (cln 1 l) ∧ Zr W B7 nb (cln 1 l) := fun W hW => ⟨HR3.out W (hc37.tr hW), HR4.out W (hc47.tr hW), HR5.out W (hc57.tr hW), HR6.out W (hc67.tr hW), HR7.out W hW⟩
      have HF := Lib.hid hfp
      clear hfp hc67 hc57 hc47 hc37
      have M1 : True := trivial
      have M2 : True := trivial
      have M3 : True := trivial
      have HBX7 : Hid (Bel w w7) := HBW.out.tr HW7.out
      go_wp2_with (first
        | (go_at_call 11; clear M1; refine (same_ok B3 B4 _ _ nb nb (cln (3 + Q) l) (cln (3 + Q) l) (by omega) (by omega) _ (HF.out _ (by repeat (first | exact Bel.rf | (with_reducible refine Bel.drwN ?_ _) | (with_reducible refine Bel.drw ?_) | (with_reducible refine Bel.al ?_ _)))).1 (HF.out _ (by repeat (first | exact Bel.rf | (with_reducible refine Bel.drwN ?_ _) | (with_reducible refine Bel.drw ?_) | (with_reducible refine Bel.al ?_ _)))).2.1).mono ?_; rintro e w8 ⟨rfl, hb8⟩; rw [show decide (cln (3 + Q) l = cln (3 + Q) l) = true from decide_eq_true rfl]; have HB8 : Hid (Bel w7 w8) := Bel.tr (by repeat (first | exact Bel.rf | (with_reducible refine Bel.drwN ?_ _) | (with_reducible refine Bel.drw ?_) | (with_reducible refine Bel.al ?_ _))) hb8; clear hb8)
        | (go_at_call 11; clear M2; refine (same_ok B3 B5 _ _ nb nb (cln (3 + Q) l) (cln (3 + Q) l) (by omega) (by omega) _ (HF.out _ (by repeat (first | exact HB8.out | (with_reducible refine Bel.drwN ?_ _) | (with_reducible refine Bel.drw ?_) | (with_reducible refine Bel.al ?_ _)))).1 (HF.out _ (by repeat (first | exact HB8.out | (with_reducible refine Bel.drwN ?_ _) | (with_reducible refine Bel.drw ?_) | (with_reducible refine Bel.al ?_ _)))).2.2.1).mono ?_; rintro e w9 ⟨rfl, hb9⟩; rw [show decide (cln (3 + Q) l = cln (3 + Q) l) = true from decide_eq_true rfl]; have HB9 : Hid (Bel w7 w9) := HB8.out.tr (Bel.tr (by repeat (first | exact Bel.rf | (with_reducible refine Bel.drwN ?_ _) | (with_reducible refine Bel.drw ?_) | (with_reducible refine Bel.al ?_ _))) hb9); clear hb9)
        | (go_at_call 11; clear M3; refine (same_ok B6 B7 _ _ nb nb (cln 1 l) (cln 1 l) (by omega) (by omega) _ (HF.out _ (by repeat (first | exact HB9.out | (with_reducible refine Bel.drwN ?_ _) | (with_reducible refine Bel.drw ?_) | (with_reducible refine Bel.al ?_ _)))).2.2.2.1 (HF.out _ (by repeat (first | exact HB9.out | (with_reducible refine Bel.drwN ?_ _) | (with_reducible refine Bel.drw ?_) | (with_reducible refine Bel.al ?_ _)))).2.2.2.2).mono ?_; rintro e w10 ⟨rfl, hb10⟩; rw [show decide (cln 1 l = cln 1 l) = true from decide_eq_true rfl]; have HB10 : Hid (Bel w7 w10) := HB9.out.tr (Bel.tr (by repeat (first | exact Bel.rf | (with_reducible refine Bel.drwN ?_ _) | (with_reducible refine Bel.drw ?_) | (with_reducible refine Bel.al ?_ _))) hb10); clear hb10)
        | (go_at_call 12; refine (AW.out _).mono ?_; rintro e w11 ⟨rfl, hb11⟩; have HB11 : Hid (Bel w7 w11) := HB10.out.tr (Bel.tr (by repeat (first | exact Bel.rf | (with_reducible refine Bel.drwN ?_ _) | (with_reducible refine Bel.drw ?_) | (with_reducible refine Bel.al ?_ _))) hb11); clear hb11))
      go_ret
      exact ⟨rfl, (show Bel w _ from (by repeat (first | exact HBX7.out.tr HB11.out | (with_reducible refine Bel.drwN ?_ _) | (with_reducible refine Bel.drw ?_) | (with_reducible refine Bel.al ?_ _)))).bl⟩

set_option maxRecDepth 100000 in
theorem lifted (os : Os) (started : os.Started) (H : Type) (enc : TypeId × Value → H) :
    ReturnsInHanded {} Try.checked os 3 .any (Rows.cleanTurnedSpec.pre6 enc Try.prog Try.f3 Rows.cleanTurnedRow.domain false) (Rows.cleanTurnedSpec.post enc Try.prog Try.f3 false true false false) := by
  refine returnsInHanded_of_change (C := Try.checked) own started (by kernel_rfl) Try.func3
    (ChangeSpec.witness6 (enc := enc) (C := Try.checked) false ⟨#[], #[.slice none 0 0, .int .u8 0, .int .u8 0], []⟩ 8 (by kernel_rfl) (by kernel_rfl) (by kernel_rfl) (by kernel_rfl)) ?_
  intro W base args ds gs before hval0 hW hcnd _
  have hval : ∀ (j : Nat) t v, Try.f3.params[j]? = some t → args[j]? = some v → Value.okWide Try.prog W .any base t v := hval0
  have hW' := hW
  obtain ⟨p, q, hA0, hV, rfl, hfz, hnd⟩ := hW
  have hA : DataW.TrodAll enc Try.prog W 0 (fun _ => true) true Try.f3.params.toList args.toList ds p := hA0
  rw [Try.params3] at hA hval
  obtain ⟨v0, vs0, d0, ds0, p0, q0, hargs, rfl, rfl, h0, r0⟩ := trodAll_cons hA
  obtain ⟨v1, vs1, d1, ds1, p1, q1, rfl, rfl, rfl, h1, r1⟩ := trodAll_cons r0
  obtain ⟨v2, vs2, d2, ds2, p2, q2, rfl, rfl, rfl, h2, r2⟩ := trodAll_cons r1
  obtain ⟨rfl, rfl, rfl⟩ := trodAll_nil r2
  obtain rfl : args = #[v0, v1, v2] := by cases args; simp_all
  obtain ⟨rfl, rfl⟩ := trodVars_none hV
  obtain ⟨a0, len0, cap0, rfl⟩ := okWide_slice Try.underlying22 (hval 0 22 v0 rfl rfl)
  have k0 := h0
  have lt0 : ∀ x ∈ p0, x.block < W.heap.size := by obtain ⟨m, hm⟩ := k0; exact DataW.trod_lt m _ _ _ hm
  obtain ⟨z0, w0⟩ : ∃ zs, IsRow .i64 W a0 len0 cap0 zs := by
    obtain ⟨fuel, hf⟩ := h0
    rcases open_ints Try.underlying22 Try.underlying3 (by kernel_rfl) hf with ⟨hcs, _⟩ | ⟨x, l, c, zs, hcs, _, hl, hm, hz, _, hcell, hwz⟩
    · simp [Value.cells] at hcs
      obtain ⟨rfl, rfl, rfl⟩ := hcs
      exact ⟨[], .inl ⟨rfl, rfl, rfl, rfl⟩⟩
    · simp [Value.cells] at hcs
      obtain ⟨rfl, rfl, rfl⟩ := hcs
      exact ⟨zs, .inr ⟨_, rfl, hl, hm, by simpa using hz, hcell, hwz⟩⟩
  obtain ⟨a1, rfl, rfl, rfl, w1⟩ := open_int Try.underlying5 (hval 1 5 v1 rfl rfl) h1
  obtain ⟨a2, rfl, rfl, rfl, w2⟩ := open_int Try.underlying5 (hval 2 5 v2 rfl rfl) h2
  clear hA0 hval0
  refine (walk a0 len0 cap0 z0 a1 a2 W w0 w1 w2).mono fun e W' ⟨he, bel⟩ => ?_
  subst he
  exact ⟨_, rfl, _, _, _, [], _, [], hW', trodAll_mk1 (shut_bool Try.underlying4 _), (trodAll_cons_mk (Below.trod laidOut (by kernel_rfl) (of_decide_eq_true (by kernel_rfl)) k0 bel lt0) (trodAll_cons_mk (shut_int Try.underlying5 w1) (trodAll_cons_mk (shut_int Try.underlying5 w2) trodAll_mk0))), rfl, bel.frame _, fun h => by cases h⟩

theorem over : Rows.cleanTurnedRow.holds Try.pinned (OpenSpec.ofChange Rows.cleanTurnedSpec) :=
  OpenClaim.holds_of_wide 3 Try.f3 rfl rfl rfl rfl rfl rfl rfl ⟨rfl, rfl, rfl, rfl, rfl⟩ rfl rfl rfl rfl rfl (by kernel_rfl) Try.func3 (by kernel_rfl)
    (of_decide_eq_true (by kernel_rfl)) (by unfold Func.isWrapper; first | (rw [if_pos (by decide +kernel)]; kernel_rfl) | (rw [if_neg (by decide +kernel)]; exact ⟨rfl, rfl⟩))
    (fun os started H enc _ => lifted os started H enc)

theorem proved : Rows.CleanTurnedSaid := over
end Go.Proofs.Ytgcjangnlbhicaa.cleanTurned
