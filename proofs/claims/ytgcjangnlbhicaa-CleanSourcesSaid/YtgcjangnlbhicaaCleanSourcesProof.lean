/- That the law CleanSources returns true for every input that can be read, and leaves its arguments as they were; no further condition. -/
import Derived.Test.YtgcjangnlbhicaaRows
import Derived.WalkKit
import Derived.ProofKit
import Derived.OpenShut
import Derived.Test.YtgcjangnlbhicaaWords
import Derived.Test.YtgcjangnlbhicaaSrcNew0
import Derived.Test.YtgcjangnlbhicaaStF
import Derived.ShutString
import Derived.ChangeOld
import Derived.Below
namespace Go.Proofs.Ytgcjangnlbhicaa.cleanSources
open Go.ChangeShapes Go.WideShapes Go.ChangeAt Go.RowKit Wo
open Go.ChangeMaps (open_string shut_string)
set_option linter.unusedVariables false

theorem own : ownKnob Try.prog.godebug = none := by kernel_rfl
theorem laidOut : laidOutB Try.prog = true := by kernel_rfl

/-- WHAT THE WALK IS TOLD OF A SLICE OF INTEGERS THAT CAME IN: it is nil; or it leads to a row of 'cap' cells, the numbers 'zs' (the first 'len' are its elements, the rest its spare room), each fitting its kind. -/
def IsRow (k : IntKind) (w : World) (a : Option Addr) (len cap : Nat) (zs : List Int) : Prop :=
  (a = none ∧ len = 0 ∧ cap = 0 ∧ zs = []) ∨
  ∃ x, a = some x ∧ len ≤ cap ∧ cap ≤ maxLen ∧ zs.length = cap ∧ (∀ i, i < zs.length → w.cell? (x.add i) = some (.int k (zs.getD i 0))) ∧ ∀ n ∈ zs, (Lit.int k n).wf = true

open Go.Proofs.Ytgcjangnlbhicaa.St Go.Proofs.Ytgcjangnlbhicaa.Pk Go.Proofs.Ytgcjangnlbhicaa.Rg Go.Proofs.Ytgcjangnlbhicaa.Rm Go.Proofs.Ytgcjangnlbhicaa.Wi Go.Proofs.Ytgcjangnlbhicaa.Wo Go.Proofs.Ytgcjangnlbhicaa.Sr in
set_option maxHeartbeats 8000000 in
set_option maxRecDepth 100000 in
set_option linter.unusedSimpArgs false in
theorem walk (a0 : Option Addr) (len0 cap0 : Nat) (z0 : List Int) (a1 : Int) (a2 : Int) (w : World) (w0 : IsRow .i64 w a0 len0 cap0 z0) (w1 : (Lit.int .u8 a1).wf = true) (w2 : (Lit.int .u8 a2).wf = true) :
    Calls Try.prog 5 #[.slice a0 len0 cap0, .int .u8 a1, .int .u8 a2] w fun e w' => e = .returned (.bool true) ∧ Below w.heap.size w w' := by
  obtain ⟨p0, p1⟩ := bounds_u8 w1
  obtain ⟨q0, q1⟩ := bounds_u8 w2
  obtain ⟨P5, hP⟩ : ∃ x, a1.tmod 5 = x := ⟨_, rfl⟩
  obtain ⟨Q4, hQ⟩ : ∃ x, a2.tmod 4 = x := ⟨_, rfl⟩
  have P0 : 0 ≤ P5 := by rw [← hP]; exact Int.tmod_nonneg 5 p0
  have P4 : P5 ≤ 4 := by have := Int.tmod_lt_of_pos a1 (b := 5) (by decide); omega
  have Q0 : 0 ≤ Q4 := by rw [← hQ]; exact Int.tmod_nonneg 4 q0
  have Q3 : Q4 ≤ 3 := by have := Int.tmod_lt_of_pos a2 (b := 4) (by decide); omega
  have wa1 : IntKind.i64.wrap a1 = a1 := IntWalk.i64_in _ (by omega)
  have wa2 : IntKind.i64.wrap a2 = a2 := IntWalk.i64_in _ (by omega)
  clear w1 w2
  have AW : Hid (∀ W, Calls Try.prog 12 #[] W fun e w' => e = .returned (.bool true) ∧ Bel W w') := awake_any
  go_enter Try.func5, Try.ntmps5
  go_wp2_with fail
  go_at_call 8
  refine (new_any a0 len0 cap0 z0 w w0).mono ?_
  rintro e v1 ⟨g, rfl, hg, ho1, hb1⟩
  have HO1 := Lib.hid ho1
  have HB1 := Lib.hid hb1
  clear ho1 hb1 w0
  go_wp2_with fail
  go_at_call 9
  refine (readings_new g 25 (by decide) _ HO1.out).mono ?_
  rintro e v2 ⟨v, k, l, rfl, hown, hl, hk, hv, ho2, hc2⟩
  have HB2 : Hid (Bel w v2) := Bel.ch HB1.out hc2 hg
  obtain ⟨A, ca, rfl, hz, hA, hcap, hbase⟩ := own_znc hown hl
  have hnb : Nb g A := fun b o e => by have := hbase b o e; have := HO1.out.lt; omega
  have HZ : Hid (∀ W, Bel v2 W → Zo W A k l) := fun W hW => Zo.bel (Zr.zo hz) hW
  have HZR := Lib.hid hz
  have HV := Lib.hid hv
  have HL := Lib.hid hl
  have HA := Lib.hid hA
  have kk : (k : Int) ≤ 25 := by omega
  have HO2 := Lib.hid ho2
  have HC2 := Lib.hid hc2
  clear hown hz hv hl ho2 hc2 hA
  have HCA := Lib.hid (And.intro hcap hnb)
  clear hcap hnb hbase
  go_wp2_with fail
  go_at_call 15
  refine (divided_ok g A ca k l (by omega) _ (HO2.out.bel (by repeat (first | exact Bel.rf | (with_reducible refine Bel.drwN ?_ _) | (with_reducible refine Bel.drw ?_) | (with_reducible refine Bel.al ?_ _)))) (HZ.out _ (by repeat (first | exact Bel.rf | (with_reducible refine Bel.drwN ?_ _) | (with_reducible refine Bel.drw ?_) | (with_reducible refine Bel.al ?_ _)))) HA.out HCA.out.1 HCA.out.2).mono ?_
  rintro e w3 ⟨G, q, cq, P, Vs, rfl, hzp, hq, hP2, hok, hch⟩
  have HB3 : Hid (Bel w w3) := Bel.ch HB2.out ((Ch.of_bel (by repeat (first | exact Bel.rf | (with_reducible refine Bel.drwN ?_ _) | (with_reducible refine Bel.drw ?_) | (with_reducible refine Bel.al ?_ _)))).tr hch) hg
  have HX3 : Hid (∀ W, Bel w3 W → Zo W A k l) := fun W hW => Zo.bel ((HZ.out v2 Bel.rf).ch ((Ch.of_bel (by repeat (first | exact Bel.rf | (with_reducible refine Bel.drwN ?_ _) | (with_reducible refine Bel.drw ?_) | (with_reducible refine Bel.al ?_ _)))).tr hch) HCA.out.2) hW
  have HZP : Hid (∀ W, Bel w3 W → Zp W G q P Vs) := fun W hW => hzp.bel hW
  have HPL := Lib.hid hzp.2.1
  have HFP := Lib.hid hP2
  have qi : (q : Int) ≤ 50 := by omega
  have HQN : Hid (q ≤ 50) := (by omega : q ≤ 50)
  have HVF : Hid (Vrs P.flatten) := by show Vrs _; rw [hP2]; exact HV.out
  have HFN : Hid (P.flatten.length ≤ 25) := by show _ ≤ _; rw [hP2, HL.out]; omega
  obtain ⟨nb, hnb⟩ : ∃ x, (uts l).length = x := ⟨_, rfl⟩
  have hnk : nb ≤ k := by have := uts_le l; have := HL.out; omega
  have HLC : Hid (∀ p, (cln p l).length = nb) := fun p => by rw [cln_len, uts_len]; exact hnb
  clear hzp hP2 hok hch hq hnb
  go_wp2_with fail
  go_at_call 10
  refine (clean_ok A ca k l (1 + P5) (by omega) (by omega) (by omega) HV.out _ (HX3.out _ (by repeat (first | exact Bel.rf | (with_reducible refine Bel.drwN ?_ _) | (with_reducible refine Bel.drw ?_) | (with_reducible refine Bel.al ?_ _)))) HA.out (fun h => by omega)).mono ?_
  rintro e w4 ⟨vr4, rfl, ho, hb⟩
  rw [HLC.out] at ho
  obtain ⟨A4, c4, rfl, hz4, _⟩ := own_zn ho (HLC.out _)
  have HW4 : Hid (Bel w3 w4) := Bel.tr (by repeat (first | exact Bel.rf | (with_reducible refine Bel.drwN ?_ _) | (with_reducible refine Bel.drw ?_) | (with_reducible refine Bel.al ?_ _))) hb
  have HR4 : Hid (∀ W, Bel w4 W → Zr W A4 nb (cln (1 + P5) l)) := fun W hW => hz4.bel hW
  clear ho hb hz4
  go_wp2_with fail
  go_at_call 16
  refine (merge_ok G q cq P Vs (1 + P5) (by omega) (by omega) (by omega) (by have := HFN.out; omega) HVF.out _ (HZP.out _ (by repeat (first | exact HW4.out | (with_reducible refine Bel.drwN ?_ _) | (with_reducible refine Bel.drw ?_) | (with_reducible refine Bel.al ?_ _))))).mono ?_
  rintro e w5 ⟨vr5, rfl, ho, hb⟩
  rw [HFP.out, HLC.out] at ho
  obtain ⟨A5, c5, rfl, hz5, _⟩ := own_zn ho (HLC.out _)
  have hc45 : Bel w4 w5 := Bel.tr (by repeat (first | exact Bel.rf | (with_reducible refine Bel.drwN ?_ _) | (with_reducible refine Bel.drw ?_) | (with_reducible refine Bel.al ?_ _))) hb
  have HW5 : Hid (Bel w3 w5) := HW4.out.tr hc45
  have HR5 : Hid (∀ W, Bel w5 W → Zr W A4 nb (cln (1 + P5) l) ∧ Zr W A5 nb (cln (1 + P5) l)) := fun W hW => ⟨HR4.out W (hc45.tr hW), hz5.bel hW⟩
  clear ho hb hz5 hc45
  go_wp2_with (go_at_call 11; refine (same_ok A4 A5 _ _ nb nb (cln (1 + P5) l) (cln (1 + P5) l) (by omega) (by omega) _ (HR5.out _ (by repeat (first | exact Bel.rf | (with_reducible refine Bel.drwN ?_ _) | (with_reducible refine Bel.drw ?_) | (with_reducible refine Bel.al ?_ _)))).1 (HR5.out _ (by repeat (first | exact Bel.rf | (with_reducible refine Bel.drwN ?_ _) | (with_reducible refine Bel.drw ?_) | (with_reducible refine Bel.al ?_ _)))).2).mono ?_; rintro e w6 ⟨rfl, hb6⟩; rw [show decide (cln (1 + P5) l = cln (1 + P5) l) = true from decide_eq_true rfl]; have HW6 : Hid (Bel w3 w6) := HW5.out.tr (Bel.tr (by repeat (first | exact Bel.rf | (with_reducible refine Bel.drwN ?_ _) | (with_reducible refine Bel.drw ?_) | (with_reducible refine Bel.al ?_ _))) hb6); clear hb6)
  go_loopw [16, 65] (fun s16 s65 wr => ∃ (i : Nat) (V : World) (u : Value) (Us : List Value), V = wr ∧ u = s16 ∧ i ≤ q ∧ s65 = .int .i64 (i : Int) ∧ Ea w6 wr (1 + Q4) P i s16 Us) (fun _ s65 _ => q - (intOf s65).toNat)
  case atStart => exact ⟨0, _, _, [], rfl, rfl, by omega, rfl, ⟨World.ownsRow_nil _ _ _ _, rfl, (by repeat (first | exact Bel.rf | (with_reducible refine Bel.drwN ?_ _) | (with_reducible refine Bel.drw ?_) | (with_reducible refine Bel.al ?_ _))), fun j hj => by omega⟩⟩
  case round =>
    obtain ⟨i, wr, u, Us, hwr, hu, hiq, rfl, hea⟩ := hrel
    subst hwr
    subst hu
    have HEA := Lib.hid hea
    clear hea
    rcases Nat.lt_or_ge i q with hlt | hge
    · have hzr := HZP.out wr (HW6.out.tr HEA.out.bel)
      obtain ⟨gq, e, hcc⟩ := hzr.2.2.1 (by omega)
      subst e
      have c1 := hcc i hlt
      obtain ⟨Ai, ni, ci, hvi, hzi, hAi⟩ := hzr.2.2.2 i hlt
      rw [hvi] at c1
      have hmem : P.getD i [] ∈ P := part_mem (by rw [HPL.out]; exact hlt)
      have HVI : Hid (Vrs (P.getD i [])) := part_vrs HVF.out hmem
      have HZI : Hid (∀ W, Bel wr W → Zo W Ai ni (P.getD i [])) := fun W hW => Zo.bel hzi hW
      have HNI : Hid (ni ≤ 25) := by have := part_len hmem; have := HFN.out; have := hzi.1; show _ ≤ _; omega
      have HAI := Lib.hid hAi
      have ii : (i : Int) < (q : Int) := by omega
      have i0 : (0 : Int) ≤ (i : Int) := by omega
      clear hzr hcc hvi hzi hAi hmem
      go_wp2_with fail
      go_at_call 10
      refine (clean_ok Ai ci ni (P.getD i []) (1 + Q4) (by omega) (by omega) (by have := HNI.out; omega) HVI.out _ (HZI.out _ (by repeat (first | exact Bel.rf | (with_reducible refine Bel.drwN ?_ _) | (with_reducible refine Bel.drw ?_) | (with_reducible refine Bel.al ?_ _)))) HAI.out (fun h => by omega)).mono ?_
      rintro e w8 ⟨vr8, rfl, ho, hb⟩
      have HE8 : Hid (Ea w6 w8 (1 + Q4) P i u Us) := HEA.out.up (Bel.tr (by repeat (first | exact Bel.rf | (with_reducible refine Bel.drwN ?_ _) | (with_reducible refine Bel.drw ?_) | (with_reducible refine Bel.al ?_ _))) hb)
      have HP8 : Hid (Po w8 vr8 (cln (1 + Q4) (P.getD i []))) := own_mono ho (Nat.zero_le _)
      obtain ⟨A8, c8, hv8, _⟩ := own_any ho
      subst hv8
      have HS8 : Hid (w6.heap.size ≤ w8.heap.size) := HE8.out.bel.size
      obtain ⟨n8, hn8⟩ : ∃ n, (cln (1 + Q4) (P.getD i [])).length = n := ⟨_, rfl⟩
      rw [hn8] at HP8 ⊢
      have HN8 := Lib.hid hn8
      have HB9 : Hid (Bk (w8.alloc (.cells #[.slice A8 n8 c8] 23)) w8.heap.size 23 #[.slice A8 n8 c8]) := Bk.nw _ _ _
      have HI5 : Hid (i ≤ 100000) := by have := HQN.out; show _ ≤ _; omega
      clear ho hb hn8 c1
      go_wp2_with (at_builtin; refine list_appp _ rfl _ _ rfl w6.heap.size u i Us rfl (own_bel HE8.out.own (by repeat (first | exact Bel.rf | (with_reducible refine Bel.drwN ?_ _) | (with_reducible refine Bel.drw ?_) | (with_reducible refine Bel.al ?_ _)))) w8.heap.size 1 (.slice A8 n8 c8) rfl rfl (HB9.out.bel (by repeat (first | exact Bel.rf | (with_reducible refine Bel.drwN ?_ _) | (with_reducible refine Bel.drw ?_) | (with_reducible refine Bel.al ?_ _)))) HI5.out (by have := HS8.out; simp; omega) ?_; intro u9 w9 h9 hg9; have HE9 : Hid (Ea w6 w9 (1 + Q4) P (i + 1) u9 (Us ++ [.slice A8 n8 c8])) := (HE8.out.up (by repeat (first | exact Bel.rf | (with_reducible refine Bel.drwN ?_ _) | (with_reducible refine Bel.drw ?_) | (with_reducible refine Bel.al ?_ _)))).more (HP8.out.bel (by repeat (first | exact Bel.rf | (with_reducible refine Bel.drwN ?_ _) | (with_reducible refine Bel.drw ?_) | (with_reducible refine Bel.al ?_ _)))) h9 hg9; clear h9 hg9)
      go_roundw
      case rel => exact ⟨i + 1, _, _, _, rfl, rfl, by omega, by go_num, HE9.out.up (by repeat (first | exact Bel.rf | (with_reducible refine Bel.drwN ?_ _) | (with_reducible refine Bel.drw ?_) | (with_reducible refine Bel.al ?_ _)))⟩
      case measure => simp [intOf]; omega
    · obtain rfl : i = q := by omega
      have hpl : P.length = i := HPL.out
      have hea := HEA.out
      rw [← hpl] at hea
      obtain ⟨G2, c2, rfl, hz2⟩ := hea.zp
      rw [hpl] at hz2
      rw [hpl]
      have HZ2 := Lib.hid hz2
      have HCP : Hid (cln (1 + Q4) ((P.map (cln (1 + Q4))).flatten) = cln (1 + Q4) l) := by
        have h := cln_parts (q := 1 + Q4) (by omega) (by omega) P []
        rw [List.nil_append, List.nil_append, HFP.out] at h
        exact h
      have HWR : Hid (Bel w3 wr) := HW6.out.tr HEA.out.bel
      have HP2N : Hid ((P.map (cln (1 + Q4))).flatten.length ≤ 2000) := by have := parts_len (1 + Q4) P; have := HFN.out; show _ ≤ _; omega
      have HP2V : Hid (Vrs (P.map (cln (1 + Q4))).flatten) := parts_vrs _ HVF.out
      clear hea hz2 hpl HEA
      go_wp2_with fail
      go_at_call 16
      refine (merge_ok G2 i c2 (P.map (cln (1 + Q4))) Us (1 + Q4) (by omega) (by omega) (by omega) HP2N.out HP2V.out _ (HZ2.out.bel (by repeat (first | exact Bel.rf | (with_reducible refine Bel.drwN ?_ _) | (with_reducible refine Bel.drw ?_) | (with_reducible refine Bel.al ?_ _))))).mono ?_
      rintro e w7 ⟨vr7, rfl, ho, hb⟩
      rw [HCP.out, HLC.out] at ho
      obtain ⟨A7, c7, rfl, hz7, _⟩ := own_zn ho (HLC.out _)
      have HW7 : Hid (Bel w3 w7) := HWR.out.tr (Bel.tr (by repeat (first | exact Bel.rf | (with_reducible refine Bel.drwN ?_ _) | (with_reducible refine Bel.drw ?_) | (with_reducible refine Bel.al ?_ _))) hb)
      have HR7 : Hid (∀ W, Bel w7 W → Zr W A7 nb (cln (1 + Q4) l)) := fun W hW => hz7.bel hW
      clear ho hb hz7
      go_wp2_with fail
      go_at_call 10
      refine (clean_ok A ca k l (1 + Q4) (by omega) (by omega) (by omega) HV.out _ (HX3.out _ (by repeat (first | exact HW7.out | (with_reducible refine Bel.drwN ?_ _) | (with_reducible refine Bel.drw ?_) | (with_reducible refine Bel.al ?_ _)))) HA.out (fun h => by omega)).mono ?_
      rintro e w8 ⟨vr8, rfl, ho, hb⟩
      rw [HLC.out] at ho
      obtain ⟨A8, c8, rfl, hz8, _⟩ := own_zn ho (HLC.out _)
      have hc78 : Bel w7 w8 := Bel.tr (by repeat (first | exact Bel.rf | (with_reducible refine Bel.drwN ?_ _) | (with_reducible refine Bel.drw ?_) | (with_reducible refine Bel.al ?_ _))) hb
      have HW8 : Hid (Bel w3 w8) := HW7.out.tr hc78
      have HR8 : Hid (∀ W, Bel w8 W → Zr W A7 nb (cln (1 + Q4) l) ∧ Zr W A8 nb (cln (1 + Q4) l)) := fun W hW => ⟨HR7.out W (hc78.tr hW), hz8.bel hW⟩
      clear ho hb hz8 hc78
      go_wp2_with (first
        | (go_at_call 11; refine (same_ok A7 A8 _ _ nb nb (cln (1 + Q4) l) (cln (1 + Q4) l) (by omega) (by omega) _ (HR8.out _ (by repeat (first | exact Bel.rf | (with_reducible refine Bel.drwN ?_ _) | (with_reducible refine Bel.drw ?_) | (with_reducible refine Bel.al ?_ _)))).1 (HR8.out _ (by repeat (first | exact Bel.rf | (with_reducible refine Bel.drwN ?_ _) | (with_reducible refine Bel.drw ?_) | (with_reducible refine Bel.al ?_ _)))).2).mono ?_; rintro e w10 ⟨rfl, hb10⟩; rw [show decide (cln (1 + Q4) l = cln (1 + Q4) l) = true from decide_eq_true rfl]; have HW10 : Hid (Bel w3 w10) := HW8.out.tr (Bel.tr (by repeat (first | exact Bel.rf | (with_reducible refine Bel.drwN ?_ _) | (with_reducible refine Bel.drw ?_) | (with_reducible refine Bel.al ?_ _))) hb10); clear hb10)
        | (go_at_call 12; refine (AW.out _).mono ?_; rintro e w11 ⟨rfl, hb11⟩; have HW11 : Hid (Bel w3 w11) := HW10.out.tr (Bel.tr (by repeat (first | exact Bel.rf | (with_reducible refine Bel.drwN ?_ _) | (with_reducible refine Bel.drw ?_) | (with_reducible refine Bel.al ?_ _))) hb11); clear hb11))
      go_ret
      exact ⟨rfl, (show Bel w _ from (by repeat (first | exact HB3.out.tr HW11.out | (with_reducible refine Bel.drwN ?_ _) | (with_reducible refine Bel.drw ?_) | (with_reducible refine Bel.al ?_ _)))).bl⟩

set_option maxRecDepth 100000 in
theorem lifted (os : Os) (started : os.Started) (H : Type) (enc : TypeId × Value → H) :
    ReturnsInHanded {} Try.checked os 5 .any (Rows.cleanSourcesSpec.pre6 enc Try.prog Try.f5 Rows.cleanSourcesRow.domain false) (Rows.cleanSourcesSpec.post enc Try.prog Try.f5 false true false false) := by
  refine returnsInHanded_of_change (C := Try.checked) own started (by kernel_rfl) Try.func5
    (ChangeSpec.witness6 (enc := enc) (C := Try.checked) false ⟨#[], #[.slice none 0 0, .int .u8 0, .int .u8 0], []⟩ 8 (by kernel_rfl) (by kernel_rfl) (by kernel_rfl) (by kernel_rfl)) ?_
  intro W base args ds gs before hval0 hW hcnd _
  have hval : ∀ (j : Nat) t v, Try.f5.params[j]? = some t → args[j]? = some v → Value.okWide Try.prog W .any base t v := hval0
  have hW' := hW
  obtain ⟨p, q, hA0, hV, rfl, hfz, hnd⟩ := hW
  have hA : DataW.TrodAll enc Try.prog W 0 (fun _ => true) true Try.f5.params.toList args.toList ds p := hA0
  rw [Try.params5] at hA hval
  obtain ⟨v0, vs0, d0, ds0, p0, q0, hargs, rfl, rfl, h0, r0⟩ := trodAll_cons hA
  obtain ⟨v1, vs1, d1, ds1, p1, q1, rfl, rfl, rfl, h1, r1⟩ := trodAll_cons r0
  obtain ⟨v2, vs2, d2, ds2, p2, q2, rfl, rfl, rfl, h2, r2⟩ := trodAll_cons r1
  obtain ⟨rfl, rfl, rfl⟩ := trodAll_nil r2
  obtain rfl : args = #[v0, v1, v2] := by cases args; simp_all
  obtain ⟨rfl, rfl⟩ := trodVars_none hV
  obtain ⟨a0, len0, cap0, rfl⟩ := okWide_slice Try.underlying22 (hval 0 22 v0 rfl rfl)
  have k0 := h0
  have lt0 : ∀ x ∈ p0, x.block < W.heap.size := by obtain ⟨m, hm⟩ := k0; exact DataW.trod_lt m _ _ _ hm
  obtain ⟨z0, w0⟩ : ∃ zs, IsRow .i64 W a0 len0 cap0 zs := by
    obtain ⟨fuel, hf⟩ := h0
    rcases open_ints Try.underlying22 Try.underlying3 (by kernel_rfl) hf with ⟨hcs, _⟩ | ⟨x, l, c, zs, hcs, _, hl, hm, hz, _, hcell, hwz⟩
    · simp [Value.cells] at hcs
      obtain ⟨rfl, rfl, rfl⟩ := hcs
      exact ⟨[], .inl ⟨rfl, rfl, rfl, rfl⟩⟩
    · simp [Value.cells] at hcs
      obtain ⟨rfl, rfl, rfl⟩ := hcs
      exact ⟨zs, .inr ⟨_, rfl, hl, hm, by simpa using hz, hcell, hwz⟩⟩
  obtain ⟨a1, rfl, rfl, rfl, w1⟩ := open_int Try.underlying5 (hval 1 5 v1 rfl rfl) h1
  obtain ⟨a2, rfl, rfl, rfl, w2⟩ := open_int Try.underlying5 (hval 2 5 v2 rfl rfl) h2
  clear hA0 hval0
  refine (walk a0 len0 cap0 z0 a1 a2 W w0 w1 w2).mono fun e W' ⟨he, bel⟩ => ?_
  subst he
  exact ⟨_, rfl, _, _, _, [], _, [], hW', trodAll_mk1 (shut_bool Try.underlying4 _), (trodAll_cons_mk (Below.trod laidOut (by kernel_rfl) (of_decide_eq_true (by kernel_rfl)) k0 bel lt0) (trodAll_cons_mk (shut_int Try.underlying5 w1) (trodAll_cons_mk (shut_int Try.underlying5 w2) trodAll_mk0))), rfl, bel.frame _, fun h => by cases h⟩

theorem over : Rows.cleanSourcesRow.holds Try.pinned (OpenSpec.ofChange Rows.cleanSourcesSpec) :=
  OpenClaim.holds_of_wide 5 Try.f5 rfl rfl rfl rfl rfl rfl rfl ⟨rfl, rfl, rfl, rfl, rfl⟩ rfl rfl rfl rfl rfl (by kernel_rfl) Try.func5 (by kernel_rfl)
    (of_decide_eq_true (by kernel_rfl)) (by unfold Func.isWrapper; first | (rw [if_pos (by decide +kernel)]; kernel_rfl) | (rw [if_neg (by decide +kernel)]; exact ⟨rfl, rfl⟩))
    (fun os started H enc _ => lifted os started H enc)

theorem proved : Rows.CleanSourcesSaid := over
end Go.Proofs.Ytgcjangnlbhicaa.cleanSources
