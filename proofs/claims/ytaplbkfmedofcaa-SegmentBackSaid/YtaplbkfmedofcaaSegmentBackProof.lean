/- That the law SegmentBack returns true for every input that can be read, and leaves its arguments as they were; no further condition. -/
import Derived.Test.YtaplbkfmedofcaaRows
import Derived.WalkKit
import Derived.ProofKit
import Derived.OpenShut
import Derived.Test.YtaplbkfmedofcaaWords
import Derived.Test.YtaplbkfmedofcaaSrcNew0
import Derived.Test.YtaplbkfmedofcaaSgR
import Derived.ShutString
import Derived.ChangeOld
import Derived.Below
namespace Go.Proofs.Ytaplbkfmedofcaa.segmentBack
open Go.ChangeShapes Go.WideShapes Go.ChangeAt Go.RowKit Wo
open Go.ChangeMaps (open_string shut_string)
set_option linter.unusedVariables false

theorem own : ownKnob Try.prog.godebug = none := by kernel_rfl
theorem laidOut : laidOutB Try.prog = true := by kernel_rfl

/-- WHAT THE WALK IS TOLD OF A SLICE OF INTEGERS THAT CAME IN: it is nil; or it leads to a row of 'cap' cells, the numbers 'zs' (the first 'len' are its elements, the rest its spare room), each fitting its kind. -/
def IsRow (k : IntKind) (w : World) (a : Option Addr) (len cap : Nat) (zs : List Int) : Prop :=
  (a = none ∧ len = 0 ∧ cap = 0 ∧ zs = []) ∨
  ∃ x, a = some x ∧ len ≤ cap ∧ cap ≤ maxLen ∧ zs.length = cap ∧ (∀ i, i < zs.length → w.cell? (x.add i) = some (.int k (zs.getD i 0))) ∧ ∀ n ∈ zs, (Lit.int k n).wf = true

open Go.Proofs.Ytaplbkfmedofcaa.Pk Go.Proofs.Ytaplbkfmedofcaa.Sg Go.Proofs.Ytaplbkfmedofcaa.Wi Go.Proofs.Ytaplbkfmedofcaa.Wo Go.Proofs.Ytaplbkfmedofcaa.Sr Go.Proofs.Ytaplbkfmedofcaa.By Go.Proofs.Ytaplbkfmedofcaa.Bm Go.Proofs.Ytaplbkfmedofcaa.Cd Go.Proofs.Ytaplbkfmedofcaa.Cr in
theorem seg_zero (x : List Int) : (seg x).getD 0 0 = kd x := by simp [seg, bod]
open Go.Proofs.Ytaplbkfmedofcaa.Pk Go.Proofs.Ytaplbkfmedofcaa.Sg Go.Proofs.Ytaplbkfmedofcaa.Wi Go.Proofs.Ytaplbkfmedofcaa.Wo Go.Proofs.Ytaplbkfmedofcaa.Sr Go.Proofs.Ytaplbkfmedofcaa.By Go.Proofs.Ytaplbkfmedofcaa.Bm Go.Proofs.Ytaplbkfmedofcaa.Cd Go.Proofs.Ytaplbkfmedofcaa.Cr in
set_option maxHeartbeats 8000000 in
set_option maxRecDepth 100000 in
theorem walk (a0 : Option Addr) (len0 cap0 : Nat) (z0 : List Int) (a1 : Option Addr) (len1 cap1 : Nat) (z1 : List Int) (w : World) (w0 : IsRow .i64 w a0 len0 cap0 z0) (w1 : IsRow .u8 w a1 len1 cap1 z1) :
    Calls Try.prog 3 #[.slice a0 len0 cap0, .slice a1 len1 cap1] w fun e w' => e = .returned (.bool true) ∧ Below w.heap.size w w' := by
  have AW : Hid (∀ W, Calls Try.prog 8 #[] W fun e w' => e = .returned (.bool true) ∧ Bel W w') := awake10_ok
  have hcap : len1 ≤ cap1 ∧ cap1 ≤ maxLen := by
    rcases w1 with ⟨_, h1, h2, _⟩ | ⟨_, _, h1, h2, _⟩
    · unfold maxLen; omega
    · exact ⟨h1, h2⟩
  obtain ⟨P, hPl, hrd, _⟩ := Sg.rd_in w1
  obtain ⟨hcc, hcm⟩ := hcap
  clear w1
  rcases Nat.lt_or_ge 400 len1 with h4 | h4
  · have h5 : (400 : Int) < (len1 : Int) := by omega
    clear h4 w0 hrd
    go_enter Try.func3, Try.ntmps3
    go_wp2_with (go_at_call 8; refine (AW.out _).mono ?_; rintro e w9 ⟨rfl, hb9⟩)
    go_ret
    exact ⟨rfl, hb9.bl⟩
  · have h5 : ¬ (400 : Int) < (len1 : Int) := by omega
    have HRD := Lib.hid hrd
    have HDP : Hid (∀ W, Bel w W → _) := fun W hW => dec_any a1 cap1 len1 P (by omega) hcc hcm W (hrd.bel hW)
    have HPL := Lib.hid (And.intro hPl (And.intro hcc hcm))
    clear hrd hcc hcm hPl
    go_enter Try.func3, Try.ntmps3
    go_wp2_with fail
    go_at_call 10
    refine (new_any a0 len0 cap0 z0 w w0).mono ?_
    rintro e v1 ⟨g, rfl, hg, ho1, hb1⟩
    have HO1 := Lib.hid ho1
    have HB1 := Lib.hid hb1
    clear ho1 hb1 w0
    go_wp2_with fail
    go_at_call 9
    refine (made_ok g _ HO1.out).mono ?_
    rintro e v2 ⟨h, c0, k, x, rfl, hz, hk, hkc, hv, hsz, ho2, hc2⟩
    have HB2 : Hid (Bel w v2) := Bel.ch HB1.out hc2 hg
    have HE1 : Hid (∀ W, Bel v2 W → _) := fun W hW => enc_ok h 0 c0 k x hv hk W (hz.bel hW)
    obtain ⟨n, hn⟩ : ∃ n, (seg x).length = n := ⟨_, rfl⟩
    have hpl := (seg_len hv).1
    have hpu := (seg_len hv).2.1
    rw [hn] at hpl hpu
    have HME : Hid (∀ W, Bel v2 W → _) := fun W hW => meas_ok (some ⟨h, 0, none⟩) c0 k x hv hk W (hz.bel hW)
    have hks := kd_lt x
    have HSM : Hid (∀ (g1 c1 : Nat) W, n ≤ c1 → c1 ≤ maxLen → Rd W (some ⟨g1, 0, none⟩) n (seg x) → Calls Try.prog 13 #[.slice (some ⟨g1, 0, none⟩) n c1] W fun e w' => e = .returned (.tuple #[.agg #[.int .i64 (kd x : Int), .int .i64 (k : Int), .int .i64 (mn x), .int .i64 (mx x), .int .i64 x.sum], .int .i64 0]) ∧ Bel W w') := fun g1 c1 W a b hr => by
      have h9 := sum_ok (some ⟨g1, 0, none⟩) c1 n x hv (by omega) a b W hr
      rw [hk] at h9
      exact h9
    have HV := Lib.hid hv
    have HZ := Lib.hid hz
    have HN := Lib.hid (And.intro hn hk)
    have hk1 : 1 ≤ k ∧ k ≤ 64 := by have := hv.1; have := hv.2.1; omega
    clear hz hv hk ho2 hc2 hn hsz
    go_wp2_with fail
    go_at_call 11
    refine (HE1.out _ (by first | exact Bel.rf | exact Bel.rf.drwN _)).mono ?_
    rintro e v5 ⟨u0, rfl, ho5, hb5⟩
    have HB5 : Hid (Bel v2 v5) := by first | exact hb5 | exact (Bel.rf.drwN _).tr hb5
    obtain ⟨h1, c1, rfl, hc1, hm1, _, hr1⟩ := own_rd ho5 (seg_byte HV.out) rfl (by rw [HN.out.1]; omega)
    rw [HN.out.1] at hr1 hc1 ⊢
    have HR1 := Lib.hid hr1
    have HC1 := Lib.hid (And.intro hc1 hm1)
    have HD1 : Hid (∀ W, Bel v5 W → _) := fun W hW => dec_any (some ⟨h1, 0, none⟩) c1 n (seg x) (by omega) hc1 hm1 W (hr1.bel hW)
    clear hr1 hb5 ho5 hc1 hm1
    go_wp2_with fail
    go_at_call 12
    refine (HD1.out _ (by first | exact Bel.rf | exact Bel.rf.drwN _)).mono ?_
    rintro e v6 ⟨A6, n6, c6, L6, er, rfl, hz6, h61, h62, h63, h64, h65, hb6, _, _, hx6⟩
    obtain ⟨her, hLx⟩ := hx6 x HV.out rfl
    subst her hLx
    have HB6 : Hid (Bel v5 v6) := by first | exact hb6 | exact (Bel.rf.drwN _).tr hb6
    have hn6 := hz6.1
    obtain rfl : n6 = k := by have := HN.out.2; omega
    have HIN : Hid (∀ W, Bel v6 W → _) := fun W hW => Wi.ints_same (some ⟨h, 0, none⟩) A6 c0 c6 n6 L6 (by omega) W (HZ.out.bel (HB5.out.tr (HB6.out.tr hW))) (hz6.bel hW)
    clear hb6 hx6 hz6 h64 h65 hn6
    go_wp2_with fail
    go_at_call 13
    refine (HSM.out _ _ _ HC1.out.1 HC1.out.2 (by first | exact HR1.out.bel HB6.out | exact HR1.out.bel (HB6.out.drwN _))).mono ?_
    rintro e v7 ⟨rfl, hb7⟩
    have HB7 : Hid (Bel v6 v7) := by first | exact hb7 | exact (Bel.rf.drwN _).tr hb7
    clear hb7
    obtain ⟨m, hm⟩ : ∃ m, mn L6 = m := ⟨_, rfl⟩
    obtain ⟨M, hM⟩ : ∃ m, mx L6 = m := ⟨_, rfl⟩
    obtain ⟨s, hs⟩ : ∃ m, L6.sum = m := ⟨_, rfl⟩
    obtain ⟨q, hq⟩ : ∃ q, kd L6 = q := ⟨_, rfl⟩
    have HMM : Hid (∀ W, Bel v2 W → Calls Try.prog 15 #[.slice (some ⟨h, 0, none⟩) n6 c0] W fun e w' => e = .returned (.agg #[.int .i64 0, .int .i64 (n6 : Int), .int .i64 m, .int .i64 M, .int .i64 s]) ∧ Bel W w') := fun W hW => by
      have h9 := HME.out W hW
      rw [hm, hM, hs] at h9
      exact h9
    have hc0 : (seg L6).getD 0 0 = q := by rw [seg_zero, hq]
    rw [hm, hM, hs, hq]
    rw [hq] at hks
    have HQ := Lib.hid hc0
    clear hm hM hs hq hc0 HME
    go_upto_region 7 with fail
    obtain ⟨W8, hW8⟩ : ∃ W8, v7.alloc (.cells #[.int .i64 (q : Int), .int .i64 (n6 : Int), .int .i64 m, .int .i64 M, .int .i64 s] 34) = W8 := ⟨_, rfl⟩
    rw [hW8]
    have HK8 : Hid (Bk W8 v7.heap.size 34 #[.int .i64 (q : Int), .int .i64 (n6 : Int), .int .i64 m, .int .i64 M, .int .i64 s]) := by rw [← hW8]; exact Bk.nw _ _ _
    have HB8 : Hid (Bel v6 W8) := by rw [← hW8]; exact HB7.out.al _
    clear hW8
    have n9 : ¬ (n : Int) < 9 := by omega
    go_upto_region 9 with (go_at_call 14; refine (HIN.out _ (by first | exact HB8.out | exact HB8.out.drwN _)).mono ?_; rintro e w9 ⟨rfl, hb9⟩; have HB9 : Hid (Bel W8 w9) := (by first | exact hb9 | exact (Bel.rf.drwN _).tr hb9); clear hb9)
    go_upto_region 10 with (go_at_call 15; refine (HMM.out _ (by first | exact HB5.out.tr (HB6.out.tr (HB8.out.tr HB9.out)) | exact (HB5.out.tr (HB6.out.tr (HB8.out.tr HB9.out))).drwN _)).mono ?_; rintro e wa ⟨rfl, hba⟩; have HBA : Hid (Bel w9 wa) := (by first | exact hba | exact (Bel.rf.drwN _).tr hba); clear hba)
    obtain ⟨WB, hWB⟩ : ∃ WB, wa.alloc (.cells #[.int .i64 0, .int .i64 (n6 : Int), .int .i64 m, .int .i64 M, .int .i64 s] 34) = WB := ⟨_, rfl⟩
    rw [hWB]
    have hkb : Bk WB wa.heap.size 34 #[.int .i64 0, .int .i64 (n6 : Int), .int .i64 m, .int .i64 M, .int .i64 s] := by rw [← hWB]; exact Bk.nw _ _ _
    have hba : Bel W8 WB := by rw [← hWB]; exact (HB9.out.tr HBA.out).al _
    have hsz : v7.heap.size < wa.heap.size := by have := (HK8.out.bel (HB9.out.tr HBA.out)).lt; omega
    have b0 : WB.cell? ⟨wa.heap.size, 0, none⟩ = some (.int .i64 0) := hkb.cell 0
    have f0 := hkb.fr 0
    have hbx : Bel v5 WB := HB6.out.tr (HB8.out.tr hba)
    have cq : WB.cell? ⟨h1, 0, none⟩ = some (.int .u8 (q : Int)) := by
      obtain ⟨ad, e, _, hc⟩ := (HR1.out.bel hbx).2.2 (by omega)
      cases e
      have := hc 0 (by omega)
      rwa [By.add_row, HQ.out] at this
    have hk2 := (hkb.st 0 (.int .i64 (q : Int)))
    have hk1' := ((HK8.out.bel hba).far (p := ⟨wa.heap.size, 0, none⟩) (by show v7.heap.size ≠ wa.heap.size; omega) (.int .i64 (q : Int)))
    have hbc : Bel w (WB.setCell ⟨wa.heap.size, 0, none⟩ (.int .i64 (q : Int))) := (HB2.out.tr (HB5.out.tr hbx)).st (by
      have := (HB2.out.tr (HB5.out.tr (HB6.out.tr (HB8.out.tr (HB9.out.tr HBA.out))))).size
      exact this) _
    have HKH := Lib.hid (And.intro hk1' hk2)
    have HBC0 := Lib.hid hbc
    have i0 : (0 : Int) < (n : Int) := by omega
    have i1 : 0 < n := by omega
    have q256 : (q : Int) < 256 := by omega
    clear hWB hkb hba hsz hbx hk2 hk1' hbc
    go_upto_region 11 with fail
    obtain ⟨WC, hWC⟩ : ∃ WC, WB.setCell ⟨wa.heap.size, 0, none⟩ (.int .i64 (q : Int)) = WC := ⟨_, rfl⟩
    rw [hWC] at HKH HBC0 ⊢
    have HBC : Hid (Bel w WC) := HBC0.out
    have HK1 : Hid (Bk WC v7.heap.size 34 #[.int .i64 (q : Int), .int .i64 (n6 : Int), .int .i64 m, .int .i64 M, .int .i64 s]) := HKH.out.1
    have HK2 : Hid (Bk WC wa.heap.size 34 #[.int .i64 (q : Int), .int .i64 (n6 : Int), .int .i64 m, .int .i64 M, .int .i64 s]) := HKH.out.2
    clear b0 f0 cq hWC HKH HBC0 HK8
    go_wp2_with fail
    go_at_call 12
    refine (HDP.out _ (by first | exact HBC.out | exact HBC.out.drwN _)).mono ?_
    rintro e wd ⟨A8, n8, c8, L8, er2, rfl, hz8, h81, h82, h83, h84, h85, hb8, hn8, hy8, _⟩
    have HBD : Hid (Bel WC wd) := by first | exact hb8 | exact (Bel.rf.drwN _).tr hb8
    have HZ8 := Lib.hid hz8
    rcases Classical.em (er2 = 0) with her | her
    · subst her
      obtain ⟨hv8, hs8⟩ := hy8 rfl
      have hl8 := hz8.1
      obtain ⟨ad8, rfl, _⟩ := hz8.2 (by have := hv8.1; omega)
      obtain ⟨g8, rfl, _⟩ := h85 ad8 rfl
      have HE2 : Hid (∀ W, Bel wd W → _) := fun W hW => enc_ok g8 0 c8 n8 L8 hv8 hl8 W (hz8.bel hW)
      rw [hs8] at HE2
      have hpb : ∀ c ∈ P, c < 256 := HRD.out.2.1
      have hlp := HPL.out.1
      have hn9' := (seg_len hv8).1
      rw [hs8] at hn9'
      clear hz8 hb8 hn8 hy8 h84 h85 hv8 hs8 hl8
      go_wp2_with fail
      go_at_call 11
      refine (HE2.out _ (by first | exact Bel.rf | exact Bel.rf.drwN _)).mono ?_
      rintro e we ⟨u2, rfl, ho2, hb2⟩
      have HBE : Hid (Bel wd we) := by first | exact hb2 | exact (Bel.rf.drwN _).tr hb2
      obtain ⟨h2, c2, rfl, _, _, _, hr2⟩ := own_rd ho2 hpb rfl (by omega)
      rw [hlp] at hr2 ⊢
      have s1 : ∀ n, (convert 23 9 (.slice (some ⟨h2, 0, none⟩) len1 c2)).run Try.prog (we.drewN n) = .ok (.string (sb P)) (we.drewN n) := fun n => str_rd (hr2.bel (Bel.rf.drwN n))
      have s2 : ∀ n, (convert 23 9 (.slice a1 len1 cap1)).run Try.prog (we.drewN n) = .ok (.string (sb P)) (we.drewN n) := fun n => str_rd ((HRD.out.bel (HBC.out.tr (HBD.out.tr HBE.out))).bel (Bel.rf.drwN n))
      have s3 := str_rd (c := c2) hr2
      have s4 := str_rd (c := cap1) (HRD.out.bel (HBC.out.tr (HBD.out.tr HBE.out)))
      obtain ⟨S, hS⟩ : ∃ S, sb P = S := ⟨_, rfl⟩
      simp only [hS] at s1 s2 s3 s4
      have p0 := (HK1.out.bel (HBD.out.tr HBE.out)).cell 0
      have p1 := (HK1.out.bel (HBD.out.tr HBE.out)).cell 1
      have p2 := (HK1.out.bel (HBD.out.tr HBE.out)).cell 2
      have p3 := (HK1.out.bel (HBD.out.tr HBE.out)).cell 3
      have p4 := (HK1.out.bel (HBD.out.tr HBE.out)).cell 4
      have r0 := (HK2.out.bel (HBD.out.tr HBE.out)).cell 0
      have r1 := (HK2.out.bel (HBD.out.tr HBE.out)).cell 1
      have r2 := (HK2.out.bel (HBD.out.tr HBE.out)).cell 2
      have r3 := (HK2.out.bel (HBD.out.tr HBE.out)).cell 3
      have r4 := (HK2.out.bel (HBD.out.tr HBE.out)).cell 4
      simp only [List.getElem?_toArray, List.getElem?_cons_zero, List.getElem?_cons_succ] at p0 p1 p2 p3 p4 r0 r1 r2 r3 r4
      clear ho2 hb2 hr2 hS hpb hlp hn9'
      go_wp2_with (go_at_call 8; refine (AW.out _).mono ?_; rintro e w9 ⟨rfl, hb9⟩)
      go_ret
      exact ⟨rfl, (HBC.out.tr (HBD.out.tr (HBE.out.tr (by first | exact hb9 | exact (Bel.rf.drwN _).tr hb9)))).bl⟩
    · have hq : (er2 != 0) = true := by simpa using her
      obtain ⟨rfl, rfl, rfl⟩ := hn8 her
      have HE2 : Hid (∀ W, Bel wd W → _) := fun W hW => enc_bad none 0 0 L8 (by omega) (fun hv => by have := hv.1; have := hz8.1; omega) W (hz8.bel hW)
      clear hz8 hb8 hn8 hy8 h84 h85 her
      go_wp2_with fail
      go_at_call 11
      refine (HE2.out _ (by first | exact Bel.rf | exact Bel.rf.drwN _)).mono ?_
      rintro e we ⟨er3, rfl, _, hb2⟩
      have HBE : Hid (Bel wd we) := by first | exact hb2 | exact (Bel.rf.drwN _).tr hb2
      have p0 := (HK1.out.bel (HBD.out.tr HBE.out)).cell 0
      have p1 := (HK1.out.bel (HBD.out.tr HBE.out)).cell 1
      have p2 := (HK1.out.bel (HBD.out.tr HBE.out)).cell 2
      have p3 := (HK1.out.bel (HBD.out.tr HBE.out)).cell 3
      have p4 := (HK1.out.bel (HBD.out.tr HBE.out)).cell 4
      have r0 := (HK2.out.bel (HBD.out.tr HBE.out)).cell 0
      have r1 := (HK2.out.bel (HBD.out.tr HBE.out)).cell 1
      have r2 := (HK2.out.bel (HBD.out.tr HBE.out)).cell 2
      have r3 := (HK2.out.bel (HBD.out.tr HBE.out)).cell 3
      have r4 := (HK2.out.bel (HBD.out.tr HBE.out)).cell 4
      simp only [List.getElem?_toArray, List.getElem?_cons_zero, List.getElem?_cons_succ] at p0 p1 p2 p3 p4 r0 r1 r2 r3 r4
      clear hb2
      go_wp2_with (go_at_call 8; refine (AW.out _).mono ?_; rintro e w9 ⟨rfl, hb9⟩)
      go_ret
      exact ⟨rfl, (HBC.out.tr (HBD.out.tr (HBE.out.tr (by first | exact hb9 | exact (Bel.rf.drwN _).tr hb9)))).bl⟩

set_option maxRecDepth 100000 in
theorem lifted (os : Os) (started : os.Started) (H : Type) (enc : TypeId × Value → H) :
    ReturnsInHanded {} Try.checked os 3 .any (Rows.segmentBackSpec.pre6 enc Try.prog Try.f3 Rows.segmentBackRow.domain false) (Rows.segmentBackSpec.post enc Try.prog Try.f3 false true false false) := by
  refine returnsInHanded_of_change (C := Try.checked) own started (by kernel_rfl) Try.func3
    (ChangeSpec.witness6 (enc := enc) (C := Try.checked) false ⟨#[], #[.slice none 0 0, .slice none 0 0], []⟩ 8 (by kernel_rfl) (by kernel_rfl) (by kernel_rfl) (by kernel_rfl)) ?_
  intro W base args ds gs before hval0 hW hcnd _
  have hval : ∀ (j : Nat) t v, Try.f3.params[j]? = some t → args[j]? = some v → Value.okWide Try.prog W .any base t v := hval0
  have hW' := hW
  obtain ⟨p, q, hA0, hV, rfl, hfz, hnd⟩ := hW
  have hA : DataW.TrodAll enc Try.prog W 0 (fun _ => true) true Try.f3.params.toList args.toList ds p := hA0
  rw [Try.params3] at hA hval
  obtain ⟨v0, vs0, d0, ds0, p0, q0, hargs, rfl, rfl, h0, r0⟩ := trodAll_cons hA
  obtain ⟨v1, vs1, d1, ds1, p1, q1, rfl, rfl, rfl, h1, r1⟩ := trodAll_cons r0
  obtain ⟨rfl, rfl, rfl⟩ := trodAll_nil r1
  obtain rfl : args = #[v0, v1] := by cases args; simp_all
  obtain ⟨rfl, rfl⟩ := trodVars_none hV
  obtain ⟨a0, len0, cap0, rfl⟩ := okWide_slice Try.underlying22 (hval 0 22 v0 rfl rfl)
  have k0 := h0
  have lt0 : ∀ x ∈ p0, x.block < W.heap.size := by obtain ⟨m, hm⟩ := k0; exact DataW.trod_lt m _ _ _ hm
  obtain ⟨z0, w0⟩ : ∃ zs, IsRow .i64 W a0 len0 cap0 zs := by
    obtain ⟨fuel, hf⟩ := h0
    rcases open_ints Try.underlying22 Try.underlying3 (by kernel_rfl) hf with ⟨hcs, _⟩ | ⟨x, l, c, zs, hcs, _, hl, hm, hz, _, hcell, hwz⟩
    · simp [Value.cells] at hcs
      obtain ⟨rfl, rfl, rfl⟩ := hcs
      exact ⟨[], .inl ⟨rfl, rfl, rfl, rfl⟩⟩
    · simp [Value.cells] at hcs
      obtain ⟨rfl, rfl, rfl⟩ := hcs
      exact ⟨zs, .inr ⟨_, rfl, hl, hm, by simpa using hz, hcell, hwz⟩⟩
  obtain ⟨a1, len1, cap1, rfl⟩ := okWide_slice Try.underlying23 (hval 1 23 v1 rfl rfl)
  have k1 := h1
  have lt1 : ∀ x ∈ p1, x.block < W.heap.size := by obtain ⟨m, hm⟩ := k1; exact DataW.trod_lt m _ _ _ hm
  obtain ⟨z1, w1⟩ : ∃ zs, IsRow .u8 W a1 len1 cap1 zs := by
    obtain ⟨fuel, hf⟩ := h1
    rcases open_ints Try.underlying23 Try.underlying5 (by kernel_rfl) hf with ⟨hcs, _⟩ | ⟨x, l, c, zs, hcs, _, hl, hm, hz, _, hcell, hwz⟩
    · simp [Value.cells] at hcs
      obtain ⟨rfl, rfl, rfl⟩ := hcs
      exact ⟨[], .inl ⟨rfl, rfl, rfl, rfl⟩⟩
    · simp [Value.cells] at hcs
      obtain ⟨rfl, rfl, rfl⟩ := hcs
      exact ⟨zs, .inr ⟨_, rfl, hl, hm, by simpa using hz, hcell, hwz⟩⟩
  clear hA0 hval0
  refine (walk a0 len0 cap0 z0 a1 len1 cap1 z1 W w0 w1).mono fun e W' ⟨he, bel⟩ => ?_
  subst he
  exact ⟨_, rfl, _, _, _, [], _, [], hW', trodAll_mk1 (shut_bool Try.underlying4 _), (trodAll_cons_mk (Below.trod laidOut (by kernel_rfl) (of_decide_eq_true (by kernel_rfl)) k0 bel lt0) (trodAll_cons_mk (Below.trod laidOut (by kernel_rfl) (of_decide_eq_true (by kernel_rfl)) k1 bel lt1) trodAll_mk0)), rfl, bel.frame _, fun h => by cases h⟩

theorem over : Rows.segmentBackRow.holds Try.pinned (OpenSpec.ofChange Rows.segmentBackSpec) :=
  OpenClaim.holds_of_wide 3 Try.f3 rfl rfl rfl rfl rfl rfl rfl ⟨rfl, rfl, rfl, rfl, rfl⟩ rfl rfl rfl rfl rfl (by kernel_rfl) Try.func3 (by kernel_rfl)
    (of_decide_eq_true (by kernel_rfl)) (by unfold Func.isWrapper; first | (rw [if_pos (by decide +kernel)]; kernel_rfl) | (rw [if_neg (by decide +kernel)]; exact ⟨rfl, rfl⟩))
    (fun os started H enc _ => lifted os started H enc)

theorem proved : Rows.SegmentBackSaid := over
end Go.Proofs.Ytaplbkfmedofcaa.segmentBack
