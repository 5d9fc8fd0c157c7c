/- That the law CodecBack returns true for every input that can be read, and leaves its arguments as they were; no further condition. -/
import Derived.Test.YtoacbboidigphaaRows
import Derived.WalkKit
import Derived.ProofKit
import Derived.OpenShut
import Derived.Test.YtoacbboidigphaaWords
import Derived.Test.YtoacbboidigphaaCodecArg
import Derived.ShutString
import Derived.ChangeOld
import Derived.Below
namespace Go.Proofs.Ytoacbboidigphaa.codecBack
open Go.ChangeShapes Go.WideShapes Go.ChangeAt Go.RowKit Wo
open Go.ChangeMaps (open_string shut_string)
set_option linter.unusedVariables false

theorem own : ownKnob Try.prog.godebug = none := by kernel_rfl
theorem laidOut : laidOutB Try.prog = true := by kernel_rfl

/-- WHAT THE WALK IS TOLD OF A SLICE OF INTEGERS THAT CAME IN: it is nil; or it leads to a row of 'cap' cells, the numbers 'zs' (the first 'len' are its elements, the rest its spare room), each fitting its kind. -/
def IsRow (k : IntKind) (w : World) (a : Option Addr) (len cap : Nat) (zs : List Int) : Prop :=
  (a = none ∧ len = 0 ∧ cap = 0 ∧ zs = []) ∨
  ∃ x, a = some x ∧ len ≤ cap ∧ cap ≤ maxLen ∧ zs.length = cap ∧ (∀ i, i < zs.length → w.cell? (x.add i) = some (.int k (zs.getD i 0))) ∧ ∀ n ∈ zs, (Lit.int k n).wf = true

open Go.Proofs.Ytoacbboidigphaa.Cd Go.Proofs.Ytoacbboidigphaa.Wo Go.Proofs.Ytoacbboidigphaa.By Go.Proofs.Ytoacbboidigphaa.Cr Go.Proofs.Ytoacbboidigphaa.Bm in
set_option maxHeartbeats 16000000 in
set_option maxRecDepth 100000 in
theorem walk (a0 : Int) (a1 : Int) (a2 : Option Addr) (len2 cap2 : Nat) (z2 : List Int) (a3 : Option Addr) (len3 cap3 : Nat) (z3 : List Int) (w : World) (w0 : (Lit.int .i64 a0).wf = true) (w1 : (Lit.int .i64 a1).wf = true) (w2 : IsRow .u8 w a2 len2 cap2 z2) (w3 : IsRow .u8 w a3 len3 cap3 z3) :
    Calls Try.prog 3 #[.int .i64 a0, .int .i64 a1, .slice a2 len2 cap2, .slice a3 len3 cap3] w fun e w' => e = .returned (.bool true) ∧ Below w.heap.size w w' := by
  obtain ⟨B, hBl, hrb, hnb⟩ := rd_in w2
  obtain ⟨M, hMl, hrm, hnm⟩ := rd_in w3
  have b0 := bounds_i64 w0
  have b1 := bounds_i64 w1
  have HB := Lib.hid hrb
  have HM := Lib.hid hrm
  have HNM := Lib.hid hnm
  have HBL := Lib.hid hBl
  have HML := Lib.hid hMl
  have HW := Lib.hid (And.intro w0 (And.intro w1 (And.intro w2 w3)))
  clear hrb hrm hnb hnm hBl hMl w0 w1 w2 w3
  have AW : Hid (∀ W, Calls Try.prog 8 #[] W fun e w' => e = .returned (.bool true) ∧ Bel W w') := awake_any
  rcases Nat.lt_or_ge 100 len2 with h100 | h100
  · have hi : (100 : Int) < (len2 : Int) := by omega
    go_enter Try.func3, Try.ntmps3
    go_wp2_with (go_at_call 8; refine (AW.out _).mono ?_; rintro e w9 ⟨rfl, hb9⟩)
    go_ret
    exact ⟨rfl, hb9.bl⟩
  · have hi : ¬ (100 : Int) < (len2 : Int) := by omega
    have hi2 : (len2 : Int) ≤ 100 := by omega
    rcases Nat.lt_or_ge 100 len3 with g100 | g100
    · have gi : (100 : Int) < (len3 : Int) := by omega
      go_enter Try.func3, Try.ntmps3
      go_wp2_with (go_at_call 8; refine (AW.out _).mono ?_; rintro e w9 ⟨rfl, hb9⟩)
      go_ret
      exact ⟨rfl, hb9.bl⟩
    · have gi : ¬ (100 : Int) < (len3 : Int) := by omega
      have gi2 : (len3 : Int) ≤ 100 := by omega
      obtain ⟨k, hk⟩ : ∃ k, (bytesOf a0).length = k := ⟨_, rfl⟩
      obtain ⟨j, hj⟩ : ∃ k, (bytesOf a1).length = k := ⟨_, rfl⟩
      have lk := enc_len 9 (fld a0)
      have lj := enc_len 9 (fld a1)
      rw [show (enc 9 (fld a0)).length = k from hk] at lk
      rw [show (enc 9 (fld a1)).length = j from hj] at lj
      have k1 := lk.1
      have k2 := lk.2
      have j1 := lj.1
      have j2 := lj.2
      have PA : Hid (∀ W, Rd W a2 len2 B → Calls Try.prog 9 #[.slice a2 len2 cap2, .int .i64 a0] W fun e w' => ∃ h : Nat, e = .returned (.slice (some ⟨h, 0, none⟩) (len2 + k) (len2 + 10)) ∧ W.heap.size ≤ h ∧ Rd w' (some ⟨h, 0, none⟩) (len2 + k) (B ++ bytesOf a0) ∧ Bel W w') :=
        fun W hW => put_as a2 cap2 B a0 len2 k HBL.out hk b0.1 b0.2 (by omega) W hW
      have PB : Hid (∀ W h, Rd W (some ⟨h, 0, none⟩) (len2 + k) (B ++ bytesOf a0) → Calls Try.prog 9 #[.slice (some ⟨h, 0, none⟩) (len2 + k) (len2 + 10), .int .i64 a1] W fun e w' => ∃ h' : Nat, e = .returned (.slice (some ⟨h', 0, none⟩) (len2 + k + j) (len2 + k + 10)) ∧ W.heap.size ≤ h' ∧ Rd w' (some ⟨h', 0, none⟩) (len2 + k + j) (B ++ bytesOf a0 ++ bytesOf a1) ∧ Bel W w') :=
        fun W h hW => put_as (some ⟨h, 0, none⟩) (len2 + 10) (B ++ bytesOf a0) a1 (len2 + k) j (by rw [List.length_append, HBL.out, hk]) hj b1.1 b1.2 (by omega) W hW
      have d1 : dec (B ++ bytesOf a0 ++ bytesOf a1 ++ M) len2 = (a0, ((len2 + k : Nat) : Int), 0) := by
        have := dec_bytes (B := B ++ bytesOf a0 ++ bytesOf a1 ++ M) (rest := bytesOf a1 ++ M) (at_ := len2) b0.1 b0.2 (by
          rw [List.append_assoc, List.append_assoc, List.drop_left' HBL.out])
        rw [this, hk]
      have d2 : dec (B ++ bytesOf a0 ++ bytesOf a1) (len2 + k) = (a1, ((len2 + k + j : Nat) : Int), 0) := by
        have := dec_bytes (B := B ++ bytesOf a0 ++ bytesOf a1) (rest := []) (at_ := len2 + k) b1.1 b1.2 (by
          rw [List.drop_left' (by rw [List.length_append, HBL.out, hk]), List.append_nil])
        rw [this, hj]
      have d3 : dec ((B ++ bytesOf a0 ++ bytesOf a1).take (len2 + k - 1)) len2 = (0, 0, 2) := by
        refine dec_cut (n := a0) (j := k - 1) (by rw [List.length_take, List.length_append, List.length_append, HBL.out, hk]; omega) (by omega) ?_
        rw [List.append_assoc, List.take_append, HBL.out, List.take_of_length_le (by rw [HBL.out]; omega), List.drop_left' HBL.out, show len2 + k - 1 - len2 = k - 1 by omega, List.take_append_of_le_length (by omega)]
      have I1 : Hid (∀ W A c, Rd W A (len2 + k + j + len3) (B ++ bytesOf a0 ++ bytesOf a1 ++ M) → Calls Try.prog 10 #[.slice A (len2 + k + j + len3) c, .int .i64 (len2 : Int)] W fun e w' => e = .returned (.tuple #[.int .i64 a0, .int .i64 ((len2 + k : Nat) : Int), .int .i64 0]) ∧ W = w') :=
        fun W A c hW => int_as A c _ (len2 + k + j + len3) len2 (by rw [List.length_append, List.length_append, List.length_append, HBL.out, HML.out, hk, hj]) _ d1 (by omega) (by omega) W hW
      have I2 : Hid (∀ W A c, Rd W A (len2 + k + j) (B ++ bytesOf a0 ++ bytesOf a1) → Calls Try.prog 10 #[.slice A (len2 + k + j) c, .int .i64 ((len2 + k : Nat) : Int)] W fun e w' => e = .returned (.tuple #[.int .i64 a1, .int .i64 ((len2 + k + j : Nat) : Int), .int .i64 0]) ∧ W = w') :=
        fun W A c hW => int_as A c _ (len2 + k + j) (len2 + k) (by rw [List.length_append, List.length_append, HBL.out, hk, hj]) _ d2 (by omega) (by omega) W hW
      have I3 : Hid (∀ W A c, Rd W A (len2 + k - 1) ((B ++ bytesOf a0 ++ bytesOf a1).take (len2 + k - 1)) → Calls Try.prog 10 #[.slice A (len2 + k - 1) c, .int .i64 (len2 : Int)] W fun e w' => e = .returned (.tuple #[.int .i64 0, .int .i64 0, .int .i64 2]) ∧ W = w') :=
        fun W A c hW => int_as A c _ (len2 + k - 1) len2 (by rw [List.length_take, List.length_append, List.length_append, HBL.out, hk, hj]; omega) _ d3 (by omega) (by omega) W hW
      have HTK : Hid ((B ++ bytesOf a0 ++ bytesOf a1).take len2 = B) := by
        show _ = _
        rw [List.append_assoc, List.take_left' HBL.out]
      have HK := Lib.hid (And.intro hk hj)
      clear d1 d2 d3 hk hj b0 b1 lk lj
      go_enter Try.func3, Try.ntmps3
      go_wp2_with fail
      go_at_call 9
      refine (PA.out _ HB.out).mono ?_
      rintro e v1 ⟨h1, rfl, hh1, hr1, hb1⟩
      have HR1 := Lib.hid hr1
      have HX1 := Lib.hid hb1
      clear hr1 hb1 hh1
      go_wp2_with fail
      go_at_call 9
      refine (PB.out _ _ HR1.out).mono ?_
      rintro e v2 ⟨h2, rfl, hh2, hr2, hb2⟩
      have HR2 := Lib.hid hr2
      have HX2 := Lib.hid (HX1.out.tr hb2)
      clear hr2 hb2 hh2 HR1
      obtain ⟨S, hS⟩ : ∃ S : ByteArray, (⟨(B.map fun x => UInt8.ofNat x).toArray⟩ : ByteArray) = S := ⟨_, rfl⟩
      have st1 : ∀ n, (convert 22 9 (.slice (some ⟨h2, 0, none⟩) len2 (len2 + k + 10))).run Try.prog (v2.drewN n) = .ok (.string S) (v2.drewN n) := fun n => by
        have := run_str (P := Try.prog) (v2.drewN n) 22 9 5 (some ⟨h2, 0, none⟩) len2 (len2 + k + 10) B Try.underlying22 Try.underlying5 Try.underlying9 (by
          have h := rd_take (HR2.out.bel (Bel.rf.drwN n)) len2 (by omega)
          rwa [HTK.out] at h)
        rwa [hS] at this
      have st2 : ∀ n, (convert 22 9 (.slice a2 len2 cap2)).run Try.prog (v2.drewN n) = .ok (.string S) (v2.drewN n) := fun n => by
        have := run_str (P := Try.prog) (v2.drewN n) 22 9 5 a2 len2 cap2 B Try.underlying22 Try.underlying5 Try.underlying9 (HB.out.bel (HX2.out.drwN n))
        rwa [hS] at this
      have HSS := Lib.hid hS
      clear hS
      have q1 : IntKind.i64.wrap ((len2 : Int) + 2) = (len2 : Int) + 2 := IntWalk.i64_in _ (by omega)
      have q2 : IntKind.i64.wrap ((len2 : Int) + 20) = (len2 : Int) + 20 := IntWalk.i64_in _ (by omega)
      have q3 : decide ((len2 : Int) + (k : Int) + (j : Int) < (len2 : Int) + 2) = false := decide_eq_false (by omega)
      have q4 : decide ((len2 : Int) + 20 < (len2 : Int) + (k : Int) + (j : Int)) = false := decide_eq_false (by omega)
      go_wp2_with fail
      go_quiet (fail)
      clear q1 q2 q3 q4 st1 st2
      obtain ⟨i0, hi0, hz0, hz1, hz2⟩ := info_parts info_u8
      have HI := Lib.hid (And.intro hi0 (And.intro hz0 (And.intro hz1 hz2)))
      clear hi0 hz0 hz1 hz2
      have hwv : w.heap.size ≤ v2.heap.size := HX2.out.size
      go_upto_region 7 with (first
        | (at_builtin; refine wpList_append_rd rfl (.tmp 58) (.tmp 59) 22 rfl v2.heap.size 5 i0 (.int .u8 0) Try.underlying22 HI.out.1 HI.out.2.1 HI.out.2.2.1 HI.out.2.2.2 rfl (.slice (some ⟨v2.heap.size, 0, none⟩) 0 0) 0 [] rfl (World.ownsRow_lit (v2.drewN _) #[] 0 (Nat.le_refl _) (by decide) rfl) (some ⟨h2, 0, none⟩) (len2 + k + j) (len2 + k + 10) (B ++ bytesOf a0 ++ bytesOf a1) rfl (HR2.out.bel ((Bel.rf.drwN _).al _)) (fun h => by cases h) (by omega) (by simp) ?_; intro c1 w1 hown1 hg1
           have HV1 : Hid (Bel v2 w1) := Below.grown ((Bel.rf.drwN _).al _).bl hg1 (by simp) (fun b e => by cases e; exact Nat.le_refl _)
           have HX3 : Hid (Bel w w1) := HX2.out.tr HV1.out
           go_loud (have hz1 : v2.heap.size ≤ w1.heap.size := by have := hg1.size; simp at this; omega)
           have HO1 := Lib.hid hown1
           have hc1 : ∀ b, c1.ownBlock = some b → v2.heap.size ≤ b := fun b e => (HO1.out.lt b e).1
           have HC1 := Lib.hid hc1
           clear hown1 hg1 hc1)
        | (at_builtin; refine wpList_append_rd rfl (.tmp 60) (.tmp 61) 22 rfl v2.heap.size 5 i0 (.int .u8 0) Try.underlying22 HI.out.1 HI.out.2.1 HI.out.2.2.1 HI.out.2.2.2 rfl c1 (0 + (len2 + k + j)) ([] ++ bys (B ++ bytesOf a0 ++ bytesOf a1)) rfl HO1.out a3 len3 cap3 M rfl (HM.out.bel HX3.out) HNM.out (by omega) hz1 ?_; intro c2 w2 hown2 hg2
           have HV2 : Hid (Bel v2 w2) := Below.grown HV1.out.bl hg2 (by omega) (fun b e => by have := HC1.out b e; omega)
           obtain ⟨h3, cap4, hv2, hhb, hhl⟩ := hown2.form (show 0 < 0 + (len2 + k + j) + len3 by omega)
           subst hv2
           simp only [Nat.zero_add, List.nil_append, ← bys_app] at hown2
           have HR3 := Lib.hid (Rd.own hown2 (by intro c hc; rcases List.mem_append.1 hc with h | h; exact HR2.out.2.1 c h; exact HM.out.2.1 c h) (by rw [List.length_append, HR2.out.1, HM.out.1]))
           clear hown2 hg2)
        | (go_at_call 10; refine (I1.out _ _ _ HR3.out).mono ?_; rintro e w' ⟨rfl, rfl⟩))
      have HX5 : Hid (Bel w w2) := HX2.out.tr HV2.out
      have HRB := Lib.hid (HR2.out.bel HV2.out)
      have HRC := Lib.hid (rd_take HRB.out (len2 + k - 1) (by omega))
      go_wp2_with fail
      go_at_call 10
      refine (I2.out _ _ _ HRB.out).mono ?_
      rintro e w' ⟨rfl, rfl⟩
      go_wp2_with fail
      go_at_call 10
      refine (I3.out _ _ _ HRC.out).mono ?_
      rintro e w' ⟨rfl, rfl⟩
      go_wp2_with (go_at_call 8; refine (AW.out _).mono ?_; rintro e w9 ⟨rfl, hb9⟩)
      go_ret
      exact ⟨rfl, (HX5.out.tr hb9).bl⟩

set_option maxRecDepth 100000 in
theorem lifted (os : Os) (started : os.Started) (H : Type) (enc : TypeId × Value → H) :
    ReturnsInHanded {} Try.checked os 3 .any (Rows.codecBackSpec.pre6 enc Try.prog Try.f3 Rows.codecBackRow.domain false) (Rows.codecBackSpec.post enc Try.prog Try.f3 false true false false) := by
  refine returnsInHanded_of_change (C := Try.checked) own started (by kernel_rfl) Try.func3
    (ChangeSpec.witness6 (enc := enc) (C := Try.checked) false ⟨#[], #[.int .i64 0, .int .i64 0, .slice none 0 0, .slice none 0 0], []⟩ 8 (by kernel_rfl) (by kernel_rfl) (by kernel_rfl) (by kernel_rfl)) ?_
  intro W base args ds gs before hval0 hW hcnd _
  have hval : ∀ (j : Nat) t v, Try.f3.params[j]? = some t → args[j]? = some v → Value.okWide Try.prog W .any base t v := hval0
  have hW' := hW
  obtain ⟨p, q, hA0, hV, rfl, hfz, hnd⟩ := hW
  have hA : DataW.TrodAll enc Try.prog W 0 (fun _ => true) true Try.f3.params.toList args.toList ds p := hA0
  rw [Try.params3] at hA hval
  obtain ⟨v0, vs0, d0, ds0, p0, q0, hargs, rfl, rfl, h0, r0⟩ := trodAll_cons hA
  obtain ⟨v1, vs1, d1, ds1, p1, q1, rfl, rfl, rfl, h1, r1⟩ := trodAll_cons r0
  obtain ⟨v2, vs2, d2, ds2, p2, q2, rfl, rfl, rfl, h2, r2⟩ := trodAll_cons r1
  obtain ⟨v3, vs3, d3, ds3, p3, q3, rfl, rfl, rfl, h3, r3⟩ := trodAll_cons r2
  obtain ⟨rfl, rfl, rfl⟩ := trodAll_nil r3
  obtain rfl : args = #[v0, v1, v2, v3] := by cases args; simp_all
  obtain ⟨rfl, rfl⟩ := trodVars_none hV
  obtain ⟨a0, rfl, rfl, rfl, w0⟩ := open_int Try.underlying3 (hval 0 3 v0 rfl rfl) h0
  obtain ⟨a1, rfl, rfl, rfl, w1⟩ := open_int Try.underlying3 (hval 1 3 v1 rfl rfl) h1
  obtain ⟨a2, len2, cap2, rfl⟩ := okWide_slice Try.underlying22 (hval 2 22 v2 rfl rfl)
  have k2 := h2
  have lt2 : ∀ x ∈ p2, x.block < W.heap.size := by obtain ⟨m, hm⟩ := k2; exact DataW.trod_lt m _ _ _ hm
  obtain ⟨z2, w2⟩ : ∃ zs, IsRow .u8 W a2 len2 cap2 zs := by
    obtain ⟨fuel, hf⟩ := h2
    rcases open_ints Try.underlying22 Try.underlying5 (by kernel_rfl) hf with ⟨hcs, _⟩ | ⟨x, l, c, zs, hcs, _, hl, hm, hz, _, hcell, hwz⟩
    · simp [Value.cells] at hcs
      obtain ⟨rfl, rfl, rfl⟩ := hcs
      exact ⟨[], .inl ⟨rfl, rfl, rfl, rfl⟩⟩
    · simp [Value.cells] at hcs
      obtain ⟨rfl, rfl, rfl⟩ := hcs
      exact ⟨zs, .inr ⟨_, rfl, hl, hm, by simpa using hz, hcell, hwz⟩⟩
  obtain ⟨a3, len3, cap3, rfl⟩ := okWide_slice Try.underlying22 (hval 3 22 v3 rfl rfl)
  have k3 := h3
  have lt3 : ∀ x ∈ p3, x.block < W.heap.size := by obtain ⟨m, hm⟩ := k3; exact DataW.trod_lt m _ _ _ hm
  obtain ⟨z3, w3⟩ : ∃ zs, IsRow .u8 W a3 len3 cap3 zs := by
    obtain ⟨fuel, hf⟩ := h3
    rcases open_ints Try.underlying22 Try.underlying5 (by kernel_rfl) hf with ⟨hcs, _⟩ | ⟨x, l, c, zs, hcs, _, hl, hm, hz, _, hcell, hwz⟩
    · simp [Value.cells] at hcs
      obtain ⟨rfl, rfl, rfl⟩ := hcs
      exact ⟨[], .inl ⟨rfl, rfl, rfl, rfl⟩⟩
    · simp [Value.cells] at hcs
      obtain ⟨rfl, rfl, rfl⟩ := hcs
      exact ⟨zs, .inr ⟨_, rfl, hl, hm, by simpa using hz, hcell, hwz⟩⟩
  clear hA0 hval0
  refine (walk a0 a1 a2 len2 cap2 z2 a3 len3 cap3 z3 W w0 w1 w2 w3).mono fun e W' ⟨he, bel⟩ => ?_
  subst he
  exact ⟨_, rfl, _, _, _, [], _, [], hW', trodAll_mk1 (shut_bool Try.underlying4 _), (trodAll_cons_mk (shut_int Try.underlying3 w0) (trodAll_cons_mk (shut_int Try.underlying3 w1) (trodAll_cons_mk (Below.trod laidOut (by kernel_rfl) (of_decide_eq_true (by kernel_rfl)) k2 bel lt2) (trodAll_cons_mk (Below.trod laidOut (by kernel_rfl) (of_decide_eq_true (by kernel_rfl)) k3 bel lt3) trodAll_mk0)))), rfl, bel.frame _, fun h => by cases h⟩

theorem over : Rows.codecBackRow.holds Try.pinned (OpenSpec.ofChange Rows.codecBackSpec) :=
  OpenClaim.holds_of_wide 3 Try.f3 rfl rfl rfl rfl rfl rfl rfl ⟨rfl, rfl, rfl, rfl, rfl⟩ rfl rfl rfl rfl rfl (by kernel_rfl) Try.func3 (by kernel_rfl)
    (of_decide_eq_true (by kernel_rfl)) (by unfold Func.isWrapper; first | (rw [if_pos (by decide +kernel)]; kernel_rfl) | (rw [if_neg (by decide +kernel)]; exact ⟨rfl, rfl⟩))
    (fun os started H enc _ => lifted os started H enc)

theorem proved : Rows.CodecBackSaid := over
end Go.Proofs.Ytoacbboidigphaa.codecBack
