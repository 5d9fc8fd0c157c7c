/- That the law CodecBits returns true for every input that can be read, and leaves its arguments as they were; no further condition. -/
import Derived.Test.YtoacbboidigphaaRows
import Derived.WalkKit
import Derived.ProofKit
import Derived.OpenShut
import Derived.Test.YtoacbboidigphaaWords
import Derived.Test.YtoacbboidigphaaFlip
import Derived.Test.YtoacbboidigphaaCodecAwake
import Derived.Test.YtoacbboidigphaaCodecArg
import Derived.ShutString
import Derived.ChangeOld
import Derived.Below
namespace Go.Proofs.Ytoacbboidigphaa.codecBits
open Go.ChangeShapes Go.WideShapes Go.ChangeAt Go.RowKit Wo
open Go.ChangeMaps (open_string shut_string)
set_option linter.unusedVariables false

theorem own : ownKnob Try.prog.godebug = none := by kernel_rfl
theorem laidOut : laidOutB Try.prog = true := by kernel_rfl

/-- WHAT THE WALK IS TOLD OF A SLICE OF INTEGERS THAT CAME IN: it is nil; or it leads to a row of 'cap' cells, the numbers 'zs' (the first 'len' are its elements, the rest its spare room), each fitting its kind. -/
def IsRow (k : IntKind) (w : World) (a : Option Addr) (len cap : Nat) (zs : List Int) : Prop :=
  (a = none ∧ len = 0 ∧ cap = 0 ∧ zs = []) ∨
  ∃ x, a = some x ∧ len ≤ cap ∧ cap ≤ maxLen ∧ zs.length = cap ∧ (∀ i, i < zs.length → w.cell? (x.add i) = some (.int k (zs.getD i 0))) ∧ ∀ n ∈ zs, (Lit.int k n).wf = true

open Go.Proofs.Ytoacbboidigphaa.Pk Go.Proofs.Ytoacbboidigphaa.Cd Go.Proofs.Ytoacbboidigphaa.Wo Go.Proofs.Ytoacbboidigphaa.By Go.Proofs.Ytoacbboidigphaa.Sr Go.Proofs.Ytoacbboidigphaa.Bm in
set_option maxHeartbeats 16000000 in
set_option maxRecDepth 100000 in
theorem walk (a0 : Option Addr) (len0 cap0 : Nat) (z0 : List Int) (a1 : Int) (w : World) (w0 : IsRow .i64 w a0 len0 cap0 z0) (w1 : (Lit.int .i64 a1).wf = true) :
    Calls Try.prog 5 #[.slice a0 len0 cap0, .int .i64 a1] w fun e w' => e = .returned (.bool true) ∧ Below w.heap.size w w' := by
  obtain ⟨i0, hi0, hz0, hz1, hz2⟩ := info_parts info_int
  have HI := Lib.hid (And.intro hi0 (And.intro hz0 (And.intro hz1 hz2)))
  clear hi0 hz0 hz1 hz2
  obtain ⟨j0, hi0, hz0, hz1, hz2⟩ := info_parts info_u8
  have HJ := Lib.hid (And.intro hi0 (And.intro hz0 (And.intro hz1 hz2)))
  clear hi0 hz0 hz1 hz2
  have b1 := bounds_i64 w1
  have HW1 := Lib.hid w1
  clear w1
  have AW : Hid (∀ W, Calls Try.prog 8 #[] W fun e w' => e = .returned (.bool true) ∧ Bel W w') := awake_any
  go_enter Try.func5, Try.ntmps5
  go_wp2_with fail
  go_at_call 11
  refine (new_any a0 len0 cap0 z0 w w0).mono ?_
  rintro e w1 ⟨g, rfl, hg, ho1, hb1⟩
  have HO1 := Lib.hid ho1
  have HB1 := Lib.hid hb1
  clear ho1 hb1 w0
  go_wp2_with fail
  go_at_call 17
  refine (range_any g 1 12 (by decide) (by decide) (by decide) _ HO1.out).mono ?_
  rintro e w2 ⟨q0, rfl, hq1, hq12, ho2, hc2⟩
  obtain ⟨q, rfl⟩ := Int.eq_ofNat_of_zero_le (show 0 ≤ q0 by omega)
  have HO2 := Lib.hid ho2
  have HC2 := Lib.hid hc2
  clear ho2 hc2 HO1
  go_wp2_with fail
  go_at_call 12
  refine (n_any g 20 (by decide) (by decide) _ HO2.out).mono ?_
  rintro e w3 ⟨n0, rfl, hn0, hn1, ho3, hc3⟩
  obtain ⟨m, hm⟩ : ∃ m, 2 ^ q = m := ⟨_, rfl⟩
  obtain ⟨sh1, sh2, sh3⟩ := shl_one (show q < 20 by omega)
  rw [hm] at sh1 sh2 sh3
  have HM := Lib.hid hm
  have HR0 : Hid (RowJ (n0 + 1) m g w3.heap.size w (.slice none 0 0) (.int .i64 n0) w3) :=
    ⟨n0 + 1, by congr 1; omega, 0, [], _, _, rfl, rfl, by omega, by congr 1; omega, World.ownsRow_nil _ _ _ _, rfl, by simp, ho3, Bel.ch HB1.out (HC2.out.tr hc3) hg, Nat.le_refl _⟩
  have hgb : g < w3.heap.size := ho3.lt
  clear ho3 hc3 HO2 HC2 HB1 hm
  go_wp2
  go_loopw [7, 8] (fun s7 s8 wr => RowJ (n0 + 1) m g w3.heap.size w s7 s8 wr) (fun _ s8 _ => (intOf s8 + 1).toNat)
  case atStart => exact HR0.out
  case round =>
    clear HR0
    obtain ⟨z, rfl, k, L, wr, u4, hwr, hu4, hk, hz, hown, hL, hv, hog, hb, hbase⟩ := hrel
    subst hwr hu4
    obtain rfl : z = n0 + 1 - k := by injection hz
    clear hz
    have HO := Lib.hid hown
    have HL := Lib.hid hL
    have HV := Lib.hid hv
    have HG := Lib.hid hog
    have HB := Lib.hid hb
    clear hown hL hv hog hb
    rcases Int.lt_or_le (n0 - k) 0 with hneg | hpos
    · have bn : decide (0 ≤ n0 + 1 - (k : Int) - 1) = false := decide_eq_false (by omega)
      obtain rfl : n0 = (k : Int) - 1 := by omega
      obtain ⟨A, c, rfl, hri, -⟩ := row_ri HO.out HL.out
      obtain rfl : L.length = k := HL.out
      have h2 : L.length ≤ 2000 := by omega
      have h59 : (L.length : Int) ≤ 20 := by omega
      have h1L : 1 ≤ L.length := by omega
      have HF : Hid (∀ n ∈ L, n < 2 ^ q) := by
        intro n hn
        rw [HM.out]
        exact HV.out n hn
      have hwd := wd_fit (show q ≤ 19 by omega) HF.out
      have HWD := Lib.hid hwd
      obtain ⟨N, hN⟩ : ∃ N, (L.length * q + 7) / 8 = N := ⟨_, rfl⟩
      have P1 : Hid _ := pack_ok (c := c) hN h2 (by omega) HWD.out.2 HWD.out.1 hri
      have qN1 : 1 ≤ L.length * q := Nat.mul_pos (by omega) (by omega)
      have qN2 : L.length * q ≤ 20 * 12 := Nat.mul_le_mul (by omega) (by omega)
      have qN : ((L.length * q : Nat) : Int) ≤ 240 := by omega
      have N1 : 1 ≤ N := by omega
      have N2 : N ≤ 31 := by omega
      have Ni : (N : Int) ≤ 31 := by omega
      have nq : ((N : Int) != ((L.length : Int) * (q : Int) + 7) / 8) = false := by
        rw [← hN]
        simp
      have hmod := mod_any a1 (8 * (N : Int)) (by omega) (by omega) b1.1 b1.2
      obtain ⟨K, hK⟩ := Int.eq_ofNat_of_zero_le (Int.emod_nonneg a1 (b := 8 * (N : Int)) (by omega))
      have hKl := Int.emod_lt_of_pos a1 (b := 8 * (N : Int)) (by omega)
      rw [hK] at hmod hKl
      have JM := Lib.hid hmod
      have K8 : K < 8 * N := by omega
      have KN : (K : Int) / 8 < (N : Int) := by omega
      have US : Hid (∀ A' c' W, Rd W A' N (turned (packed L q) K) → _) := fun A' c' W hW => unpack_any A' c' (turned (packed L q) K) q L.length N hN h2 (by omega) W hW
      have hplen : (packed L q).length = N := by rw [← hN]; exact bytesK_len _ _ _ _
      have HPL := Lib.hid hplen
      have HN := Lib.hid hN
      have HK := Lib.hid hK
      have HRI := Lib.hid hri
      have HNN := Lib.hid (And.intro qN1 qN2)
      clear HO HL HV HG hri hN hK hmod b1 hwd hplen HI qN1 qN2 HM
      go_wp2_with fail
      go_at_call 14
      refine (P1.out _ Bel.rf).mono ?_
      rintro e v1 ⟨h1, rfl, hr1, -, hb1⟩
      have HR1 := Lib.hid hr1
      have HX1 := Lib.hid hb1
      clear hr1 hb1
      go_wp2_with fail
      go_at_call 18
      refine (JM.out _).mono ?_
      rintro e w' ⟨rfl, rfl⟩
      go_upto_region 13 with (first
        | (at_builtin; refine wpList_append_rd rfl (.tmp 57) (.tmp 58) 22 rfl v1.heap.size 5 j0 (.int .u8 0) Try.underlying22 HJ.out.1 HJ.out.2.1 HJ.out.2.2.1 HJ.out.2.2.2 rfl (.slice (some ⟨v1.heap.size, 0, none⟩) 0 0) 0 [] rfl (World.ownsRow_lit v1 #[] 0 (Nat.le_refl _) (by decide) rfl) (some ⟨h1, 0, none⟩) N N (packed L q) rfl (HR1.out.bel (Bel.rf.al _)) (fun h => by cases h) (by omega) (by simp) ?_; intro c2 v2 hown2 hg2))
      have HO2 := Lib.hid hown2
      obtain ⟨hh, cap1, hv1, hhb, hhl⟩ := HO2.out.form (show 0 < 0 + N by omega)
      subst hv1
      simp only [Nat.zero_add, List.nil_append] at hown2
      have HO := Lib.hid hown2
      have HX2 : Hid (Bel v1 v2) := Below.grown ((Bel.rf.al _).bl) hg2 (by simp) (fun b e => by cases e; exact Nat.le_refl _)
      have hpl : ∀ c ∈ packed L q, c < 256 := bytesK_lt _ _ _ _
      have hbl : (packed L q).getD (K / 8) 0 < 256 := by rw [show packed L q = bytesK L q ((L.length * q + 7) / 8) (L.length * q) from rfl, bytesK_at (by rw [HN.out]; omega)]; exact pk_lt (fb_lt L q) _ _
      obtain ⟨b, hb⟩ : ∃ b, (packed L q).getD (K / 8) 0 = b := ⟨_, rfl⟩
      have c1 : v2.cell? ⟨hh, K / 8, none⟩ = some (.int .u8 (b : Int)) := by
        rw [HO.out.cellAt (K / 8) (by omega), bys_at (by rw [HPL.out]; omega), hb]
      have f1 : v2.frozen? ⟨hh, K / 8, none⟩ = false := HO.out.frozenAt _
      rw [hb] at hbl
      have hpw : (2 : Nat) ^ (K % 8) ≤ 2 ^ 7 := Nat.pow_le_pow_right (by omega) (by omega)
      obtain ⟨y, hy⟩ : ∃ y, b ^^^ 2 ^ (K % 8) = y := ⟨_, rfl⟩
      have hyl : y < 256 := by rw [← hy]; exact Nat.xor_lt_two_pow (n := 8) hbl (by omega)
      have hset : (packed L q).set (K / 8) y = turned (packed L q) K := by unfold turned; rw [hb, hy]
      have hrs := rd_set (i := K / 8) (x := y) HO.out hpl HPL.out hyl
      rw [hset] at hrs
      have HS := Lib.hid hrs
      have e3 := xor_u8 hbl (show 2 ^ (K % 8) < 256 by omega)
      rw [hy] at e3
      obtain ⟨p, hp⟩ : ∃ p, 2 ^ (K % 8) = p := ⟨_, rfl⟩
      have e2 : (2 : Int) ^ (K % 8) % 256 = (p : Int) := by
        rw [show (2 : Int) ^ (K % 8) = ((2 ^ (K % 8) : Nat) : Int) by simp, hp]
        rw [hp] at hpw
        omega
      rw [hp] at e3
      have HYP := Lib.hid (And.intro hy hp)
      have HB2 := Lib.hid (And.intro hb hset)
      clear hy hp hb hset hrs hown2 hg2 hpw hpl HO2
      go_wp2
      go_region
      have HXS : Hid (Bel v1 (v2.setCell ⟨hh, K / 8, none⟩ (.int .u8 (y : Int))).drew) := (HX2.out.st (by exact hhb) _).drw
      have HSD := Lib.hid (HS.out.bel (Bel.rf.drw))
      clear HS
      generalize hW3 : (v2.setCell ⟨hh, K / 8, none⟩ (.int .u8 (y : Int))).drew = v3 at *
      clear hW3 c1 f1 e2 e3
      have hle : (L.length : Int) * (q : Int) = ((L.length * q : Nat) : Int) := by simp
      rcases Nat.lt_or_ge K (L.length * q) with hKL | hKL
      · have bk : decide ((L.length : Int) * (q : Int) ≤ (K : Int)) = false := decide_eq_false (by omega)
        have HKL := Lib.hid hKL
        have hq0 : (0 : Int) < (q : Int) := by omega
        obtain ⟨d, hd⟩ : ∃ d, K / q = d := ⟨_, rfl⟩
        obtain ⟨r, hr⟩ : ∃ r, K % q = r := ⟨_, rfl⟩
        have d1 : (K : Int) / (q : Int) = (d : Int) := by rw [← hd]; simp
        have r1 : (K : Int) % (q : Int) = (r : Int) := by rw [← hr]; simp
        have d2 : (K : Int).tdiv (q : Int) = (d : Int) := by rw [Int.tdiv_eq_ediv_of_nonneg (by omega)]; exact d1
        have r2 : (K : Int).tmod (q : Int) = (r : Int) := by rw [Int.tmod_eq_emod_of_nonneg (by omega)]; exact r1
        have hne : (q : Int) ≠ 0 := by omega
        have hdl : d ≤ 248 := by have := Nat.div_le_self K q; omega
        have di : (d : Int) ≤ 248 := by omega
        have ri : (r : Int) < 12 := by have := Nat.mod_lt K (show q > 0 by omega); omega
        have hr12 : r < 12 := by have := Nat.mod_lt K (show q > 0 by omega); omega
        obtain ⟨s1, s2, s3⟩ := shl_one (show r < 20 by omega)
        have s4 := shl_one4 (show r < 20 by omega)
        obtain ⟨p2, hp2⟩ : ∃ p, 2 ^ r = p := ⟨_, rfl⟩
        rw [hp2] at s1 s2 s3 s4
        have hp2l : p2 < 1048576 := Nat.lt_of_le_of_lt s2 (by decide)
        have VF : Hid (∀ i, i < L.length → (vals (turned (packed L q) K) q L.length).getD i 0 = if i = d then L.getD i 0 ^^^ p2 else L.getD i 0) := by
          intro i hi
          rw [vals_flip HF.out (by omega) HKL.out hi, hd, hr, hp2]
        have HDR := Lib.hid (And.intro hd (And.intro hr hp2))
        have hneN : q ≠ 0 := by omega
        have wd1 : IntKind.i64.wrap (d : Int) = (d : Int) := IntWalk.i64_in _ (by omega)
        have wr1 : IntKind.i64.wrap (r : Int) = (r : Int) := IntWalk.i64_in _ (by omega)
        clear hKL hle hp2
        go_wp2_with fail
        go_at_call 15
        refine (US.out _ _ _ HSD.out).mono ?_
        rintro e v4 h4
        rcases h4 with ⟨_, g4, rfl, hri4, _, hb4⟩ | ⟨⟨K', hK1, hK2, hK3⟩, _⟩
        rotate_left
        · exact absurd (flip_rest HN.out HKL.out K' hK1 hK2) hK3
        have HR4 := Lib.hid hri4
        have HX4 := Lib.hid ((HX1.out.tr HXS.out).tr hb4)
        clear hb4 hri4
        go_wp2
        go_loopw [100] (fun s100 wt => ∃ (i : Nat) (V : World), V = wt ∧ i ≤ L.length ∧ s100 = .int .i64 (i : Int) ∧ Bel v4 wt) (fun s100 _ => L.length - (intOf s100).toNat)
        case atStart => exact ⟨0, _, rfl, by omega, rfl, Bel.rf⟩
        case round =>
          obtain ⟨i, wt, hwt, hi, rfl, hbt⟩ := hrel
          subst hwt
          have HT := Lib.hid hbt
          rcases Nat.lt_or_ge i L.length with hlt | hge
          · obtain ⟨ad, hA, hab, hac⟩ := (Ri.bel HRI.out (HX4.out.tr hbt)).2 (by omega)
            subst hA
            obtain ⟨ad', hA', hab', hac'⟩ := (Ri.bel HR4.out hbt).2 (by omega)
            have c3 := hac i hlt
            have c4 := hac' i hlt
            have hv := VF.out i hlt
            have hmem : L.getD i 0 < 524288 := HWD.out.2 _ (by rw [List.getD_eq_getElem?_getD, List.getElem?_eq_getElem hlt]; exact List.getElem_mem hlt)
            have ii : (i : Int) < (L.length : Int) := by omega
            obtain ⟨u, hu⟩ : ∃ u, L.getD i 0 = u := ⟨_, rfl⟩
            rw [hu] at c3 hv hmem
            have HU := Lib.hid hu
            cases hA'
            rw [add_row] at c4
            clear hbt hac hac' hab hab' hu
            rcases Classical.em (i = d) with hid | hid
            · subst hid
              rw [if_pos rfl] at hv
              obtain ⟨v, hv2⟩ : ∃ v, u ^^^ p2 = v := ⟨_, rfl⟩
              have e3 := xor_i64 (a := u) (b := p2) (Nat.lt_trans hmem (by decide)) hp2l
              rw [hv, hv2] at c4
              rw [hv2] at e3
              have kn := int_ne_self (v : Int)
              have HV2 := Lib.hid hv2
              clear hv hv2
              go_wp2
              go_big_quiet (fail)
              go_wp2
              go_roundw
              case rel => exact ⟨i + 1, _, rfl, by omega, by go_num, HT.out.drwN _⟩
              case measure => simp [intOf]; omega
            · have t1 : ((i : Int) == (d : Int)) = false := by rw [beq_eq_false_iff_ne]; omega
              have t2 : ((i : Int) != (d : Int)) = true := by simp; omega
              rw [if_neg hid] at hv
              rw [hv] at c4
              have kn := int_ne_self (u : Int)
              clear hv hid
              go_wp2
              go_big_quiet (fail)
              go_wp2
              go_roundw
              case rel => exact ⟨i + 1, _, rfl, by omega, by go_num, HT.out.drwN _⟩
              case measure => simp [intOf]; omega
          · obtain rfl : i = L.length := by omega
            clear hbt
            go_wp2_with (go_at_call 8; refine (AW.out _).mono ?_; rintro e w9 ⟨rfl, hb9⟩)
            go_ret
            exact ⟨rfl, (((HB.out.tr HX4.out).tr HT.out).tr hb9).bl⟩
      · have bk : decide ((L.length : Int) * (q : Int) ≤ (K : Int)) = true := decide_eq_true (by omega)
        have HKL := Lib.hid hKL
        clear hKL hle
        go_wp2_with fail
        go_at_call 15
        refine (US.out _ _ _ HSD.out).mono ?_
        rintro e v4 h4
        rcases h4 with ⟨h4, _⟩ | ⟨_, rfl, hb4⟩
        · exact absurd (h4 K HKL.out K8) (flip_pad HKL.out (by rw [HN.out]; exact K8))
        have HX4 := Lib.hid hb4
        clear hb4
        go_wp2_with (go_at_call 8; refine (AW.out _).mono ?_; rintro e w9 ⟨rfl, hb9⟩)
        go_ret
        exact ⟨rfl, ((((HB.out.tr HX1.out).tr HXS.out).tr HX4.out).tr hb9).bl⟩
    · have bn : decide (0 ≤ n0 + 1 - (k : Int) - 1) = true := decide_eq_true (by omega)
      go_wp2_with fail
      go_at_call 12
      refine (n_any g _ (by omega) (by omega) _ HG.out).mono ?_
      rintro e w4 ⟨y0, rfl, hy0, hy1, ho4, hc4⟩
      obtain ⟨y, rfl⟩ := Int.eq_ofNat_of_zero_le hy0
      have HO4 := Lib.hid ho4
      have HC4 := Lib.hid hc4
      have hown1 := HO.out.kept HC4.out (by
        rcases hob : u4.ownBlock with _ | q
        · exact .inl rfl
        · exact .inr (fun e => by injection e with e; have := (HO.out.lt q hob).1; omega))
      have hsz := HC4.out.sz
      have HOW := Lib.hid hown1
      clear ho4 hc4 hown1
      go_wp2_with (at_builtin; refine wpList_append_lies _ (by rfl) _ _ 29 (by rfl) w3.heap.size 3 i0 _ 1 8 Try.underlying29 HI.out.1 HI.out.2.1 HI.out.2.2.1 HI.out.2.2.2 (by rfl) (by omega) u4 k (nums L) (by rfl) (HOW.out.alloc _) ⟨w4.heap.size, 0, none⟩ 1 1 [.int .i64 (y : Int)] (by rfl) (by rfl) (World.news_of_block (cs := #[.int .i64 (y : Int)]) (t := 3) (fr := (0, 0)) (heap_alloc_new w4 _)) (by simp [Value.oneCell']) (by omega) (by unfold maxLen; omega) (by omega) (by simp; omega) (w4.heap.size + 1) (by simp) ?_; intro h cap w5 hown4 hgrow hat hlt4)
      have hstep := rowi_step (n0 := n0 + 1) (m := m) (n := y) hgb hg (by omega) HL.out HV.out (by omega) HO.out HO4.out HC4.out HB.out hbase hown4 hgrow
      have HST := Lib.hid hstep
      clear hstep hown4 hgrow hat
      go_wp2
      go_roundw
      case rel => exact ⟨_, by congr 1, HST.out⟩
      case measure => simp [intOf]; omega

set_option maxRecDepth 100000 in
theorem lifted (os : Os) (started : os.Started) (H : Type) (enc : TypeId × Value → H) :
    ReturnsInHanded {} Try.checked os 5 .any (Rows.codecBitsSpec.pre6 enc Try.prog Try.f5 Rows.codecBitsRow.domain false) (Rows.codecBitsSpec.post enc Try.prog Try.f5 false true false false) := by
  refine returnsInHanded_of_change (C := Try.checked) own started (by kernel_rfl) Try.func5
    (ChangeSpec.witness6 (enc := enc) (C := Try.checked) false ⟨#[], #[.slice none 0 0, .int .i64 0], []⟩ 8 (by kernel_rfl) (by kernel_rfl) (by kernel_rfl) (by kernel_rfl)) ?_
  intro W base args ds gs before hval0 hW hcnd _
  have hval : ∀ (j : Nat) t v, Try.f5.params[j]? = some t → args[j]? = some v → Value.okWide Try.prog W .any base t v := hval0
  have hW' := hW
  obtain ⟨p, q, hA0, hV, rfl, hfz, hnd⟩ := hW
  have hA : DataW.TrodAll enc Try.prog W 0 (fun _ => true) true Try.f5.params.toList args.toList ds p := hA0
  rw [Try.params5] at hA hval
  obtain ⟨v0, vs0, d0, ds0, p0, q0, hargs, rfl, rfl, h0, r0⟩ := trodAll_cons hA
  obtain ⟨v1, vs1, d1, ds1, p1, q1, rfl, rfl, rfl, h1, r1⟩ := trodAll_cons r0
  obtain ⟨rfl, rfl, rfl⟩ := trodAll_nil r1
  obtain rfl : args = #[v0, v1] := by cases args; simp_all
  obtain ⟨rfl, rfl⟩ := trodVars_none hV
  obtain ⟨a0, len0, cap0, rfl⟩ := okWide_slice Try.underlying29 (hval 0 29 v0 rfl rfl)
  have k0 := h0
  have lt0 : ∀ x ∈ p0, x.block < W.heap.size := by obtain ⟨m, hm⟩ := k0; exact DataW.trod_lt m _ _ _ hm
  obtain ⟨z0, w0⟩ : ∃ zs, IsRow .i64 W a0 len0 cap0 zs := by
    obtain ⟨fuel, hf⟩ := h0
    rcases open_ints Try.underlying29 Try.underlying3 (by kernel_rfl) hf with ⟨hcs, _⟩ | ⟨x, l, c, zs, hcs, _, hl, hm, hz, _, hcell, hwz⟩
    · simp [Value.cells] at hcs
      obtain ⟨rfl, rfl, rfl⟩ := hcs
      exact ⟨[], .inl ⟨rfl, rfl, rfl, rfl⟩⟩
    · simp [Value.cells] at hcs
      obtain ⟨rfl, rfl, rfl⟩ := hcs
      exact ⟨zs, .inr ⟨_, rfl, hl, hm, by simpa using hz, hcell, hwz⟩⟩
  obtain ⟨a1, rfl, rfl, rfl, w1⟩ := open_int Try.underlying3 (hval 1 3 v1 rfl rfl) h1
  clear hA0 hval0
  refine (walk a0 len0 cap0 z0 a1 W w0 w1).mono fun e W' ⟨he, bel⟩ => ?_
  subst he
  exact ⟨_, rfl, _, _, _, [], _, [], hW', trodAll_mk1 (shut_bool Try.underlying4 _), (trodAll_cons_mk (Below.trod laidOut (by kernel_rfl) (of_decide_eq_true (by kernel_rfl)) k0 bel lt0) (trodAll_cons_mk (shut_int Try.underlying3 w1) trodAll_mk0)), rfl, bel.frame _, fun h => by cases h⟩

theorem over : Rows.codecBitsRow.holds Try.pinned (OpenSpec.ofChange Rows.codecBitsSpec) :=
  OpenClaim.holds_of_wide 5 Try.f5 rfl rfl rfl rfl rfl rfl rfl ⟨rfl, rfl, rfl, rfl, rfl⟩ rfl rfl rfl rfl rfl (by kernel_rfl) Try.func5 (by kernel_rfl)
    (of_decide_eq_true (by kernel_rfl)) (by unfold Func.isWrapper; first | (rw [if_pos (by decide +kernel)]; kernel_rfl) | (rw [if_neg (by decide +kernel)]; exact ⟨rfl, rfl⟩))
    (fun os started H enc _ => lifted os started H enc)

theorem proved : Rows.CodecBitsSaid := over
end Go.Proofs.Ytoacbboidigphaa.codecBits
