/- That the law ReadingComments returns true for every input that can be read, and leaves its arguments as they were; the package variables that it lists start as the program lays them, which the card ties to the text; no further condition. -/
import Derived.Test.YtagodfielmdfhaaGreatDoorRows
import Derived.WalkKit
import Derived.ProofKit
import Derived.OpenShut
import Derived.LaidMore
import Derived.Stop.Joined
import Derived.SevenTiedAt
import Derived.Test.YtagodfielmdfhaaGreatDoorCards
import Derived.Test.YtagodfielmdfhaaGreatDoorTie
import Derived.Test.YtagodfielmdfhaaGreatDoorWords
import Derived.Test.YtagodfielmdfhaaGreatDoorSrcNew0
import Derived.Test.YtagodfielmdfhaaGreatDoorRtO
import Derived.ShutString
import Derived.ChangeOld
import Derived.Below
namespace Go.Proofs.YtagodfielmdfhaaGreatDoor.readingComments
open Go.ChangeShapes Go.WideShapes Go.ChangeAt Go.RowKit Wo
open Go.ChangeMaps (open_string shut_string)
set_option linter.unusedVariables false

theorem own : ownKnob Tryz.prog.godebug = none := by kernel_rfl
theorem laidOut : laidOutB Tryz.prog = true := by kernel_rfl

/-- WHAT THE WALK IS TOLD OF A SLICE OF INTEGERS THAT CAME IN: it is nil; or it leads to a row of 'cap' cells, the numbers 'zs' (the first 'len' are its elements, the rest its spare room), each fitting its kind. -/
def IsRow (k : IntKind) (w : World) (a : Option Addr) (len cap : Nat) (zs : List Int) : Prop :=
  (a = none ∧ len = 0 ∧ cap = 0 ∧ zs = []) ∨
  ∃ x, a = some x ∧ len ≤ cap ∧ cap ≤ maxLen ∧ zs.length = cap ∧ (∀ i, i < zs.length → w.cell? (x.add i) = some (.int k (zs.getD i 0))) ∧ ∀ n ∈ zs, (Lit.int k n).wf = true

open Go.Proofs.YtagodfielmdfhaaGreatDoor.Rt Go.Proofs.YtagodfielmdfhaaGreatDoor.Un Go.Proofs.YtagodfielmdfhaaGreatDoor.Rg Go.Proofs.YtagodfielmdfhaaGreatDoor.Wi Go.Proofs.YtagodfielmdfhaaGreatDoor.Wo Go.Proofs.YtagodfielmdfhaaGreatDoor.Sr in
set_option maxHeartbeats 8000000 in
set_option maxRecDepth 100000 in
theorem walk (a0 : Option Addr) (len0 cap0 : Nat) (z0 : List Int) (a1 : Int) (a2 : ByteArray) (w : World) (hL : Rt.Lr w) (w0 : IsRow .i64 w a0 len0 cap0 z0) (w1 : (Lit.int .u8 a1).wf = true) (w2 : a2.size ≤ maxLen) :
    Calls Tryz.prog 6 #[.slice a0 len0 cap0, .int .u8 a1, .string a2] w fun e w' => e = .returned (.bool true) ∧ Below w.heap.size w w' := by
  obtain ⟨hu0, hu1⟩ := bounds_u8 w1
  clear w1
  have HL := Lib.hid hL
  clear hL
  have AW : Hid (∀ W, Bel w W → Calls Tryz.prog 13 #[] W fun e w' => e = .returned (.bool true) ∧ Bel W w') := fun W hW => awake_any W (HL.out.bel hW).2
  have HPR : Hid (∀ (s : ByteArray) (l : List (Int × Int)) (k : Nat) (er : Int), s.size ≤ 16384 → run US2 (lns s.data.toList) 1 [] = (l, k, er) → ∀ (h : Nat) (W : World), Bel w W → Zu W h US2 → Calls Tryz.prog 10 #[.string s, .slice (some ⟨h, 0, none⟩) 2 2] W (Par l k er W)) := fun s l k er hs hr h W hW hZ => parse_is s hs hr h W hZ (HL.out.bel hW).2
  rcases Nat.lt_or_ge 100 a2.size with h100 | h100
  · have q : (100 : Int) < (a2.size : Int) := by omega
    go_enter Tryz.func6, Tryz.ntmps6
    go_wp2_with fail
    go_at_call 13
    refine (AW.out _ Bel.rf).mono ?_
    rintro e v1 ⟨rfl, hb1⟩
    go_wp2
    go_ret
    exact ⟨rfl, hb1.bl⟩
  · have q : ¬ (100 : Int) < (a2.size : Int) := by omega
    have cs : (a2.size : Int) ≤ 100 := by omega
    go_enter Tryz.func6, Tryz.ntmps6
    go_wp2
    go_loopw [7] (fun s7 wr => ∃ (i : Nat) (V : World), V = wr ∧ i ≤ a2.size ∧ s7 = .int .i64 (i : Int) ∧ (10 : UInt8) ∉ a2.data.toList.take i ∧ wr = w) (fun s7 _ => a2.size - (intOf s7).toNat)
    case atStart => exact ⟨0, _, rfl, by omega, rfl, by simp, by first | rfl | trivial⟩
    case round =>
      obtain ⟨i, wr, hwr, hi, rfl, hno, hwe⟩ := hrel
      subst hwr hwe
      have HNO := Lib.hid hno
      clear hno
      rcases Nat.lt_or_ge i a2.size with hlt | hge
      · have ki : (i : Int) < (a2.size : Int) := by omega
        obtain ⟨c, hc⟩ : ∃ c, a2[i] = c := ⟨_, rfl⟩
        have hsn : a2.data.toList.take (i + 1) = a2.data.toList.take i ++ [c] := by rw [take_snoc a2 i hlt, hc]
        have HSN := Lib.hid hsn
        clear hsn
        rcases Classical.em (c.toNat = 10) with h10 | h10
        · have c1 : ((c.toNat : Int) == 10) = true := by simpa using (by omega : (c.toNat : Int) = 10)
          have c2 : (c.toNat : Int) = 10 := by omega
          go_wp2_with fail
          go_at_call 13
          refine (AW.out _ Bel.rf).mono ?_
          rintro e v1 ⟨rfl, hb1⟩
          go_wp2
          go_ret
          exact ⟨rfl, hb1.bl⟩
        · have c1 : ((c.toNat : Int) == 10) = false := by simpa using (by omega : ¬ (c.toNat : Int) = 10)
          have c2 : ¬ (c.toNat : Int) = 10 := by omega
          go_wp2
          go_roundw
          case rel => exact ⟨i + 1, _, rfl, by omega, by go_num, by
            rw [HSN.out]
            intro h
            rcases List.mem_append.1 h with h | h
            · exact HNO.out h
            · simp at h; rw [← h] at h10; exact h10 rfl, by first | rfl | trivial⟩
          case measure => simp [intOf]; omega
      · obtain rfl : i = a2.size := by omega
        have hnl : (10 : UInt8) ∉ a2.data.toList := by
          have := HNO.out
          rwa [List.take_of_length_le (by rw [← Lib.size_eq]; exact Nat.le_refl _)] at this
        clear HNO
        go_wp2_with fail
        go_at_call 7
        refine (new_any a0 len0 cap0 z0 _ w0).mono ?_
        rintro e v1 ⟨g, rfl, hg, ho1, hb1⟩
        have HO1 := Lib.hid ho1
        have HB1 : Hid (Bel wr v1) := hb1
        clear ho1 hb1
        go_wp2_with fail
        go_at_call 8
        refine (readings_new g 10 (by decide) _ HO1.out).mono ?_
        rintro e v2 ⟨v, k, l, rfl, hown, hl, hk, hv, ho2, hc2⟩
        have HB2 : Hid (Bel wr v2) := Bel.ch HB1.out hc2 hg
        obtain ⟨A, ca, rfl, hz, hA, hca⟩ := own_zr2 hown hl
        have HZ := Lib.hid hz
        have HV := Lib.hid hv
        have HLN := Lib.hid (And.intro hl hk)
        have lk : (k : Int) ≤ 10 := by omega
        obtain ⟨K, hK, hKk⟩ : ∃ K : Nat, a1 % ((k : Int) + 1) = (K : Int) ∧ K ≤ k := by
          have h1 := Int.emod_nonneg a1 (b := (k : Int) + 1) (by omega)
          have h2 := Int.emod_lt_of_pos a1 (b := (k : Int) + 1) (by omega)
          exact ⟨(a1 % ((k : Int) + 1)).toNat, by omega, by omega⟩
        have HMD : Hid (∀ W, Calls Tryz.prog 14 #[.int .i64 a1, .int .i64 ((k : Int) + 1)] W fun e w' => e = .returned (.int .i64 (K : Int)) ∧ W = w') := fun W => by rw [← hK]; exact mod_any a1 ((k : Int) + 1) (by omega) (by omega) (by omega) (by omega) W
        have HKK := Lib.hid hKk
        have b0 : (0 : Int) ≤ (K : Int) := by omega
        have b1 : (K : Int) ≤ (ca : Int) := by omega
        have b2 : (K : Int) ≤ (k : Int) := by omega
        have b3 : (k : Int) ≤ (ca : Int) := by omega
        clear hown hl hk hv ho2 hc2 hz hK hKk
        go_wp2_with fail
        go_at_call 14
        refine (HMD.out _).mono ?_
        rintro e v3 ⟨rfl, rfl⟩
        obtain ⟨s, hs⟩ : ∃ s : ByteArray, (⟨(ft (l.take K)).toArray⟩ : ByteArray) = s := ⟨_, rfl⟩
        obtain ⟨t, ht⟩ : ∃ s : ByteArray, (⟨(ft (l.drop K)).toArray⟩ : ByteArray) = s := ⟨_, rfl⟩
        have hvt : Vrs (l.take K) := vrs_take HV.out K
        have hvd : Vrs (l.drop K) := vrs_drop HV.out K
        have HF : Hid (∀ (A : Option Addr) (c : Nat), ZrO v2 A K (l.take K) → Calls Tryz.prog 9 #[.slice A K c] v2 fun e w' => e = .returned (.tuple #[.string s, .int .i64 0]) ∧ Bel v2 w') := fun A c hz => by
          rw [← hs]; exact format_okO A c K _ (by omega) hvt v2 hz (tab_bel HL.out HB2.out)
        have HG : Hid (∀ (A : Option Addr) (c : Nat) (W : World), Bel v2 W → ZrO v2 A (k - K) (l.drop K) → Calls Tryz.prog 9 #[.slice A (k - K) c] W fun e w' => e = .returned (.tuple #[.string t, .int .i64 0]) ∧ Bel W w') := fun A c W hW hz => by
          rw [← ht]; exact format_okO A c (k - K) _ (by omega) hvd W (hz.bel hW) (tab_bel HL.out (HB2.out.tr hW))
        have hsd : s.data.toList = ft (l.take K) := by rw [← hs]
        have htd : t.data.toList = ft (l.drop K) := by rw [← ht]
        have HTX : Hid ((s ++ ⟨#[35]⟩ ++ a2 ++ ⟨#[10, 10]⟩ ++ t).data.toList = ft (l.take K) ++ [35] ++ a2.data.toList ++ [10, 10] ++ ft (l.drop K)) := by
          unfold Hid
          simp only [ByteArray.data_append, Array.toList_append, hsd, htd]
        have HSZ : Hid ((s ++ ⟨#[35]⟩ ++ a2 ++ ⟨#[10, 10]⟩ ++ t).size ≤ 16384 ∧ (s ++ ⟨#[35]⟩ ++ a2 ++ ⟨#[10, 10]⟩ ++ t ++ ⟨#[120]⟩).size ≤ 16384) := by
          have h1 := ft_len (l.take K) hvt
          have h2 := ft_len (l.drop K) hvd
          have h3 : (l.take K).length ≤ 10 := by rw [List.length_take]; have := HLN.out; omega
          have h4 : (l.drop K).length ≤ 10 := by rw [List.length_drop]; have := HLN.out; omega
          rw [← hsd, ← Lib.size_eq] at h1
          rw [← htd, ← Lib.size_eq] at h2
          unfold Hid
          simp only [ByteArray.size_append]
          refine ⟨?_, ?_⟩
          · show s.size + 1 + a2.size + 2 + t.size ≤ _
            omega
          · show s.size + 1 + a2.size + 2 + t.size + 1 ≤ _
            omega
        have hx1 : ∀ S : ByteArray, S.data.toList = ft (l.take K) ++ [35] ++ a2.data.toList ++ [10, 10] ++ ft (l.drop K) → S.size ≤ 16384 → ∀ (h : Nat) (W : World), Bel wr W → Zu W h US2 → Calls Tryz.prog 10 #[.string S, .slice (some ⟨h, 0, none⟩) 2 2] W (Par l 0 0 W) := fun S h1 h2 => HPR.out S l 0 0 h2 (by rw [h1]; exact comm_good HV.out (by have := HLN.out; omega) K _ hnl)
        have hx2 : ∀ S : ByteArray, S.data.toList = ft (l.take K) ++ [35] ++ a2.data.toList ++ [10, 10] ++ ft (l.drop K) ++ [120] → S.size ≤ 16384 → ∀ (h : Nat) (W : World), Bel wr W → Zu W h US2 → Calls Tryz.prog 10 #[.string S, .slice (some ⟨h, 0, none⟩) 2 2] W (Par [] (k + 3) 3 W) := fun S h1 h2 => HPR.out S [] (k + 3) 3 h2 (by rw [h1, ← HLN.out.1]; exact comm_bad HV.out (by have := HLN.out; omega) K _ hnl)
        have PX1 := Lib.hid (hx1 _ HTX.out HSZ.out.1)
        have htx2 : (s ++ ⟨#[35]⟩ ++ a2 ++ ⟨#[10, 10]⟩ ++ t ++ ⟨#[120]⟩).data.toList = ft (l.take K) ++ [35] ++ a2.data.toList ++ [10, 10] ++ ft (l.drop K) ++ [120] := by rw [ByteArray.data_append, Array.toList_append, HTX.out]
        have PX2 := Lib.hid (hx2 _ htx2 HSZ.out.2)
        clear hx1 hx2 htx2 hnl
        have ssz : s.size ≤ 400 := by
          have h1 := ft_len (l.take K) hvt
          have h3 : (l.take K).length ≤ 10 := by rw [List.length_take]; have := HLN.out; omega
          rw [← hsd, ← Lib.size_eq] at h1
          omega
        have tsz : t.size ≤ 400 := by
          have h1 := ft_len (l.drop K) hvd
          have h3 : (l.drop K).length ≤ 10 := by rw [List.length_drop]; have := HLN.out; omega
          rw [← htd, ← Lib.size_eq] at h1
          omega
        clear hs ht hsd htd hvt hvd
        rcases hA with ⟨g', rfl⟩ | ⟨rfl, rfl, rfl⟩
        · go_wp2_with fail
          go_at_call 9
          refine (HF.out _ _ (zr_take HZ.out K HKK.out)).mono ?_
          rintro e v4 ⟨rfl, hb4⟩
          have HB4 := Lib.hid hb4
          clear hb4
          rcases Classical.em (ca = K) with hcK | hcK
          · have HZ2 : Hid (ZrO v2 (some ⟨g', 0, none⟩) (k - K) (l.drop K)) := by
              have e1 : k - K = 0 := by omega
              have e2 : l.drop K = [] := List.drop_eq_nil_of_le (by rw [HLN.out.1]; omega)
              rw [e1, e2]; exact zr_none
            go_wp2_with fail
            go_at_call 9
            refine (HG.out _ _ _ HB4.out HZ2.out).mono ?_
            rintro e v5 ⟨rfl, hb5⟩
            have HB5 : Hid (Bel v2 v5) := HB4.out.tr hb5
            clear hb5
            go_wp2_with fail
            go_at_call 11
            refine (units_ok _).mono ?_
            rintro e v6 ⟨h6, rfl, hZ6, hb6⟩
            have HB6 : Hid (Bel v2 v6) := HB5.out.tr hb6
            have P1 := Lib.hid (PX1.out h6 v6 (HB2.out.tr HB6.out) hZ6)
            clear hb6 hZ6
            go_wp2_with fail
            go_at_call 10
            refine P1.out.mono ?_
            rintro e v7 ⟨u7, rfl, hown7, hb7⟩
            have HB7 : Hid (Bel v2 v7) := HB6.out.tr hb7
            rw [HLN.out.1] at hown7
            obtain ⟨A7, c7, rfl, hz7⟩ := own_zr hown7 HLN.out.1
            have HX7 := Lib.hid hz7
            clear hown7 hb7 hz7
            go_wp2_with fail
            go_at_call 11
            refine (units_ok _).mono ?_
            rintro e v8 ⟨h8, rfl, hZ8, hb8⟩
            have HB8 : Hid (Bel v2 v8) := HB7.out.tr hb8
            have HX8 := Lib.hid (HX7.out.bel hb8)
            have P2 := Lib.hid (PX2.out h8 v8 (HB2.out.tr HB8.out) hZ8)
            clear hb8 hZ8
            go_wp2_with fail
            go_at_call 10
            refine P2.out.mono ?_
            rintro e v9 ⟨u9, rfl, hown9, hb9⟩
            have HB9 : Hid (Bel v2 v9) := HB8.out.tr hb9
            have HX9 := Lib.hid (HX8.out.bel hb9)
            have HZ9 := Lib.hid (HZ.out.bel HB9.out)
            clear hown9 hb9
            go_wp2_with fail
            go_at_call 12
            refine (same_true _ A7 _ c7 _ l (Nat.le_trans HLN.out.2 (by decide)) _ HZ9.out HX9.out).mono ?_
            rintro e v10 ⟨rfl, hb10⟩
            have HB10 : Hid (Bel wr v10) := HB2.out.tr (HB9.out.tr hb10)
            go_wp2_with fail
            go_at_call 13
            refine (AW.out _ HB10.out).mono ?_
            rintro e v11 ⟨rfl, hb11⟩
            go_wp2
            go_ret
            exact ⟨rfl, (HB10.out.tr hb11).bl⟩
          · go_wp2_with fail
            go_at_call 9
            refine (HG.out _ _ _ HB4.out (zr_drop HZ.out K HKK.out)).mono ?_
            rintro e v5 ⟨rfl, hb5⟩
            have HB5 : Hid (Bel v2 v5) := HB4.out.tr hb5
            clear hb5
            go_wp2_with fail
            go_at_call 11
            refine (units_ok _).mono ?_
            rintro e v6 ⟨h6, rfl, hZ6, hb6⟩
            have HB6 : Hid (Bel v2 v6) := HB5.out.tr hb6
            have P1 := Lib.hid (PX1.out h6 v6 (HB2.out.tr HB6.out) hZ6)
            clear hb6 hZ6
            go_wp2_with fail
            go_at_call 10
            refine P1.out.mono ?_
            rintro e v7 ⟨u7, rfl, hown7, hb7⟩
            have HB7 : Hid (Bel v2 v7) := HB6.out.tr hb7
            rw [HLN.out.1] at hown7
            obtain ⟨A7, c7, rfl, hz7⟩ := own_zr hown7 HLN.out.1
            have HX7 := Lib.hid hz7
            clear hown7 hb7 hz7
            go_wp2_with fail
            go_at_call 11
            refine (units_ok _).mono ?_
            rintro e v8 ⟨h8, rfl, hZ8, hb8⟩
            have HB8 : Hid (Bel v2 v8) := HB7.out.tr hb8
            have HX8 := Lib.hid (HX7.out.bel hb8)
            have P2 := Lib.hid (PX2.out h8 v8 (HB2.out.tr HB8.out) hZ8)
            clear hb8 hZ8
            go_wp2_with fail
            go_at_call 10
            refine P2.out.mono ?_
            rintro e v9 ⟨u9, rfl, hown9, hb9⟩
            have HB9 : Hid (Bel v2 v9) := HB8.out.tr hb9
            have HX9 := Lib.hid (HX8.out.bel hb9)
            have HZ9 := Lib.hid (HZ.out.bel HB9.out)
            clear hown9 hb9
            go_wp2_with fail
            go_at_call 12
            refine (same_true _ A7 _ c7 _ l (Nat.le_trans HLN.out.2 (by decide)) _ HZ9.out HX9.out).mono ?_
            rintro e v10 ⟨rfl, hb10⟩
            have HB10 : Hid (Bel wr v10) := HB2.out.tr (HB9.out.tr hb10)
            go_wp2_with fail
            go_at_call 13
            refine (AW.out _ HB10.out).mono ?_
            rintro e v11 ⟨rfl, hb11⟩
            go_wp2
            go_ret
            exact ⟨rfl, (HB10.out.tr hb11).bl⟩
        · obtain rfl : K = 0 := by have := HKK.out; omega
          have hl0 : l = [] := List.length_eq_zero_iff.1 HLN.out.1
          go_wp2_with fail
          go_at_call 9
          refine (HF.out none 0 (by rw [hl0]; exact zr_none)).mono ?_
          rintro e v4 ⟨rfl, hb4⟩
          have HB4 := Lib.hid hb4
          clear hb4
          go_wp2_with fail
          go_at_call 9
          refine (HG.out none 0 _ HB4.out (by rw [hl0]; exact zr_none)).mono ?_
          rintro e v5 ⟨rfl, hb5⟩
          have HB5 : Hid (Bel v2 v5) := HB4.out.tr hb5
          clear hb5
          go_wp2_with fail
          go_at_call 11
          refine (units_ok _).mono ?_
          rintro e v6 ⟨h6, rfl, hZ6, hb6⟩
          have HB6 : Hid (Bel v2 v6) := HB5.out.tr hb6
          have P1 := Lib.hid (PX1.out h6 v6 (HB2.out.tr HB6.out) hZ6)
          clear hb6 hZ6
          go_wp2_with fail
          go_at_call 10
          refine P1.out.mono ?_
          rintro e v7 ⟨u7, rfl, hown7, hb7⟩
          have HB7 : Hid (Bel v2 v7) := HB6.out.tr hb7
          rw [HLN.out.1] at hown7
          obtain ⟨A7, c7, rfl, hz7⟩ := own_zr hown7 HLN.out.1
          have HX7 := Lib.hid hz7
          clear hown7 hb7 hz7
          go_wp2_with fail
          go_at_call 11
          refine (units_ok _).mono ?_
          rintro e v8 ⟨h8, rfl, hZ8, hb8⟩
          have HB8 : Hid (Bel v2 v8) := HB7.out.tr hb8
          have HX8 := Lib.hid (HX7.out.bel hb8)
          have P2 := Lib.hid (PX2.out h8 v8 (HB2.out.tr HB8.out) hZ8)
          clear hb8 hZ8
          go_wp2_with fail
          go_at_call 10
          refine P2.out.mono ?_
          rintro e v9 ⟨u9, rfl, hown9, hb9⟩
          have HB9 : Hid (Bel v2 v9) := HB8.out.tr hb9
          have HX9 := Lib.hid (HX8.out.bel hb9)
          have HZ9 := Lib.hid (HZ.out.bel HB9.out)
          clear hown9 hb9
          go_wp2_with fail
          go_at_call 12
          refine (same_true _ A7 _ c7 _ l (Nat.le_trans HLN.out.2 (by decide)) _ HZ9.out HX9.out).mono ?_
          rintro e v10 ⟨rfl, hb10⟩
          have HB10 : Hid (Bel wr v10) := HB2.out.tr (HB9.out.tr hb10)
          go_wp2_with fail
          go_at_call 13
          refine (AW.out _ HB10.out).mono ?_
          rintro e v11 ⟨rfl, hb11⟩
          go_wp2
          go_ret
          exact ⟨rfl, (HB10.out.tr hb11).bl⟩

noncomputable def pinWorld (os : Os) : World := { World.doorLaid Tryz.prog 400 os with heap := (World.doorLaid Tryz.prog 400 os).heap.setIfInBounds 7 (.cells (Go.Pinned.utf8FirstZ.map fun (n : Nat) => Value.int .u8 (n : Int)).toArray 151 (0, 0)) }
theorem door_met (os : Os) (args : Array Value) : laidMetH Tryz.prog [("math/bits.deBruijn32tab", Rows.laid_math_bits_deBruijn32tab), ("math/bits.deBruijn64tab", Rows.laid_math_bits_deBruijn64tab), ("internal/strconv.uint64pow10", Rows.laid_internal_strconv_uint64pow10), ("unicode/utf8.acceptRanges", Rows.laid_unicode_utf8_acceptRanges), ("strconv.ErrRange", Rows.laid_strconv_ErrRange), ("strconv.ErrSyntax", Rows.laid_strconv_ErrSyntax), ("shapesearch/unit.powers", Rows.laid_shapesearch_unit_powers), ("unicode/utf8.first", Rows.laid_unicode_utf8_first)] ((pinWorld os).forCall (fun _ _ => 0) ⟨#[], args, []⟩).memory :=
  laidMetH_of_parts3 (fuel := 8) (laidMet_of_run' 8 (by kernel_rfl) (by kernel_rfl)) (by kernel_rfl) (by kernel_rfl)
set_option maxRecDepth 100000 in
theorem lifted (os : Os) (started : os.Started) (H : Type) (enc : TypeId × Value → H) :
    ReturnsInHanded {} Tryz.checked os 6 .any (fun w args => (Rows.readingCommentsSpec.pre enc Tryz.prog Tryz.f6 [] false w args ∧ laidMetH Tryz.prog [("math/bits.deBruijn32tab", Rows.laid_math_bits_deBruijn32tab), ("math/bits.deBruijn64tab", Rows.laid_math_bits_deBruijn64tab), ("internal/strconv.uint64pow10", Rows.laid_internal_strconv_uint64pow10), ("unicode/utf8.acceptRanges", Rows.laid_unicode_utf8_acceptRanges), ("strconv.ErrRange", Rows.laid_strconv_ErrRange), ("strconv.ErrSyntax", Rows.laid_strconv_ErrSyntax), ("shapesearch/unit.powers", Rows.laid_shapesearch_unit_powers), ("unicode/utf8.first", Rows.laid_unicode_utf8_first)] w) ∧ sizedMet enc Tryz.prog Tryz.f6 (OpenSpec.ofChange Rows.readingCommentsSpec) false w args)
      (Rows.readingCommentsSpec.post enc Tryz.prog Tryz.f6 false true false false) := by
  refine returnsInHanded_of_change_and (C := Tryz.checked) (X := fun w _ => laidMetH Tryz.prog [("math/bits.deBruijn32tab", Rows.laid_math_bits_deBruijn32tab), ("math/bits.deBruijn64tab", Rows.laid_math_bits_deBruijn64tab), ("internal/strconv.uint64pow10", Rows.laid_internal_strconv_uint64pow10), ("unicode/utf8.acceptRanges", Rows.laid_unicode_utf8_acceptRanges), ("strconv.ErrRange", Rows.laid_strconv_ErrRange), ("strconv.ErrSyntax", Rows.laid_strconv_ErrSyntax), ("shapesearch/unit.powers", Rows.laid_shapesearch_unit_powers), ("unicode/utf8.first", Rows.laid_unicode_utf8_first)] w) (fun _ _ _ hh h => h.of_heap hh) own started (by kernel_rfl) Tryz.func6
    (ChangeSpec.witness_shaped (enc := enc) (C := Tryz.checked) (os := os) (X := fun w _ => laidMetH Tryz.prog [("math/bits.deBruijn32tab", Rows.laid_math_bits_deBruijn32tab), ("math/bits.deBruijn64tab", Rows.laid_math_bits_deBruijn64tab), ("internal/strconv.uint64pow10", Rows.laid_internal_strconv_uint64pow10), ("unicode/utf8.acceptRanges", Rows.laid_unicode_utf8_acceptRanges), ("strconv.ErrRange", Rows.laid_strconv_ErrRange), ("strconv.ErrSyntax", Rows.laid_strconv_ErrSyntax), ("shapesearch/unit.powers", Rows.laid_shapesearch_unit_powers), ("unicode/utf8.first", Rows.laid_unicode_utf8_first)] w) false (pinWorld os) #[.slice none 0 0, .int .u8 0, .string ByteArray.empty] 8 rfl (World.shaped_of_RefB (by kernel_rfl) (by kernel_rfl)) (by kernel_rfl) (by kernel_rfl) (by kernel_rfl) (door_met os _)) ?_
  intro W base args ds gs before hval0 hW _ _ hL hsz
  have hval : ∀ (j : Nat) t v, Tryz.f6.params[j]? = some t → args[j]? = some v → Value.okWide Tryz.prog W .any base t v := hval0
  have hW' := hW
  obtain ⟨p, q, hA0, hV, rfl, hfz, hnd⟩ := hW
  have hA : DataW.TrodAll enc Tryz.prog W 0 (fun _ => true) true Tryz.f6.params.toList args.toList ds p := hA0
  rw [Tryz.params6] at hA hval
  obtain ⟨v0, vs0, d0, ds0, p0, q0, hargs, rfl, rfl, h0, r0⟩ := trodAll_cons hA
  obtain ⟨v1, vs1, d1, ds1, p1, q1, rfl, rfl, rfl, h1, r1⟩ := trodAll_cons r0
  obtain ⟨v2, vs2, d2, ds2, p2, q2, rfl, rfl, rfl, h2, r2⟩ := trodAll_cons r1
  obtain ⟨rfl, rfl, rfl⟩ := trodAll_nil r2
  obtain rfl : args = #[v0, v1, v2] := by cases args; simp_all
  obtain ⟨rfl, rfl⟩ := trodVars_none hV
  obtain ⟨a0, len0, cap0, rfl⟩ := okWide_slice Tryz.underlying22 (hval 0 22 v0 rfl rfl)
  have k0 := h0
  have lt0 : ∀ x ∈ p0, x.block < W.heap.size := by obtain ⟨m, hm⟩ := k0; exact DataW.trod_lt m _ _ _ hm
  obtain ⟨z0, w0⟩ : ∃ zs, IsRow .i64 W a0 len0 cap0 zs := by
    obtain ⟨fuel, hf⟩ := h0
    rcases open_ints Tryz.underlying22 Tryz.underlying3 (by kernel_rfl) hf with ⟨hcs, _⟩ | ⟨x, l, c, zs, hcs, _, hl, hm, hz, _, hcell, hwz⟩
    · simp [Value.cells] at hcs
      obtain ⟨rfl, rfl, rfl⟩ := hcs
      exact ⟨[], .inl ⟨rfl, rfl, rfl, rfl⟩⟩
    · simp [Value.cells] at hcs
      obtain ⟨rfl, rfl, rfl⟩ := hcs
      exact ⟨zs, .inr ⟨_, rfl, hl, hm, by simpa using hz, hcell, hwz⟩⟩
  obtain ⟨a1, rfl, rfl, rfl, w1⟩ := open_int Tryz.underlying5 (hval 1 5 v1 rfl rfl) h1
  obtain ⟨a2, rfl, rfl, rfl, w2⟩ := open_string Tryz.underlying9 (hval 2 9 v2 rfl rfl) h2
  clear hA0 hval0
  refine (walk a0 len0 cap0 z0 a1 a2 W (Rt.lr_of hL) w0 w1 w2).mono fun e W' ⟨he, bel⟩ => ?_
  subst he
  exact ⟨_, rfl, _, _, _, [], _, [], hW', trodAll_mk1 (shut_bool Tryz.underlying4 _), (trodAll_cons_mk (Below.trod laidOut (by kernel_rfl) (of_decide_eq_true (by kernel_rfl)) k0 bel lt0) (trodAll_cons_mk (shut_int Tryz.underlying5 w1) (trodAll_cons_mk (shut_string Tryz.underlying9 w2) trodAll_mk0))), rfl, bel.frame _, fun h => by cases h⟩

theorem over : Rows.readingCommentsRow.holds Tryz.pinned (OpenSpec.ofChange Rows.readingCommentsSpec) :=
  OpenClaim.holds_of_wide 6 Tryz.f6 rfl rfl rfl rfl rfl rfl rfl ⟨rfl, rfl, rfl, rfl, rfl⟩ rfl rfl rfl rfl rfl (by kernel_rfl) Tryz.func6 (by kernel_rfl)
    (of_decide_eq_true (by kernel_rfl)) (by unfold Func.isWrapper; first | (rw [if_pos (by decide +kernel)]; kernel_rfl) | (rw [if_neg (by decide +kernel)]; exact ⟨rfl, rfl⟩))
    (fun os started H enc _ => lifted os started H enc)

theorem proved : Rows.ReadingCommentsCardSaid :=
  Claim7.holds_tied_plain_at .later [] [.data, .data, .data, .data, .sentinel, .sentinel, .data, .pinned] true (true, "ecab7dfc50cb52a01df084e48d9f02ccfa130385241eeededfdb83243de06351") true
    over (fun _ h => by cases h) (by kernel_rfl) (fun _ h => by cases h) readingComments_row_tie rfl ⟨rfl, rfl⟩ (by kernel_rfl) rfl
    (fun f fn hf hfn => by
      obtain rfl : f = 6 := Option.some.inj ((show Tryz.prog.funcNamed "shapesearch/shapesearchlaw05.ReadingComments" = some 6 by kernel_rfl).symm.trans hf) |>.symm
      obtain rfl : fn = Tryz.f6 := (Option.some.inj (Tryz.func6.symm.trans hfn)).symm
      exact ⟨by kernel_rfl, fun j t ht => by
        rw [Tryz.params6] at ht
        have hm : t ∈ [22, 5, 9] := by simpa using Array.mem_of_getElem? ht
        have hall : ([22, 5, 9].all fun u => !Tryz.prog.wantsStandIn u) = true := by kernel_rfl
        exact (show Tryz.prog.wantsStandIn t = false by simpa using List.all_eq_true.1 hall t hm)⟩)
    (by kernel_rfl)
end Go.Proofs.YtagodfielmdfhaaGreatDoor.readingComments
