/- measure.Parse of any text. -/
import Derived.Test.YtabmpnmhjdbdmaaGreatDoorMsF
namespace Go.Proofs.YtabmpnmhjdbdmaaGreatDoor.Ms
open Go.ChangeShapes Go.WideShapes Go.RowKit Wo Sr Wi Ra Rr
set_option linter.unusedVariables false
/-- the number of a text -/
def num (s : ByteArray) : Int := Lib.atoiOr (cut32 s.data.toList).2.1 0
/-- a text is that of a measure of this kind -/
def cnd (s : ByteArray) (k : Nat) : Prop := (⟨(cut32 s.data.toList).1.toArray⟩ : ByteArray) = ⟨(nm k).toArray⟩ ∧ (⟨(fmt k (num s)).toArray⟩ : ByteArray) = s
theorem str_ne {F s : ByteArray} (h : ¬ F = s) : (F.toList == s.toList) = false := by
  rw [beq_eq_false_iff_ne]
  intro e
  apply h
  rw [Lib.toList_data, Lib.toList_data] at e
  cases F; cases s
  simp only [ByteArray.mk.injEq]
  exact Array.toList_inj.1 e
theorem cut_small (l : List UInt8) : (cut32 l).1.length ≤ l.length ∧ (cut32 l).2.1.length ≤ l.length := by
  unfold cut32
  split
  · refine ⟨?_, ?_⟩
    · show (l.take _).length ≤ _; rw [List.length_take]; omega
    · show (l.drop _).length ≤ _; rw [List.length_drop]; omega
  · exact ⟨Nat.le_refl _, by show (0 : Nat) ≤ _; omega⟩
theorem num_in (s : ByteArray) : -9223372036854775808 ≤ num s ∧ num s ≤ 9223372036854775807 := by
  unfold num Lib.atoiOr
  cases h : Lib.atoiAll (cut32 s.data.toList).2.1 with
  | ok v => exact Lib.atoiAll_bounds h
  | «syntax» => exact ⟨by decide, by decide⟩
  | range => exact ⟨by decide, by decide⟩
/-- what strconv.Atoi returns -/
def SomeN (n : Int) (w : World) (e : Ending) (w' : World) : Prop := ∃ (v : Int) (E : Value), e = .returned (.tuple #[.int .i64 v, E]) ∧ ((E = .nilIface ∧ v = n) ∨ (∃ t p, E = .iface t p) ∧ n = 0) ∧ Bel w w'
theorem atoi_any (s : ByteArray) (hs : s.size ≤ 281474976710656) (w : World) (hw : Lw w) : Calls Tryz.prog 43 #[.string s] w (SomeN (Lib.atoiOr s.data.toList 0) w) := by
  obtain ⟨ht, ⟨t1, p1, h1⟩, t2, p2, h2⟩ := hw
  unfold Lib.atoiOr
  cases ha : Lib.atoiAll s.data.toList with
  | ok v =>
    refine (Tryz.strconv_Atoi_ok s (by omega) v ha w).mono ?_
    rintro e w1 ⟨rfl, hb⟩
    refine ⟨_, _, rfl, .inl ⟨rfl, rfl⟩, ?_⟩
    rcases hb with rfl | ⟨t, rfl⟩
    · exact Bel.rf
    · exact Lib.bytesWorld_below _ _ _
  | «syntax» =>
    refine (Tryz.strconv_Atoi_syntax_var s hs ha t1 p1 w h1).mono ?_
    rintro e w1 ⟨N, rfl, _, _, hb⟩
    exact ⟨_, _, rfl, .inr ⟨⟨_, _, rfl⟩, rfl⟩, hb⟩
  | range =>
    refine (Tryz.strconv_Atoi_range_var s hs ha t2 p2 w h2).mono ?_
    rintro e w1 ⟨N, rfl, _, _, hb⟩
    exact ⟨_, _, rfl, .inr ⟨⟨_, _, rfl⟩, rfl⟩, hb⟩
def SomeP (C : Nat → Prop) (n : Int) (w : World) (e : Ending) (w' : World) : Prop :=
  ((∃ k : Nat, 1 ≤ k ∧ k ≤ 5 ∧ C k ∧ e = .returned (.tuple #[.agg #[.int .i64 (k : Int), .int .i64 (bd k n), .int .i64 (gp k n)], .int .i64 0])) ∨ ((∀ k, 1 ≤ k → k ≤ 5 → ¬ C k) ∧ e = .returned (.tuple #[.agg #[.int .i64 0, .int .i64 0, .int .i64 0], .int .i64 3]))) ∧ Bel w w'
set_option maxHeartbeats 16000000 in
set_option maxRecDepth 100000 in
theorem parse_ok (s : ByteArray) (hs : s.size ≤ 281474976710000) (w : World) (hw : Lw w) : Calls Tryz.prog 22 #[.string s] w (SomeP (cnd s) (num s) w) := by
  obtain ⟨xa, hxa⟩ : ∃ x : ByteArray, (⟨(cut32 s.data.toList).1.toArray⟩ : ByteArray) = x := ⟨_, rfl⟩
  obtain ⟨xb, hxb⟩ : ∃ x : ByteArray, (⟨(cut32 s.data.toList).2.1.toArray⟩ : ByteArray) = x := ⟨_, rfl⟩
  obtain ⟨f, hf⟩ : ∃ f : Bool, (cut32 s.data.toList).2.2 = f := ⟨_, rfl⟩
  have sm := cut_small s.data.toList
  rw [← Lib.size_eq] at sm
  have sb : xb.size ≤ 281474976710656 := by rw [← hxb]; show (cut32 s.data.toList).2.1.toArray.size ≤ _; rw [List.size_toArray]; omega
  have HCT : Hid (∀ W, Calls Tryz.prog 42 #[.string s, .string ⟨#[32]⟩] W fun e w' => e = .returned (.tuple #[.string xa, .string xb, .bool f]) ∧ Bel W w') := by
    rw [← hxa, ← hxb, ← hf]; exact Lib.hid (cut_any s (by omega))
  obtain ⟨n, hn⟩ : ∃ n, num s = n := ⟨_, rfl⟩
  have HA : Hid (∀ W, Lw W → Calls Tryz.prog 43 #[.string xb] W (SomeN n W)) := by
    refine Lib.hid (fun W hW => ?_)
    have h := atoi_any xb sb W hW
    have e : xb.data.toList = (cut32 s.data.toList).2.1 := by rw [← hxb]
    rw [e] at h
    rw [← hn]
    exact h
  have HCD0 : ∀ k, cnd s k ↔ xa = ⟨(nm k).toArray⟩ ∧ (⟨(fmt k n).toArray⟩ : ByteArray) = s := fun k => by unfold cnd; rw [hxa, hn]
  have hni := num_in s
  rw [hn] at hni ⊢
  obtain ⟨C, hC⟩ : ∃ C, cnd s = C := ⟨_, rfl⟩
  rw [hC] at HCD0 ⊢
  have HCD := Lib.hid HCD0
  have HN := Lib.hid hni
  have HW := Lib.hid hw
  clear sb sm hxa hxb hf hn hw hs HCD0 hni hC
  go_enter Tryz.func22, Tryz.ntmps22
  go_wp2_with fail
  go_at_call 42
  refine (HCT.out _).mono ?_
  rintro e w1 ⟨rfl, hb⟩
  have HB1 : Hid (Bel w w1) := (Bel.rf.al _).tr hb
  have HR1 : Hid (Bk w1 w.heap.size 26 #[.int .i64 0, .int .i64 0, .int .i64 0]) := (Bk.nw _ _ _).bel hb
  clear hb
  go_wp2_with fail
  go_at_call 43
  refine (HA.out _ (HW.out.bel HB1.out)).mono ?_
  rintro e w2 ⟨v, E, rfl, hE, hb⟩
  have HB2 : Hid (Bel w w2) := HB1.out.tr hb
  have HR2 := Lib.hid (HR1.out.bel hb)
  clear hb
  rcases hE with ⟨rfl, rfl⟩ | ⟨⟨et, ep, rfl⟩, rfl⟩
  · go_wp2
    go_loopw [9] (fun s9 wr => ∃ (t : Nat) (V : World), V = wr ∧ 1 ≤ t ∧ t ≤ 6 ∧ s9 = .int .i64 (t : Int) ∧ (∀ j, 1 ≤ j → j < t → ¬ C j) ∧ Bk wr w.heap.size 26 #[.int .i64 0, .int .i64 0, .int .i64 0] ∧ Bel w wr) (fun s9 _ => 6 - (intOf s9).toNat)
    case atStart => exact ⟨1, _, rfl, by omega, by omega, rfl, fun j j1 j2 => by omega, HR2.out, HB2.out⟩
    case round =>
      obtain ⟨t, wr, hwr, t1, t6, rfl, hc, hr, hb⟩ := hrel
      subst hwr
      have HB : Hid (Bel w wr) := hb
      have HR := Lib.hid hr
      have HC := Lib.hid hc
      clear hb hr hc
      rcases (by omega : t = 1 ∨ t = 2 ∨ t = 3 ∨ t = 4 ∨ t = 5 ∨ t = 6) with rfl | rfl | rfl | rfl | rfl | rfl
      · have NM : Hid (∀ W, _) := fun W => name_ok 1 (by decide) (by decide) W
        obtain ⟨y, hy⟩ : ∃ y : ByteArray, (⟨(nm 1).toArray⟩ : ByteArray) = y := ⟨_, rfl⟩
        rw [hy] at NM
        have HY := Lib.hid hy
        rcases Classical.em (xa = y) with hx | hx
        · subst hx
          have FM : Hid (∀ W, Itab W → Calls Tryz.prog 45 #[.agg #[.int .i64 1, .int .i64 0, .int .i64 0]] W fun e w' => e = .returned (.string ⟨(fmt 1 v).toArray⟩) ∧ Bel W w') := fun W hW => format_ok 1 v (by decide) (by decide) (by have := HN.out; omega) (by have := HN.out; omega) W hW
          obtain ⟨F, hF⟩ : ∃ F : ByteArray, (⟨(fmt 1 v).toArray⟩ : ByteArray) = F := ⟨_, rfl⟩
          rw [hF] at FM
          have HF := Lib.hid hF
          clear hF hy
          go_wp2_with (go_at_call 44; refine (NM.out _).mono ?_; rintro e w2 ⟨rfl, rfl⟩)
          go_at_call 45
          refine (FM.out _ ((HW.out.bel (HB.out.al _)).1)).mono ?_
          rintro e w3 ⟨rfl, hb3⟩
          have HB3 : Hid (Bel w w3) := (HB.out.al _).tr hb3
          have HR3 : Hid (Bk w3 w.heap.size 26 #[.int .i64 0, .int .i64 0, .int .i64 0]) := (HR.out.al _).bel hb3
          have HM3 : Hid (Bk w3 wr.heap.size 26 #[.int .i64 1, .int .i64 0, .int .i64 0]) := (Bk.nw _ _ _).bel hb3
          clear hb3
          rcases Classical.em (F = s) with hs | hs
          · subst hs
            have q0 : w3.cell? ⟨wr.heap.size, 0, none⟩ = some (.int .i64 1) := HM3.out.cell 0
            have q1 : w3.cell? ⟨wr.heap.size, 1, none⟩ = some (.int .i64 0) := HM3.out.cell 1
            have q2 : w3.cell? ⟨wr.heap.size, 2, none⟩ = some (.int .i64 0) := HM3.out.cell 2
            have r0 : w3.cell? ⟨w.heap.size, 0, none⟩ = some (.int .i64 0) := HR3.out.cell 0
            have r1 : w3.cell? ⟨w.heap.size, 1, none⟩ = some (.int .i64 0) := HR3.out.cell 1
            have r2 : w3.cell? ⟨w.heap.size, 2, none⟩ = some (.int .i64 0) := HR3.out.cell 2
            have f0 := HR3.out.fr 0
            have f1 := HR3.out.fr 1
            have f2 := HR3.out.fr 2
            go_wp2
            refine bodyPost_ret (v := .tuple #[.agg #[.int .i64 1, .int .i64 0, .int .i64 0], .int .i64 0]) (by simp [results, Tryz.results22, go_sem, r0, r1, r2]) rfl ⟨.inl ⟨1, by decide, by decide, (HCD.out 1).2 ⟨HY.out.symm, HF.out⟩, rfl⟩, ?_⟩
            exact ((HB3.out.st (Nat.le_refl _) _).st (Nat.le_refl _) _).st (Nat.le_refl _) _
          · have hs2 := str_ne hs
            have NC : Hid (¬ C 1) := fun h => hs (HF.out.symm.trans (HCD.out 1 |>.1 h).2)
            clear hs
            go_wp2
            go_roundw
            case rel => exact ⟨2, _, rfl, by omega, by omega, by go_num, fun j j1 j2 => by
              rcases (show j = 1 ∨ j < 1 by omega) with rfl | h
              · exact NC.out
              · exact HC.out j j1 h, HR3.out, HB3.out⟩
            case measure => simp [intOf]
        · have hx2 := str_ne hx
          have NC : Hid (¬ C 1) := fun h => hx ((HCD.out 1 |>.1 h).1.trans HY.out)
          have HBA : Hid (Bel w (wr.alloc (.cells #[.int .i64 1, .int .i64 0, .int .i64 0] 26))) := HB.out.al _
          have HRA : Hid (Bk (wr.alloc (.cells #[.int .i64 1, .int .i64 0, .int .i64 0] 26)) w.heap.size 26 #[.int .i64 0, .int .i64 0, .int .i64 0]) := HR.out.al _
          clear hx hy
          go_wp2_with (go_at_call 44; refine (NM.out _).mono ?_; rintro e w2 ⟨rfl, rfl⟩)
          go_roundw
          case rel => exact ⟨2, _, rfl, by omega, by omega, by go_num, fun j j1 j2 => by
            rcases (show j = 1 ∨ j < 1 by omega) with rfl | h
            · exact NC.out
            · exact HC.out j j1 h, HRA.out, HBA.out⟩
          case measure => simp [intOf]
      · have NM : Hid (∀ W, _) := fun W => name_ok 2 (by decide) (by decide) W
        obtain ⟨y, hy⟩ : ∃ y : ByteArray, (⟨(nm 2).toArray⟩ : ByteArray) = y := ⟨_, rfl⟩
        rw [hy] at NM
        have HY := Lib.hid hy
        rcases Classical.em (xa = y) with hx | hx
        · subst hx
          have FM : Hid (∀ W, Itab W → Calls Tryz.prog 45 #[.agg #[.int .i64 2, .int .i64 0, .int .i64 0]] W fun e w' => e = .returned (.string ⟨(fmt 2 v).toArray⟩) ∧ Bel W w') := fun W hW => format_ok 2 v (by decide) (by decide) (by have := HN.out; omega) (by have := HN.out; omega) W hW
          obtain ⟨F, hF⟩ : ∃ F : ByteArray, (⟨(fmt 2 v).toArray⟩ : ByteArray) = F := ⟨_, rfl⟩
          rw [hF] at FM
          have HF := Lib.hid hF
          clear hF hy
          go_wp2_with (go_at_call 44; refine (NM.out _).mono ?_; rintro e w2 ⟨rfl, rfl⟩)
          go_at_call 45
          refine (FM.out _ ((HW.out.bel (HB.out.al _)).1)).mono ?_
          rintro e w3 ⟨rfl, hb3⟩
          have HB3 : Hid (Bel w w3) := (HB.out.al _).tr hb3
          have HR3 : Hid (Bk w3 w.heap.size 26 #[.int .i64 0, .int .i64 0, .int .i64 0]) := (HR.out.al _).bel hb3
          have HM3 : Hid (Bk w3 wr.heap.size 26 #[.int .i64 2, .int .i64 0, .int .i64 0]) := (Bk.nw _ _ _).bel hb3
          clear hb3
          rcases Classical.em (F = s) with hs | hs
          · subst hs
            have q0 : w3.cell? ⟨wr.heap.size, 0, none⟩ = some (.int .i64 2) := HM3.out.cell 0
            have q1 : w3.cell? ⟨wr.heap.size, 1, none⟩ = some (.int .i64 0) := HM3.out.cell 1
            have q2 : w3.cell? ⟨wr.heap.size, 2, none⟩ = some (.int .i64 0) := HM3.out.cell 2
            have r0 : w3.cell? ⟨w.heap.size, 0, none⟩ = some (.int .i64 0) := HR3.out.cell 0
            have r1 : w3.cell? ⟨w.heap.size, 1, none⟩ = some (.int .i64 0) := HR3.out.cell 1
            have r2 : w3.cell? ⟨w.heap.size, 2, none⟩ = some (.int .i64 0) := HR3.out.cell 2
            have f0 := HR3.out.fr 0
            have f1 := HR3.out.fr 1
            have f2 := HR3.out.fr 2
            go_wp2
            refine bodyPost_ret (v := .tuple #[.agg #[.int .i64 2, .int .i64 0, .int .i64 0], .int .i64 0]) (by simp [results, Tryz.results22, go_sem, r0, r1, r2]) rfl ⟨.inl ⟨2, by decide, by decide, (HCD.out 2).2 ⟨HY.out.symm, HF.out⟩, rfl⟩, ?_⟩
            exact ((HB3.out.st (Nat.le_refl _) _).st (Nat.le_refl _) _).st (Nat.le_refl _) _
          · have hs2 := str_ne hs
            have NC : Hid (¬ C 2) := fun h => hs (HF.out.symm.trans (HCD.out 2 |>.1 h).2)
            clear hs
            go_wp2
            go_roundw
            case rel => exact ⟨3, _, rfl, by omega, by omega, by go_num, fun j j1 j2 => by
              rcases (show j = 2 ∨ j < 2 by omega) with rfl | h
              · exact NC.out
              · exact HC.out j j1 h, HR3.out, HB3.out⟩
            case measure => simp [intOf]
        · have hx2 := str_ne hx
          have NC : Hid (¬ C 2) := fun h => hx ((HCD.out 2 |>.1 h).1.trans HY.out)
          have HBA : Hid (Bel w (wr.alloc (.cells #[.int .i64 2, .int .i64 0, .int .i64 0] 26))) := HB.out.al _
          have HRA : Hid (Bk (wr.alloc (.cells #[.int .i64 2, .int .i64 0, .int .i64 0] 26)) w.heap.size 26 #[.int .i64 0, .int .i64 0, .int .i64 0]) := HR.out.al _
          clear hx hy
          go_wp2_with (go_at_call 44; refine (NM.out _).mono ?_; rintro e w2 ⟨rfl, rfl⟩)
          go_roundw
          case rel => exact ⟨3, _, rfl, by omega, by omega, by go_num, fun j j1 j2 => by
            rcases (show j = 2 ∨ j < 2 by omega) with rfl | h
            · exact NC.out
            · exact HC.out j j1 h, HRA.out, HBA.out⟩
          case measure => simp [intOf]
      · have NM : Hid (∀ W, _) := fun W => name_ok 3 (by decide) (by decide) W
        obtain ⟨y, hy⟩ : ∃ y : ByteArray, (⟨(nm 3).toArray⟩ : ByteArray) = y := ⟨_, rfl⟩
        rw [hy] at NM
        have HY := Lib.hid hy
        rcases Classical.em (xa = y) with hx | hx
        · subst hx
          have FM : Hid (∀ W, Itab W → Calls Tryz.prog 45 #[.agg #[.int .i64 3, .int .i64 0, .int .i64 0]] W fun e w' => e = .returned (.string ⟨(fmt 3 v).toArray⟩) ∧ Bel W w') := fun W hW => format_ok 3 v (by decide) (by decide) (by have := HN.out; omega) (by have := HN.out; omega) W hW
          obtain ⟨F, hF⟩ : ∃ F : ByteArray, (⟨(fmt 3 v).toArray⟩ : ByteArray) = F := ⟨_, rfl⟩
          rw [hF] at FM
          have HF := Lib.hid hF
          clear hF hy
          go_wp2_with (go_at_call 44; refine (NM.out _).mono ?_; rintro e w2 ⟨rfl, rfl⟩)
          go_at_call 45
          refine (FM.out _ ((HW.out.bel (HB.out.al _)).1)).mono ?_
          rintro e w3 ⟨rfl, hb3⟩
          have HB3 : Hid (Bel w w3) := (HB.out.al _).tr hb3
          have HR3 : Hid (Bk w3 w.heap.size 26 #[.int .i64 0, .int .i64 0, .int .i64 0]) := (HR.out.al _).bel hb3
          have HM3 : Hid (Bk w3 wr.heap.size 26 #[.int .i64 3, .int .i64 0, .int .i64 0]) := (Bk.nw _ _ _).bel hb3
          clear hb3
          rcases Classical.em (F = s) with hs | hs
          · subst hs
            have q0 : w3.cell? ⟨wr.heap.size, 0, none⟩ = some (.int .i64 3) := HM3.out.cell 0
            have q1 : w3.cell? ⟨wr.heap.size, 1, none⟩ = some (.int .i64 0) := HM3.out.cell 1
            have q2 : w3.cell? ⟨wr.heap.size, 2, none⟩ = some (.int .i64 0) := HM3.out.cell 2
            have r0 : w3.cell? ⟨w.heap.size, 0, none⟩ = some (.int .i64 0) := HR3.out.cell 0
            have r1 : w3.cell? ⟨w.heap.size, 1, none⟩ = some (.int .i64 0) := HR3.out.cell 1
            have r2 : w3.cell? ⟨w.heap.size, 2, none⟩ = some (.int .i64 0) := HR3.out.cell 2
            have f0 := HR3.out.fr 0
            have f1 := HR3.out.fr 1
            have f2 := HR3.out.fr 2
            go_wp2
            refine bodyPost_ret (v := .tuple #[.agg #[.int .i64 3, .int .i64 0, .int .i64 0], .int .i64 0]) (by simp [results, Tryz.results22, go_sem, r0, r1, r2]) rfl ⟨.inl ⟨3, by decide, by decide, (HCD.out 3).2 ⟨HY.out.symm, HF.out⟩, rfl⟩, ?_⟩
            exact ((HB3.out.st (Nat.le_refl _) _).st (Nat.le_refl _) _).st (Nat.le_refl _) _
          · have hs2 := str_ne hs
            have NC : Hid (¬ C 3) := fun h => hs (HF.out.symm.trans (HCD.out 3 |>.1 h).2)
            clear hs
            go_wp2
            go_roundw
            case rel => exact ⟨4, _, rfl, by omega, by omega, by go_num, fun j j1 j2 => by
              rcases (show j = 3 ∨ j < 3 by omega) with rfl | h
              · exact NC.out
              · exact HC.out j j1 h, HR3.out, HB3.out⟩
            case measure => simp [intOf]
        · have hx2 := str_ne hx
          have NC : Hid (¬ C 3) := fun h => hx ((HCD.out 3 |>.1 h).1.trans HY.out)
          have HBA : Hid (Bel w (wr.alloc (.cells #[.int .i64 3, .int .i64 0, .int .i64 0] 26))) := HB.out.al _
          have HRA : Hid (Bk (wr.alloc (.cells #[.int .i64 3, .int .i64 0, .int .i64 0] 26)) w.heap.size 26 #[.int .i64 0, .int .i64 0, .int .i64 0]) := HR.out.al _
          clear hx hy
          go_wp2_with (go_at_call 44; refine (NM.out _).mono ?_; rintro e w2 ⟨rfl, rfl⟩)
          go_roundw
          case rel => exact ⟨4, _, rfl, by omega, by omega, by go_num, fun j j1 j2 => by
            rcases (show j = 3 ∨ j < 3 by omega) with rfl | h
            · exact NC.out
            · exact HC.out j j1 h, HRA.out, HBA.out⟩
          case measure => simp [intOf]
      · have NM : Hid (∀ W, _) := fun W => name_ok 4 (by decide) (by decide) W
        obtain ⟨y, hy⟩ : ∃ y : ByteArray, (⟨(nm 4).toArray⟩ : ByteArray) = y := ⟨_, rfl⟩
        rw [hy] at NM
        have HY := Lib.hid hy
        rcases Classical.em (xa = y) with hx | hx
        · subst hx
          have FM : Hid (∀ W, Itab W → Calls Tryz.prog 45 #[.agg #[.int .i64 4, .int .i64 v, .int .i64 0]] W fun e w' => e = .returned (.string ⟨(fmt 4 v).toArray⟩) ∧ Bel W w') := fun W hW => format_ok 4 v (by decide) (by decide) (by have := HN.out; omega) (by have := HN.out; omega) W hW
          obtain ⟨F, hF⟩ : ∃ F : ByteArray, (⟨(fmt 4 v).toArray⟩ : ByteArray) = F := ⟨_, rfl⟩
          rw [hF] at FM
          have HF := Lib.hid hF
          clear hF hy
          go_wp2_with (go_at_call 44; refine (NM.out _).mono ?_; rintro e w2 ⟨rfl, rfl⟩)
          go_at_call 45
          refine (FM.out _ ((HW.out.bel (HB.out.al _)).1)).mono ?_
          rintro e w3 ⟨rfl, hb3⟩
          have HB3 : Hid (Bel w w3) := (HB.out.al _).tr hb3
          have HR3 : Hid (Bk w3 w.heap.size 26 #[.int .i64 0, .int .i64 0, .int .i64 0]) := (HR.out.al _).bel hb3
          have HM3 : Hid (Bk w3 wr.heap.size 26 #[.int .i64 4, .int .i64 v, .int .i64 0]) := (Bk.nw _ _ _).bel hb3
          clear hb3
          rcases Classical.em (F = s) with hs | hs
          · subst hs
            have q0 : w3.cell? ⟨wr.heap.size, 0, none⟩ = some (.int .i64 4) := HM3.out.cell 0
            have q1 : w3.cell? ⟨wr.heap.size, 1, none⟩ = some (.int .i64 v) := HM3.out.cell 1
            have q2 : w3.cell? ⟨wr.heap.size, 2, none⟩ = some (.int .i64 0) := HM3.out.cell 2
            have r0 : w3.cell? ⟨w.heap.size, 0, none⟩ = some (.int .i64 0) := HR3.out.cell 0
            have r1 : w3.cell? ⟨w.heap.size, 1, none⟩ = some (.int .i64 0) := HR3.out.cell 1
            have r2 : w3.cell? ⟨w.heap.size, 2, none⟩ = some (.int .i64 0) := HR3.out.cell 2
            have f0 := HR3.out.fr 0
            have f1 := HR3.out.fr 1
            have f2 := HR3.out.fr 2
            go_wp2
            refine bodyPost_ret (v := .tuple #[.agg #[.int .i64 4, .int .i64 v, .int .i64 0], .int .i64 0]) (by simp [results, Tryz.results22, go_sem, r0, r1, r2]) rfl ⟨.inl ⟨4, by decide, by decide, (HCD.out 4).2 ⟨HY.out.symm, HF.out⟩, rfl⟩, ?_⟩
            exact ((HB3.out.st (Nat.le_refl _) _).st (Nat.le_refl _) _).st (Nat.le_refl _) _
          · have hs2 := str_ne hs
            have NC : Hid (¬ C 4) := fun h => hs (HF.out.symm.trans (HCD.out 4 |>.1 h).2)
            clear hs
            go_wp2
            go_roundw
            case rel => exact ⟨5, _, rfl, by omega, by omega, by go_num, fun j j1 j2 => by
              rcases (show j = 4 ∨ j < 4 by omega) with rfl | h
              · exact NC.out
              · exact HC.out j j1 h, HR3.out, HB3.out⟩
            case measure => simp [intOf]
        · have hx2 := str_ne hx
          have NC : Hid (¬ C 4) := fun h => hx ((HCD.out 4 |>.1 h).1.trans HY.out)
          have HBA : Hid (Bel w (wr.alloc (.cells #[.int .i64 4, .int .i64 v, .int .i64 0] 26))) := HB.out.al _
          have HRA : Hid (Bk (wr.alloc (.cells #[.int .i64 4, .int .i64 v, .int .i64 0] 26)) w.heap.size 26 #[.int .i64 0, .int .i64 0, .int .i64 0]) := HR.out.al _
          clear hx hy
          go_wp2_with (go_at_call 44; refine (NM.out _).mono ?_; rintro e w2 ⟨rfl, rfl⟩)
          go_roundw
          case rel => exact ⟨5, _, rfl, by omega, by omega, by go_num, fun j j1 j2 => by
            rcases (show j = 4 ∨ j < 4 by omega) with rfl | h
            · exact NC.out
            · exact HC.out j j1 h, HRA.out, HBA.out⟩
          case measure => simp [intOf]
      · have NM : Hid (∀ W, _) := fun W => name_ok 5 (by decide) (by decide) W
        obtain ⟨y, hy⟩ : ∃ y : ByteArray, (⟨(nm 5).toArray⟩ : ByteArray) = y := ⟨_, rfl⟩
        rw [hy] at NM
        have HY := Lib.hid hy
        rcases Classical.em (xa = y) with hx | hx
        · subst hx
          have FM : Hid (∀ W, Itab W → Calls Tryz.prog 45 #[.agg #[.int .i64 5, .int .i64 0, .int .i64 v]] W fun e w' => e = .returned (.string ⟨(fmt 5 v).toArray⟩) ∧ Bel W w') := fun W hW => format_ok 5 v (by decide) (by decide) (by have := HN.out; omega) (by have := HN.out; omega) W hW
          obtain ⟨F, hF⟩ : ∃ F : ByteArray, (⟨(fmt 5 v).toArray⟩ : ByteArray) = F := ⟨_, rfl⟩
          rw [hF] at FM
          have HF := Lib.hid hF
          clear hF hy
          go_wp2_with (go_at_call 44; refine (NM.out _).mono ?_; rintro e w2 ⟨rfl, rfl⟩)
          go_at_call 45
          refine (FM.out _ ((HW.out.bel (HB.out.al _)).1)).mono ?_
          rintro e w3 ⟨rfl, hb3⟩
          have HB3 : Hid (Bel w w3) := (HB.out.al _).tr hb3
          have HR3 : Hid (Bk w3 w.heap.size 26 #[.int .i64 0, .int .i64 0, .int .i64 0]) := (HR.out.al _).bel hb3
          have HM3 : Hid (Bk w3 wr.heap.size 26 #[.int .i64 5, .int .i64 0, .int .i64 v]) := (Bk.nw _ _ _).bel hb3
          clear hb3
          rcases Classical.em (F = s) with hs | hs
          · subst hs
            have q0 : w3.cell? ⟨wr.heap.size, 0, none⟩ = some (.int .i64 5) := HM3.out.cell 0
            have q1 : w3.cell? ⟨wr.heap.size, 1, none⟩ = some (.int .i64 0) := HM3.out.cell 1
            have q2 : w3.cell? ⟨wr.heap.size, 2, none⟩ = some (.int .i64 v) := HM3.out.cell 2
            have r0 : w3.cell? ⟨w.heap.size, 0, none⟩ = some (.int .i64 0) := HR3.out.cell 0
            have r1 : w3.cell? ⟨w.heap.size, 1, none⟩ = some (.int .i64 0) := HR3.out.cell 1
            have r2 : w3.cell? ⟨w.heap.size, 2, none⟩ = some (.int .i64 0) := HR3.out.cell 2
            have f0 := HR3.out.fr 0
            have f1 := HR3.out.fr 1
            have f2 := HR3.out.fr 2
            go_wp2
            refine bodyPost_ret (v := .tuple #[.agg #[.int .i64 5, .int .i64 0, .int .i64 v], .int .i64 0]) (by simp [results, Tryz.results22, go_sem, r0, r1, r2]) rfl ⟨.inl ⟨5, by decide, by decide, (HCD.out 5).2 ⟨HY.out.symm, HF.out⟩, rfl⟩, ?_⟩
            exact ((HB3.out.st (Nat.le_refl _) _).st (Nat.le_refl _) _).st (Nat.le_refl _) _
          · have hs2 := str_ne hs
            have NC : Hid (¬ C 5) := fun h => hs (HF.out.symm.trans (HCD.out 5 |>.1 h).2)
            clear hs
            go_wp2
            go_roundw
            case rel => exact ⟨6, _, rfl, by omega, by omega, by go_num, fun j j1 j2 => by
              rcases (show j = 5 ∨ j < 5 by omega) with rfl | h
              · exact NC.out
              · exact HC.out j j1 h, HR3.out, HB3.out⟩
            case measure => simp [intOf]
        · have hx2 := str_ne hx
          have NC : Hid (¬ C 5) := fun h => hx ((HCD.out 5 |>.1 h).1.trans HY.out)
          have HBA : Hid (Bel w (wr.alloc (.cells #[.int .i64 5, .int .i64 0, .int .i64 v] 26))) := HB.out.al _
          have HRA : Hid (Bk (wr.alloc (.cells #[.int .i64 5, .int .i64 0, .int .i64 v] 26)) w.heap.size 26 #[.int .i64 0, .int .i64 0, .int .i64 0]) := HR.out.al _
          clear hx hy
          go_wp2_with (go_at_call 44; refine (NM.out _).mono ?_; rintro e w2 ⟨rfl, rfl⟩)
          go_roundw
          case rel => exact ⟨6, _, rfl, by omega, by omega, by go_num, fun j j1 j2 => by
            rcases (show j = 5 ∨ j < 5 by omega) with rfl | h
            · exact NC.out
            · exact HC.out j j1 h, HRA.out, HBA.out⟩
          case measure => simp [intOf]
      · have r0 : wr.cell? ⟨w.heap.size, 0, none⟩ = some (.int .i64 0) := HR.out.cell 0
        have r1 : wr.cell? ⟨w.heap.size, 1, none⟩ = some (.int .i64 0) := HR.out.cell 1
        have r2 : wr.cell? ⟨w.heap.size, 2, none⟩ = some (.int .i64 0) := HR.out.cell 2
        have f0 := HR.out.fr 0
        have f1 := HR.out.fr 1
        have f2 := HR.out.fr 2
        go_wp2
        refine bodyPost_ret (v := .tuple #[.agg #[.int .i64 0, .int .i64 0, .int .i64 0], .int .i64 3]) (by simp [results, Tryz.results22, go_sem, r0, r1, r2]) rfl ⟨.inr ⟨fun j j1 j5 => HC.out j j1 (by omega), rfl⟩, ?_⟩
        exact ((HB.out.st (Nat.le_refl _) _).st (Nat.le_refl _) _).st (Nat.le_refl _) _
  · go_wp2
    go_loopw [9] (fun s9 wr => ∃ (t : Nat) (V : World), V = wr ∧ 1 ≤ t ∧ t ≤ 6 ∧ s9 = .int .i64 (t : Int) ∧ (∀ j, 1 ≤ j → j < t → ¬ C j) ∧ Bk wr w.heap.size 26 #[.int .i64 0, .int .i64 0, .int .i64 0] ∧ Bel w wr) (fun s9 _ => 6 - (intOf s9).toNat)
    case atStart => exact ⟨1, _, rfl, by omega, by omega, rfl, fun j j1 j2 => by omega, HR2.out, HB2.out⟩
    case round =>
      obtain ⟨t, wr, hwr, t1, t6, rfl, hc, hr, hb⟩ := hrel
      subst hwr
      have HB : Hid (Bel w wr) := hb
      have HR := Lib.hid hr
      have HC := Lib.hid hc
      clear hb hr hc
      rcases (by omega : t = 1 ∨ t = 2 ∨ t = 3 ∨ t = 4 ∨ t = 5 ∨ t = 6) with rfl | rfl | rfl | rfl | rfl | rfl
      · have NM : Hid (∀ W, _) := fun W => name_ok 1 (by decide) (by decide) W
        obtain ⟨y, hy⟩ : ∃ y : ByteArray, (⟨(nm 1).toArray⟩ : ByteArray) = y := ⟨_, rfl⟩
        rw [hy] at NM
        have HY := Lib.hid hy
        rcases Classical.em (xa = y) with hx | hx
        · subst hx
          have FM : Hid (∀ W, Itab W → Calls Tryz.prog 45 #[.agg #[.int .i64 1, .int .i64 0, .int .i64 0]] W fun e w' => e = .returned (.string ⟨(fmt 1 0).toArray⟩) ∧ Bel W w') := fun W hW => format_ok 1 0 (by decide) (by decide) (by have := HN.out; omega) (by have := HN.out; omega) W hW
          obtain ⟨F, hF⟩ : ∃ F : ByteArray, (⟨(fmt 1 0).toArray⟩ : ByteArray) = F := ⟨_, rfl⟩
          rw [hF] at FM
          have HF := Lib.hid hF
          clear hF hy
          go_wp2_with (go_at_call 44; refine (NM.out _).mono ?_; rintro e w2 ⟨rfl, rfl⟩)
          go_at_call 45
          refine (FM.out _ ((HW.out.bel (HB.out.al _)).1)).mono ?_
          rintro e w3 ⟨rfl, hb3⟩
          have HB3 : Hid (Bel w w3) := (HB.out.al _).tr hb3
          have HR3 : Hid (Bk w3 w.heap.size 26 #[.int .i64 0, .int .i64 0, .int .i64 0]) := (HR.out.al _).bel hb3
          have HM3 : Hid (Bk w3 wr.heap.size 26 #[.int .i64 1, .int .i64 0, .int .i64 0]) := (Bk.nw _ _ _).bel hb3
          clear hb3
          rcases Classical.em (F = s) with hs | hs
          · subst hs
            have q0 : w3.cell? ⟨wr.heap.size, 0, none⟩ = some (.int .i64 1) := HM3.out.cell 0
            have q1 : w3.cell? ⟨wr.heap.size, 1, none⟩ = some (.int .i64 0) := HM3.out.cell 1
            have q2 : w3.cell? ⟨wr.heap.size, 2, none⟩ = some (.int .i64 0) := HM3.out.cell 2
            have r0 : w3.cell? ⟨w.heap.size, 0, none⟩ = some (.int .i64 0) := HR3.out.cell 0
            have r1 : w3.cell? ⟨w.heap.size, 1, none⟩ = some (.int .i64 0) := HR3.out.cell 1
            have r2 : w3.cell? ⟨w.heap.size, 2, none⟩ = some (.int .i64 0) := HR3.out.cell 2
            have f0 := HR3.out.fr 0
            have f1 := HR3.out.fr 1
            have f2 := HR3.out.fr 2
            go_wp2
            refine bodyPost_ret (v := .tuple #[.agg #[.int .i64 1, .int .i64 0, .int .i64 0], .int .i64 0]) (by simp [results, Tryz.results22, go_sem, r0, r1, r2]) rfl ⟨.inl ⟨1, by decide, by decide, (HCD.out 1).2 ⟨HY.out.symm, HF.out⟩, rfl⟩, ?_⟩
            exact ((HB3.out.st (Nat.le_refl _) _).st (Nat.le_refl _) _).st (Nat.le_refl _) _
          · have hs2 := str_ne hs
            have NC : Hid (¬ C 1) := fun h => hs (HF.out.symm.trans (HCD.out 1 |>.1 h).2)
            clear hs
            go_wp2
            go_roundw
            case rel => exact ⟨2, _, rfl, by omega, by omega, by go_num, fun j j1 j2 => by
              rcases (show j = 1 ∨ j < 1 by omega) with rfl | h
              · exact NC.out
              · exact HC.out j j1 h, HR3.out, HB3.out⟩
            case measure => simp [intOf]
        · have hx2 := str_ne hx
          have NC : Hid (¬ C 1) := fun h => hx ((HCD.out 1 |>.1 h).1.trans HY.out)
          have HBA : Hid (Bel w (wr.alloc (.cells #[.int .i64 1, .int .i64 0, .int .i64 0] 26))) := HB.out.al _
          have HRA : Hid (Bk (wr.alloc (.cells #[.int .i64 1, .int .i64 0, .int .i64 0] 26)) w.heap.size 26 #[.int .i64 0, .int .i64 0, .int .i64 0]) := HR.out.al _
          clear hx hy
          go_wp2_with (go_at_call 44; refine (NM.out _).mono ?_; rintro e w2 ⟨rfl, rfl⟩)
          go_roundw
          case rel => exact ⟨2, _, rfl, by omega, by omega, by go_num, fun j j1 j2 => by
            rcases (show j = 1 ∨ j < 1 by omega) with rfl | h
            · exact NC.out
            · exact HC.out j j1 h, HRA.out, HBA.out⟩
          case measure => simp [intOf]
      · have NM : Hid (∀ W, _) := fun W => name_ok 2 (by decide) (by decide) W
        obtain ⟨y, hy⟩ : ∃ y : ByteArray, (⟨(nm 2).toArray⟩ : ByteArray) = y := ⟨_, rfl⟩
        rw [hy] at NM
        have HY := Lib.hid hy
        rcases Classical.em (xa = y) with hx | hx
        · subst hx
          have FM : Hid (∀ W, Itab W → Calls Tryz.prog 45 #[.agg #[.int .i64 2, .int .i64 0, .int .i64 0]] W fun e w' => e = .returned (.string ⟨(fmt 2 0).toArray⟩) ∧ Bel W w') := fun W hW => format_ok 2 0 (by decide) (by decide) (by have := HN.out; omega) (by have := HN.out; omega) W hW
          obtain ⟨F, hF⟩ : ∃ F : ByteArray, (⟨(fmt 2 0).toArray⟩ : ByteArray) = F := ⟨_, rfl⟩
          rw [hF] at FM
          have HF := Lib.hid hF
          clear hF hy
          go_wp2_with (go_at_call 44; refine (NM.out _).mono ?_; rintro e w2 ⟨rfl, rfl⟩)
          go_at_call 45
          refine (FM.out _ ((HW.out.bel (HB.out.al _)).1)).mono ?_
          rintro e w3 ⟨rfl, hb3⟩
          have HB3 : Hid (Bel w w3) := (HB.out.al _).tr hb3
          have HR3 : Hid (Bk w3 w.heap.size 26 #[.int .i64 0, .int .i64 0, .int .i64 0]) := (HR.out.al _).bel hb3
          have HM3 : Hid (Bk w3 wr.heap.size 26 #[.int .i64 2, .int .i64 0, .int .i64 0]) := (Bk.nw _ _ _).bel hb3
          clear hb3
          rcases Classical.em (F = s) with hs | hs
          · subst hs
            have q0 : w3.cell? ⟨wr.heap.size, 0, none⟩ = some (.int .i64 2) := HM3.out.cell 0
            have q1 : w3.cell? ⟨wr.heap.size, 1, none⟩ = some (.int .i64 0) := HM3.out.cell 1
            have q2 : w3.cell? ⟨wr.heap.size, 2, none⟩ = some (.int .i64 0) := HM3.out.cell 2
            have r0 : w3.cell? ⟨w.heap.size, 0, none⟩ = some (.int .i64 0) := HR3.out.cell 0
            have r1 : w3.cell? ⟨w.heap.size, 1, none⟩ = some (.int .i64 0) := HR3.out.cell 1
            have r2 : w3.cell? ⟨w.heap.size, 2, none⟩ = some (.int .i64 0) := HR3.out.cell 2
            have f0 := HR3.out.fr 0
            have f1 := HR3.out.fr 1
            have f2 := HR3.out.fr 2
            go_wp2
            refine bodyPost_ret (v := .tuple #[.agg #[.int .i64 2, .int .i64 0, .int .i64 0], .int .i64 0]) (by simp [results, Tryz.results22, go_sem, r0, r1, r2]) rfl ⟨.inl ⟨2, by decide, by decide, (HCD.out 2).2 ⟨HY.out.symm, HF.out⟩, rfl⟩, ?_⟩
            exact ((HB3.out.st (Nat.le_refl _) _).st (Nat.le_refl _) _).st (Nat.le_refl _) _
          · have hs2 := str_ne hs
            have NC : Hid (¬ C 2) := fun h => hs (HF.out.symm.trans (HCD.out 2 |>.1 h).2)
            clear hs
            go_wp2
            go_roundw
            case rel => exact ⟨3, _, rfl, by omega, by omega, by go_num, fun j j1 j2 => by
              rcases (show j = 2 ∨ j < 2 by omega) with rfl | h
              · exact NC.out
              · exact HC.out j j1 h, HR3.out, HB3.out⟩
            case measure => simp [intOf]
        · have hx2 := str_ne hx
          have NC : Hid (¬ C 2) := fun h => hx ((HCD.out 2 |>.1 h).1.trans HY.out)
          have HBA : Hid (Bel w (wr.alloc (.cells #[.int .i64 2, .int .i64 0, .int .i64 0] 26))) := HB.out.al _
          have HRA : Hid (Bk (wr.alloc (.cells #[.int .i64 2, .int .i64 0, .int .i64 0] 26)) w.heap.size 26 #[.int .i64 0, .int .i64 0, .int .i64 0]) := HR.out.al _
          clear hx hy
          go_wp2_with (go_at_call 44; refine (NM.out _).mono ?_; rintro e w2 ⟨rfl, rfl⟩)
          go_roundw
          case rel => exact ⟨3, _, rfl, by omega, by omega, by go_num, fun j j1 j2 => by
            rcases (show j = 2 ∨ j < 2 by omega) with rfl | h
            · exact NC.out
            · exact HC.out j j1 h, HRA.out, HBA.out⟩
          case measure => simp [intOf]
      · have NM : Hid (∀ W, _) := fun W => name_ok 3 (by decide) (by decide) W
        obtain ⟨y, hy⟩ : ∃ y : ByteArray, (⟨(nm 3).toArray⟩ : ByteArray) = y := ⟨_, rfl⟩
        rw [hy] at NM
        have HY := Lib.hid hy
        rcases Classical.em (xa = y) with hx | hx
        · subst hx
          have FM : Hid (∀ W, Itab W → Calls Tryz.prog 45 #[.agg #[.int .i64 3, .int .i64 0, .int .i64 0]] W fun e w' => e = .returned (.string ⟨(fmt 3 0).toArray⟩) ∧ Bel W w') := fun W hW => format_ok 3 0 (by decide) (by decide) (by have := HN.out; omega) (by have := HN.out; omega) W hW
          obtain ⟨F, hF⟩ : ∃ F : ByteArray, (⟨(fmt 3 0).toArray⟩ : ByteArray) = F := ⟨_, rfl⟩
          rw [hF] at FM
          have HF := Lib.hid hF
          clear hF hy
          go_wp2_with (go_at_call 44; refine (NM.out _).mono ?_; rintro e w2 ⟨rfl, rfl⟩)
          go_at_call 45
          refine (FM.out _ ((HW.out.bel (HB.out.al _)).1)).mono ?_
          rintro e w3 ⟨rfl, hb3⟩
          have HB3 : Hid (Bel w w3) := (HB.out.al _).tr hb3
          have HR3 : Hid (Bk w3 w.heap.size 26 #[.int .i64 0, .int .i64 0, .int .i64 0]) := (HR.out.al _).bel hb3
          have HM3 : Hid (Bk w3 wr.heap.size 26 #[.int .i64 3, .int .i64 0, .int .i64 0]) := (Bk.nw _ _ _).bel hb3
          clear hb3
          rcases Classical.em (F = s) with hs | hs
          · subst hs
            have q0 : w3.cell? ⟨wr.heap.size, 0, none⟩ = some (.int .i64 3) := HM3.out.cell 0
            have q1 : w3.cell? ⟨wr.heap.size, 1, none⟩ = some (.int .i64 0) := HM3.out.cell 1
            have q2 : w3.cell? ⟨wr.heap.size, 2, none⟩ = some (.int .i64 0) := HM3.out.cell 2
            have r0 : w3.cell? ⟨w.heap.size, 0, none⟩ = some (.int .i64 0) := HR3.out.cell 0
            have r1 : w3.cell? ⟨w.heap.size, 1, none⟩ = some (.int .i64 0) := HR3.out.cell 1
            have r2 : w3.cell? ⟨w.heap.size, 2, none⟩ = some (.int .i64 0) := HR3.out.cell 2
            have f0 := HR3.out.fr 0
            have f1 := HR3.out.fr 1
            have f2 := HR3.out.fr 2
            go_wp2
            refine bodyPost_ret (v := .tuple #[.agg #[.int .i64 3, .int .i64 0, .int .i64 0], .int .i64 0]) (by simp [results, Tryz.results22, go_sem, r0, r1, r2]) rfl ⟨.inl ⟨3, by decide, by decide, (HCD.out 3).2 ⟨HY.out.symm, HF.out⟩, rfl⟩, ?_⟩
            exact ((HB3.out.st (Nat.le_refl _) _).st (Nat.le_refl _) _).st (Nat.le_refl _) _
          · have hs2 := str_ne hs
            have NC : Hid (¬ C 3) := fun h => hs (HF.out.symm.trans (HCD.out 3 |>.1 h).2)
            clear hs
            go_wp2
            go_roundw
            case rel => exact ⟨4, _, rfl, by omega, by omega, by go_num, fun j j1 j2 => by
              rcases (show j = 3 ∨ j < 3 by omega) with rfl | h
              · exact NC.out
              · exact HC.out j j1 h, HR3.out, HB3.out⟩
            case measure => simp [intOf]
        · have hx2 := str_ne hx
          have NC : Hid (¬ C 3) := fun h => hx ((HCD.out 3 |>.1 h).1.trans HY.out)
          have HBA : Hid (Bel w (wr.alloc (.cells #[.int .i64 3, .int .i64 0, .int .i64 0] 26))) := HB.out.al _
          have HRA : Hid (Bk (wr.alloc (.cells #[.int .i64 3, .int .i64 0, .int .i64 0] 26)) w.heap.size 26 #[.int .i64 0, .int .i64 0, .int .i64 0]) := HR.out.al _
          clear hx hy
          go_wp2_with (go_at_call 44; refine (NM.out _).mono ?_; rintro e w2 ⟨rfl, rfl⟩)
          go_roundw
          case rel => exact ⟨4, _, rfl, by omega, by omega, by go_num, fun j j1 j2 => by
            rcases (show j = 3 ∨ j < 3 by omega) with rfl | h
            · exact NC.out
            · exact HC.out j j1 h, HRA.out, HBA.out⟩
          case measure => simp [intOf]
      · have NM : Hid (∀ W, _) := fun W => name_ok 4 (by decide) (by decide) W
        obtain ⟨y, hy⟩ : ∃ y : ByteArray, (⟨(nm 4).toArray⟩ : ByteArray) = y := ⟨_, rfl⟩
        rw [hy] at NM
        have HY := Lib.hid hy
        rcases Classical.em (xa = y) with hx | hx
        · subst hx
          have FM : Hid (∀ W, Itab W → Calls Tryz.prog 45 #[.agg #[.int .i64 4, .int .i64 0, .int .i64 0]] W fun e w' => e = .returned (.string ⟨(fmt 4 0).toArray⟩) ∧ Bel W w') := fun W hW => format_ok 4 0 (by decide) (by decide) (by have := HN.out; omega) (by have := HN.out; omega) W hW
          obtain ⟨F, hF⟩ : ∃ F : ByteArray, (⟨(fmt 4 0).toArray⟩ : ByteArray) = F := ⟨_, rfl⟩
          rw [hF] at FM
          have HF := Lib.hid hF
          clear hF hy
          go_wp2_with (go_at_call 44; refine (NM.out _).mono ?_; rintro e w2 ⟨rfl, rfl⟩)
          go_at_call 45
          refine (FM.out _ ((HW.out.bel (HB.out.al _)).1)).mono ?_
          rintro e w3 ⟨rfl, hb3⟩
          have HB3 : Hid (Bel w w3) := (HB.out.al _).tr hb3
          have HR3 : Hid (Bk w3 w.heap.size 26 #[.int .i64 0, .int .i64 0, .int .i64 0]) := (HR.out.al _).bel hb3
          have HM3 : Hid (Bk w3 wr.heap.size 26 #[.int .i64 4, .int .i64 0, .int .i64 0]) := (Bk.nw _ _ _).bel hb3
          clear hb3
          rcases Classical.em (F = s) with hs | hs
          · subst hs
            have q0 : w3.cell? ⟨wr.heap.size, 0, none⟩ = some (.int .i64 4) := HM3.out.cell 0
            have q1 : w3.cell? ⟨wr.heap.size, 1, none⟩ = some (.int .i64 0) := HM3.out.cell 1
            have q2 : w3.cell? ⟨wr.heap.size, 2, none⟩ = some (.int .i64 0) := HM3.out.cell 2
            have r0 : w3.cell? ⟨w.heap.size, 0, none⟩ = some (.int .i64 0) := HR3.out.cell 0
            have r1 : w3.cell? ⟨w.heap.size, 1, none⟩ = some (.int .i64 0) := HR3.out.cell 1
            have r2 : w3.cell? ⟨w.heap.size, 2, none⟩ = some (.int .i64 0) := HR3.out.cell 2
            have f0 := HR3.out.fr 0
            have f1 := HR3.out.fr 1
            have f2 := HR3.out.fr 2
            go_wp2
            refine bodyPost_ret (v := .tuple #[.agg #[.int .i64 4, .int .i64 0, .int .i64 0], .int .i64 0]) (by simp [results, Tryz.results22, go_sem, r0, r1, r2]) rfl ⟨.inl ⟨4, by decide, by decide, (HCD.out 4).2 ⟨HY.out.symm, HF.out⟩, rfl⟩, ?_⟩
            exact ((HB3.out.st (Nat.le_refl _) _).st (Nat.le_refl _) _).st (Nat.le_refl _) _
          · have hs2 := str_ne hs
            have NC : Hid (¬ C 4) := fun h => hs (HF.out.symm.trans (HCD.out 4 |>.1 h).2)
            clear hs
            go_wp2
            go_roundw
            case rel => exact ⟨5, _, rfl, by omega, by omega, by go_num, fun j j1 j2 => by
              rcases (show j = 4 ∨ j < 4 by omega) with rfl | h
              · exact NC.out
              · exact HC.out j j1 h, HR3.out, HB3.out⟩
            case measure => simp [intOf]
        · have hx2 := str_ne hx
          have NC : Hid (¬ C 4) := fun h => hx ((HCD.out 4 |>.1 h).1.trans HY.out)
          have HBA : Hid (Bel w (wr.alloc (.cells #[.int .i64 4, .int .i64 0, .int .i64 0] 26))) := HB.out.al _
          have HRA : Hid (Bk (wr.alloc (.cells #[.int .i64 4, .int .i64 0, .int .i64 0] 26)) w.heap.size 26 #[.int .i64 0, .int .i64 0, .int .i64 0]) := HR.out.al _
          clear hx hy
          go_wp2_with (go_at_call 44; refine (NM.out _).mono ?_; rintro e w2 ⟨rfl, rfl⟩)
          go_roundw
          case rel => exact ⟨5, _, rfl, by omega, by omega, by go_num, fun j j1 j2 => by
            rcases (show j = 4 ∨ j < 4 by omega) with rfl | h
            · exact NC.out
            · exact HC.out j j1 h, HRA.out, HBA.out⟩
          case measure => simp [intOf]
      · have NM : Hid (∀ W, _) := fun W => name_ok 5 (by decide) (by decide) W
        obtain ⟨y, hy⟩ : ∃ y : ByteArray, (⟨(nm 5).toArray⟩ : ByteArray) = y := ⟨_, rfl⟩
        rw [hy] at NM
        have HY := Lib.hid hy
        rcases Classical.em (xa = y) with hx | hx
        · subst hx
          have FM : Hid (∀ W, Itab W → Calls Tryz.prog 45 #[.agg #[.int .i64 5, .int .i64 0, .int .i64 0]] W fun e w' => e = .returned (.string ⟨(fmt 5 0).toArray⟩) ∧ Bel W w') := fun W hW => format_ok 5 0 (by decide) (by decide) (by have := HN.out; omega) (by have := HN.out; omega) W hW
          obtain ⟨F, hF⟩ : ∃ F : ByteArray, (⟨(fmt 5 0).toArray⟩ : ByteArray) = F := ⟨_, rfl⟩
          rw [hF] at FM
          have HF := Lib.hid hF
          clear hF hy
          go_wp2_with (go_at_call 44; refine (NM.out _).mono ?_; rintro e w2 ⟨rfl, rfl⟩)
          go_at_call 45
          refine (FM.out _ ((HW.out.bel (HB.out.al _)).1)).mono ?_
          rintro e w3 ⟨rfl, hb3⟩
          have HB3 : Hid (Bel w w3) := (HB.out.al _).tr hb3
          have HR3 : Hid (Bk w3 w.heap.size 26 #[.int .i64 0, .int .i64 0, .int .i64 0]) := (HR.out.al _).bel hb3
          have HM3 : Hid (Bk w3 wr.heap.size 26 #[.int .i64 5, .int .i64 0, .int .i64 0]) := (Bk.nw _ _ _).bel hb3
          clear hb3
          rcases Classical.em (F = s) with hs | hs
          · subst hs
            have q0 : w3.cell? ⟨wr.heap.size, 0, none⟩ = some (.int .i64 5) := HM3.out.cell 0
            have q1 : w3.cell? ⟨wr.heap.size, 1, none⟩ = some (.int .i64 0) := HM3.out.cell 1
            have q2 : w3.cell? ⟨wr.heap.size, 2, none⟩ = some (.int .i64 0) := HM3.out.cell 2
            have r0 : w3.cell? ⟨w.heap.size, 0, none⟩ = some (.int .i64 0) := HR3.out.cell 0
            have r1 : w3.cell? ⟨w.heap.size, 1, none⟩ = some (.int .i64 0) := HR3.out.cell 1
            have r2 : w3.cell? ⟨w.heap.size, 2, none⟩ = some (.int .i64 0) := HR3.out.cell 2
            have f0 := HR3.out.fr 0
            have f1 := HR3.out.fr 1
            have f2 := HR3.out.fr 2
            go_wp2
            refine bodyPost_ret (v := .tuple #[.agg #[.int .i64 5, .int .i64 0, .int .i64 0], .int .i64 0]) (by simp [results, Tryz.results22, go_sem, r0, r1, r2]) rfl ⟨.inl ⟨5, by decide, by decide, (HCD.out 5).2 ⟨HY.out.symm, HF.out⟩, rfl⟩, ?_⟩
            exact ((HB3.out.st (Nat.le_refl _) _).st (Nat.le_refl _) _).st (Nat.le_refl _) _
          · have hs2 := str_ne hs
            have NC : Hid (¬ C 5) := fun h => hs (HF.out.symm.trans (HCD.out 5 |>.1 h).2)
            clear hs
            go_wp2
            go_roundw
            case rel => exact ⟨6, _, rfl, by omega, by omega, by go_num, fun j j1 j2 => by
              rcases (show j = 5 ∨ j < 5 by omega) with rfl | h
              · exact NC.out
              · exact HC.out j j1 h, HR3.out, HB3.out⟩
            case measure => simp [intOf]
        · have hx2 := str_ne hx
          have NC : Hid (¬ C 5) := fun h => hx ((HCD.out 5 |>.1 h).1.trans HY.out)
          have HBA : Hid (Bel w (wr.alloc (.cells #[.int .i64 5, .int .i64 0, .int .i64 0] 26))) := HB.out.al _
          have HRA : Hid (Bk (wr.alloc (.cells #[.int .i64 5, .int .i64 0, .int .i64 0] 26)) w.heap.size 26 #[.int .i64 0, .int .i64 0, .int .i64 0]) := HR.out.al _
          clear hx hy
          go_wp2_with (go_at_call 44; refine (NM.out _).mono ?_; rintro e w2 ⟨rfl, rfl⟩)
          go_roundw
          case rel => exact ⟨6, _, rfl, by omega, by omega, by go_num, fun j j1 j2 => by
            rcases (show j = 5 ∨ j < 5 by omega) with rfl | h
            · exact NC.out
            · exact HC.out j j1 h, HRA.out, HBA.out⟩
          case measure => simp [intOf]
      · have r0 : wr.cell? ⟨w.heap.size, 0, none⟩ = some (.int .i64 0) := HR.out.cell 0
        have r1 : wr.cell? ⟨w.heap.size, 1, none⟩ = some (.int .i64 0) := HR.out.cell 1
        have r2 : wr.cell? ⟨w.heap.size, 2, none⟩ = some (.int .i64 0) := HR.out.cell 2
        have f0 := HR.out.fr 0
        have f1 := HR.out.fr 1
        have f2 := HR.out.fr 2
        go_wp2
        refine bodyPost_ret (v := .tuple #[.agg #[.int .i64 0, .int .i64 0, .int .i64 0], .int .i64 3]) (by simp [results, Tryz.results22, go_sem, r0, r1, r2]) rfl ⟨.inr ⟨fun j j1 j5 => HC.out j j1 (by omega), rfl⟩, ?_⟩
        exact ((HB.out.st (Nat.le_refl _) _).st (Nat.le_refl _) _).st (Nat.le_refl _) _
end Go.Proofs.YtabmpnmhjdbdmaaGreatDoor.Ms
