/- The contract of ratio.Parse of any text. -/
import Derived.Test.YtbldfchapnbdfaaDoorRr3
namespace Go.Proofs.YtbldfchapnbdfaaDoor.Rr
open Go.ChangeShapes Go.WideShapes Go.RowKit Wo Ra
set_option linter.unusedVariables false
/-- what Parse answers -/
noncomputable def po (s : ByteArray) : Value :=
  if rv (pn s.data.toList) (pd s.data.toList) = true ∧ (⟨(fmt (pn s.data.toList) (pd s.data.toList)).toArray⟩ : ByteArray) = s then .tuple #[.agg #[.int .i64 (pn s.data.toList), .int .i64 (pd s.data.toList)], .int .i64 0]
  else .tuple #[.agg #[.int .i64 0, .int .i64 0], .int .i64 3]
theorem str_ne {F s : ByteArray} (h : ¬ F = s) : (F.toList == s.toList) = false := by
  rw [beq_eq_false_iff_ne]
  intro e
  apply h
  rw [Lib.toList_data, Lib.toList_data] at e
  cases F; cases s
  simp only [ByteArray.mk.injEq]
  exact Array.toList_inj.1 e
theorem cut_small (l : List UInt8) : (cut47 l).1.length ≤ l.length ∧ (cut47 l).2.1.length ≤ l.length := by
  unfold cut47
  split
  · refine ⟨?_, ?_⟩
    · show (l.take _).length ≤ _; rw [List.length_take]; omega
    · show (l.drop _).length ≤ _; rw [List.length_drop]; omega
  · exact ⟨Nat.le_refl _, by show (0 : Nat) ≤ _; omega⟩
theorem results_ct {fn : Func} {p u : Tmp} (h : fn.results = #[.cell p 25, .tmp u]) (tmps : Array Value) (w : World) (g : Nat) (a b : Value)
    (hp : tmps.getD p undef = .pointer (some ⟨g, 0, none⟩)) (hg : Bk w g 25 #[a, b]) :
    (results fn tmps).run Tryd.prog w = .ok (.tuple #[.agg #[a, b], tmps.getD u undef]) w := by
  have hp' : tmps[p]?.getD undef = .pointer (some ⟨g, 0, none⟩) := by simpa using hp
  have hl := run_loadVar_row (P := Tryd.prog) w g 25 25 #[a, b] (0, 0) _ hg Tryd.underlying25 rfl (by kernel_rfl)
  simp [results, h, hp', asAddr, hl]
set_option maxHeartbeats 8000000 in
theorem parse_any (s : ByteArray) (hs : s.size ≤ 60) (w : World) (hw : Lw w) : Calls Tryd.prog 7 #[.string s] w fun e w' => e = .returned (po s) ∧ Bel w w' := by
  obtain ⟨xa, hxa⟩ : ∃ x : ByteArray, (⟨(cut47 s.data.toList).1.toArray⟩ : ByteArray) = x := ⟨_, rfl⟩
  obtain ⟨xb, hxb⟩ : ∃ x : ByteArray, (⟨(cut47 s.data.toList).2.1.toArray⟩ : ByteArray) = x := ⟨_, rfl⟩
  obtain ⟨f, hf⟩ : ∃ f : Bool, (cut47 s.data.toList).2.2 = f := ⟨_, rfl⟩
  obtain ⟨n, hn⟩ : ∃ n, pn s.data.toList = n := ⟨_, rfl⟩
  obtain ⟨d, hd⟩ : ∃ d, pd s.data.toList = d := ⟨_, rfl⟩
  have sm := cut_small s.data.toList
  rw [← Lib.size_eq] at sm
  have sa : xa.size ≤ 281474976710656 := by rw [← hxa]; show (cut47 s.data.toList).1.toArray.size ≤ _; rw [List.size_toArray]; omega
  have sb : xb.size ≤ 281474976710656 := by rw [← hxb]; show (cut47 s.data.toList).2.1.toArray.size ≤ _; rw [List.size_toArray]; omega
  have HC : Hid (∀ W, Calls Tryd.prog 15 #[.string s, .string ⟨#[47]⟩] W fun e w' => e = .returned (.tuple #[.string xa, .string xb, .bool f]) ∧ Bel W w') := by
    rw [← hxa, ← hxb, ← hf]; exact Lib.hid (cut_any s (by omega))
  have HA : Hid (∀ W, Lw W → Calls Tryd.prog 16 #[.string xa] W fun e w' => e = .returned (.int .i64 n) ∧ Bel W w') := by
    refine Lib.hid (fun W hW => ?_)
    have := number_any xa sa W hW
    have e : xa.data.toList = (cut47 s.data.toList).1 := by rw [← hxa]
    rw [e] at this
    unfold pn at hn
    rw [hn] at this
    exact this
  have HD : Hid (∀ W, Lw W → Calls Tryd.prog 16 #[.string (if f = true then xb else ⟨#[49]⟩)] W fun e w' => e = .returned (.int .i64 d) ∧ Bel W w') := by
    refine Lib.hid (fun W hW => ?_)
    have e1 : (⟨#[49]⟩ : ByteArray).size ≤ 281474976710656 := by show (1 : Nat) ≤ _; omega
    have := number_any (if f = true then xb else ⟨#[49]⟩) (by split; exact sb; exact e1) W hW
    have e : (if f = true then xb else (⟨#[49]⟩ : ByteArray)).data.toList = (if (cut47 s.data.toList).2.2 = true then (cut47 s.data.toList).2.1 else [49]) := by
      rw [hf, ← hxb]
      split <;> rfl
    rw [e] at this
    unfold pd at hd
    rw [hd] at this
    exact this
  have HPO : Hid (po s = if rv n d = true ∧ (⟨(fmt n d).toArray⟩ : ByteArray) = s then .tuple #[.agg #[.int .i64 n, .int .i64 d], .int .i64 0] else .tuple #[.agg #[.int .i64 0, .int .i64 0], .int .i64 3]) := by
    unfold po; rw [hn, hd]; exact Lib.hid rfl
  have HV := Lib.hid (fun W => valid_any n d W)
  have HW := Lib.hid hw
  clear sa sb sm hxa hxb hf hn hd hw hs
  go_enter Tryd.func7, Tryd.ntmps7
  go_wp2_with fail
  go_at_call 15
  refine (HC.out _).mono ?_
  rintro e w1 ⟨rfl, hb⟩
  have HB1 : Hid (Bel w w1) := (Bel.rf.al _).tr hb
  have HR1 := Lib.hid ((Bk.nw w 25 #[.int .i64 0, .int .i64 0]).bel hb)
  have j0 : w1.cell? ⟨w.heap.size, 0, none⟩ = some (.int .i64 0) := HR1.out.cell 0
  have j1 : w1.cell? ⟨w.heap.size, 1, none⟩ = some (.int .i64 0) := HR1.out.cell 1
  clear hb
  cases f
  · rw [if_neg (by simp)] at HD
    go_wp2_with fail
    go_at_call 16
    refine (HA.out _ (HW.out.bel HB1.out)).mono ?_
    rintro e w2 ⟨rfl, hb⟩
    have HB2 : Hid (Bel w w2) := HB1.out.tr hb
    have HR2 := Lib.hid (HR1.out.bel hb)
    clear hb j0 j1 HR1
    go_wp2_with fail
    go_at_call 16
    refine (HD.out _ (HW.out.bel HB2.out)).mono ?_
    rintro e w3 ⟨rfl, hb⟩
    have HB3 : Hid (Bel w w3) := HB2.out.tr hb
    have HR3 := Lib.hid (HR2.out.bel hb)
    clear hb HR2
    go_wp2_with fail
    go_at_call 9
    refine (HV.out _).mono ?_
    rintro e w4 ⟨rfl, hb⟩
    have HN4 := Lib.hid ((Bk.nw w3 25 #[.int .i64 n, .int .i64 d]).bel hb)
    have HB4 : Hid (Bel w w4) := (HB3.out.al _).tr hb
    have HR4 := Lib.hid ((HR3.out.al (.cells #[.int .i64 n, .int .i64 d] 25)).bel hb)
    clear hb HR3
    have q0 : w4.cell? ⟨w3.heap.size, 0, none⟩ = some (.int .i64 n) := HN4.out.cell 0
    have q1 : w4.cell? ⟨w3.heap.size, 1, none⟩ = some (.int .i64 d) := HN4.out.cell 1
    rcases hv : rv n d with _ | _
    · have r0 : w4.cell? ⟨w.heap.size, 0, none⟩ = some (.int .i64 0) := HR4.out.cell 0
      have r1 : w4.cell? ⟨w.heap.size, 1, none⟩ = some (.int .i64 0) := HR4.out.cell 1
      have ht := HR4.out.lt
      have z0 : w4.frozen? ⟨w.heap.size, 0, none⟩ = false := HR4.out.fr 0
      have z1 : w4.frozen? ⟨w.heap.size, 1, none⟩ = false := HR4.out.fr 1
      go_wp2
      refine bodyPost_ret (v := .tuple #[.agg #[.int .i64 0, .int .i64 0], .int .i64 3]) (results_ct Tryd.results7 _ _ w.heap.size (.int .i64 0) (.int .i64 0) rfl ((HR4.out.st 0 _).st 1 _)) rfl ?_
      refine ⟨?_, ?_⟩
      · rw [HPO.out, hv, if_neg (by simp)]
      · exact Bel.st2 (Nat.le_refl _) (Bel.st2 (Nat.le_refl _) HB4.out _) _
    · obtain ⟨F, hF⟩ : ∃ F : ByteArray, (⟨(fmt n d).toArray⟩ : ByteArray) = F := ⟨_, rfl⟩
      have HF := Lib.hid (format_any n d hv w4 (HW.out.bel HB4.out).1)
      rw [hF] at HF
      have HE := Lib.hid hF
      clear hF
      go_wp2_with fail
      go_at_call 8
      refine HF.out.mono ?_
      rintro e w5 ⟨rfl, hb⟩
      have HB5 : Hid (Bel w w5) := HB4.out.tr hb
      have HR5 := Lib.hid (HR4.out.bel hb)
      have HN5 := Lib.hid (HN4.out.bel hb)
      clear hb HF
      have q0 : w5.cell? ⟨w3.heap.size, 0, none⟩ = some (.int .i64 n) := HN5.out.cell 0
      have q1 : w5.cell? ⟨w3.heap.size, 1, none⟩ = some (.int .i64 d) := HN5.out.cell 1
      have r0 : w5.cell? ⟨w.heap.size, 0, none⟩ = some (.int .i64 0) := HR5.out.cell 0
      have r1 : w5.cell? ⟨w.heap.size, 1, none⟩ = some (.int .i64 0) := HR5.out.cell 1
      have ht := HR5.out.lt
      have z0 : w5.frozen? ⟨w.heap.size, 0, none⟩ = false := HR5.out.fr 0
      have z1 : w5.frozen? ⟨w.heap.size, 1, none⟩ = false := HR5.out.fr 1
      by_cases hs : F = s
      · subst hs
        go_wp2
        refine bodyPost_ret (v := .tuple #[.agg #[.int .i64 n, .int .i64 d], .int .i64 0]) (results_ct Tryd.results7 _ _ w.heap.size (.int .i64 n) (.int .i64 d) rfl ((HR5.out.st 0 _).st 1 _)) rfl ?_
        refine ⟨?_, ?_⟩
        · rw [HPO.out, if_pos ⟨hv, HE.out⟩]
        · exact Bel.st2 (Nat.le_refl _) (Bel.st2 (Nat.le_refl _) HB5.out _) _
      · have n1 : (F.toList == s.toList) = false := str_ne hs
        go_wp2
        refine bodyPost_ret (v := .tuple #[.agg #[.int .i64 0, .int .i64 0], .int .i64 3]) (results_ct Tryd.results7 _ _ w.heap.size (.int .i64 0) (.int .i64 0) rfl ((HR5.out.st 0 _).st 1 _)) rfl ?_
        refine ⟨?_, ?_⟩
        · rw [HPO.out, HE.out, if_neg (fun h => hs h.2)]
        · exact Bel.st2 (Nat.le_refl _) (Bel.st2 (Nat.le_refl _) HB5.out _) _
  · rw [if_pos rfl] at HD
    go_wp2_with fail
    go_at_call 16
    refine (HA.out _ (HW.out.bel HB1.out)).mono ?_
    rintro e w2 ⟨rfl, hb⟩
    have HB2 : Hid (Bel w w2) := HB1.out.tr hb
    have HR2 := Lib.hid (HR1.out.bel hb)
    clear hb j0 j1 HR1
    go_wp2_with fail
    go_at_call 16
    refine (HD.out _ (HW.out.bel HB2.out)).mono ?_
    rintro e w3 ⟨rfl, hb⟩
    have HB3 : Hid (Bel w w3) := HB2.out.tr hb
    have HR3 := Lib.hid (HR2.out.bel hb)
    clear hb HR2
    go_wp2_with fail
    go_at_call 9
    refine (HV.out _).mono ?_
    rintro e w4 ⟨rfl, hb⟩
    have HN4 := Lib.hid ((Bk.nw w3 25 #[.int .i64 n, .int .i64 d]).bel hb)
    have HB4 : Hid (Bel w w4) := (HB3.out.al _).tr hb
    have HR4 := Lib.hid ((HR3.out.al (.cells #[.int .i64 n, .int .i64 d] 25)).bel hb)
    clear hb HR3
    have q0 : w4.cell? ⟨w3.heap.size, 0, none⟩ = some (.int .i64 n) := HN4.out.cell 0
    have q1 : w4.cell? ⟨w3.heap.size, 1, none⟩ = some (.int .i64 d) := HN4.out.cell 1
    rcases hv : rv n d with _ | _
    · have r0 : w4.cell? ⟨w.heap.size, 0, none⟩ = some (.int .i64 0) := HR4.out.cell 0
      have r1 : w4.cell? ⟨w.heap.size, 1, none⟩ = some (.int .i64 0) := HR4.out.cell 1
      have ht := HR4.out.lt
      have z0 : w4.frozen? ⟨w.heap.size, 0, none⟩ = false := HR4.out.fr 0
      have z1 : w4.frozen? ⟨w.heap.size, 1, none⟩ = false := HR4.out.fr 1
      go_wp2
      refine bodyPost_ret (v := .tuple #[.agg #[.int .i64 0, .int .i64 0], .int .i64 3]) (results_ct Tryd.results7 _ _ w.heap.size (.int .i64 0) (.int .i64 0) rfl ((HR4.out.st 0 _).st 1 _)) rfl ?_
      refine ⟨?_, ?_⟩
      · rw [HPO.out, hv, if_neg (by simp)]
      · exact Bel.st2 (Nat.le_refl _) (Bel.st2 (Nat.le_refl _) HB4.out _) _
    · obtain ⟨F, hF⟩ : ∃ F : ByteArray, (⟨(fmt n d).toArray⟩ : ByteArray) = F := ⟨_, rfl⟩
      have HF := Lib.hid (format_any n d hv w4 (HW.out.bel HB4.out).1)
      rw [hF] at HF
      have HE := Lib.hid hF
      clear hF
      go_wp2_with fail
      go_at_call 8
      refine HF.out.mono ?_
      rintro e w5 ⟨rfl, hb⟩
      have HB5 : Hid (Bel w w5) := HB4.out.tr hb
      have HR5 := Lib.hid (HR4.out.bel hb)
      have HN5 := Lib.hid (HN4.out.bel hb)
      clear hb HF
      have q0 : w5.cell? ⟨w3.heap.size, 0, none⟩ = some (.int .i64 n) := HN5.out.cell 0
      have q1 : w5.cell? ⟨w3.heap.size, 1, none⟩ = some (.int .i64 d) := HN5.out.cell 1
      have r0 : w5.cell? ⟨w.heap.size, 0, none⟩ = some (.int .i64 0) := HR5.out.cell 0
      have r1 : w5.cell? ⟨w.heap.size, 1, none⟩ = some (.int .i64 0) := HR5.out.cell 1
      have ht := HR5.out.lt
      have z0 : w5.frozen? ⟨w.heap.size, 0, none⟩ = false := HR5.out.fr 0
      have z1 : w5.frozen? ⟨w.heap.size, 1, none⟩ = false := HR5.out.fr 1
      by_cases hs : F = s
      · subst hs
        go_wp2
        refine bodyPost_ret (v := .tuple #[.agg #[.int .i64 n, .int .i64 d], .int .i64 0]) (results_ct Tryd.results7 _ _ w.heap.size (.int .i64 n) (.int .i64 d) rfl ((HR5.out.st 0 _).st 1 _)) rfl ?_
        refine ⟨?_, ?_⟩
        · rw [HPO.out, if_pos ⟨hv, HE.out⟩]
        · exact Bel.st2 (Nat.le_refl _) (Bel.st2 (Nat.le_refl _) HB5.out _) _
      · have n1 : (F.toList == s.toList) = false := str_ne hs
        go_wp2
        refine bodyPost_ret (v := .tuple #[.agg #[.int .i64 0, .int .i64 0], .int .i64 3]) (results_ct Tryd.results7 _ _ w.heap.size (.int .i64 0) (.int .i64 0) rfl ((HR5.out.st 0 _).st 1 _)) rfl ?_
        refine ⟨?_, ?_⟩
        · rw [HPO.out, HE.out, if_neg (fun h => hs h.2)]
        · exact Bel.st2 (Nat.le_refl _) (Bel.st2 (Nat.le_refl _) HB5.out _) _
end Go.Proofs.YtbldfchapnbdfaaDoor.Rr
