/- reading.parseLine of any line. -/
import Derived.Test.YtagodfielmdfhaaDoorRtP
namespace Go.Proofs.YtagodfielmdfhaaDoor.Rt
open Go.ChangeShapes Go.WideShapes Go.RowKit Wo Un Rg Go.MapKept
open Rm (Rp tm vl)
set_option linter.unusedVariables false
def LineR (US : List Ut) (s : ByteArray) (w : World) (e : Ending) (w' : World) : Prop := e = .returned (.tuple #[.agg #[.int .i64 (lineS US s.data.toList).1.1, .int .i64 (lineS US s.data.toList).1.2], .int .i64 (lineS US s.data.toList).2]) ∧ Bel w w'
theorem lineR_of {US : List Ut} {s : ByteArray} {w : World} {t v er : Int} (h : lineS US s.data.toList = ((t, v), er)) {e : Ending} {w' : World} (he : e = .returned (.tuple #[.agg #[.int .i64 t, .int .i64 v], .int .i64 er])) (hb : Bel w w') : LineR US s w e w' := by
  unfold LineR; rw [h]; exact ⟨he, hb⟩
theorem line_ne3 (US : List Ut) (c : List UInt8) (h : (Lib.split c [32]).length ≠ 3) : lineS US c = ((0, 0), 3) := by
  unfold lineS
  split
  · rename_i a b n hq
    rw [hq] at h; exact absurd rfl h
  · rfl
set_option maxHeartbeats 2000000 in
theorem line_short (s : ByteArray) (hs : s.size ≤ 20000) (US : List Ut) (h3 : (wds s).length ≠ 3) (r : Nat) (w : World) :
    Calls Tryd.prog 19 #[.string s, .map (some r)] w (LineR US s w) := by
  have HS := Lib.hid (split_any s (by omega))
  have HR := Lib.hid (line_ne3 US s.data.toList (by rw [← wds_data, List.length_map]; exact h3))
  have kn : (((wds s).length : Int) != 3) = true := by simp; omega
  have kn2 : ¬ ((wds s).length : Int) = 3 := by omega
  go_enter Tryd.func19, Tryd.ntmps19
  go_wp2_with fail
  go_at_call 24
  refine (HS.out _).mono ?_
  rintro e w1 ⟨rfl, rfl⟩
  go_wp2
  exact bodyPost_ret (v := .tuple #[.agg #[.int .i64 0, .int .i64 0], .int .i64 3]) (by simp [results, Tryd.results19, go_sem]) rfl (lineR_of HR.out rfl (by repeat (first | exact Bel.rf | exact hb | (with_reducible refine Bel.drwN ?_ _) | (with_reducible refine Bel.drw ?_) | (with_reducible refine Bel.al ?_ _) | ((with_reducible refine Bel.st2 ?_ ?_ _); (show _ ≤ _); (simp only []; omega)) | refine Bel.tr ?_ (by assumption))))
-- GEN
theorem results_ctR {fn : Func} {p u : Tmp} (h : fn.results = #[.cell p 40, .tmp u]) (tmps : Array Value) (w : World) (g : Nat) (a b : Value)
    (hp : tmps.getD p undef = .pointer (some ⟨g, 0, none⟩)) (hg : Bk w g 40 #[a, b]) :
    (results fn tmps).run Tryd.prog w = .ok (.tuple #[.agg #[a, b], tmps.getD u undef]) w := by
  have hp' : tmps[p]?.getD undef = .pointer (some ⟨g, 0, none⟩) := by simpa using hp
  have hl := run_loadVar_row (P := Tryd.prog) w g 40 40 #[a, b] (0, 0) _ hg Tryd.underlying40 rfl (by kernel_rfl)
  simp [results, h, hp', asAddr, hl]
set_option maxHeartbeats 4000000 in
set_option maxRecDepth 100000 in
theorem line_en (s a b n : ByteArray) (hs : s.size ≤ 20000) (US : List Ut) (hW : wds s = [a, b, n]) (ha : a.size ≤ 20000) (hn : n.data.toList = []) (r : Nat) (w : World) (hr : lineS US s.data.toList = ((0, 0), 3)) :
    Calls Tryd.prog 19 #[.string s, .map (some r)] w (LineR US s w) := by
  have HS : Hid (∀ w, Calls Tryd.prog 24 #[.string s, .string ⟨#[32]⟩] w fun e w' => e = .returned (.slice (some ⟨w.heap.size, 0, none⟩) 3 3) ∧ w' = w.alloc (.cells #[.string a, .string b, .string n] 9)) := fun w => by
    have := split_any s (by omega) w
    unfold Spl at this
    rw [hW] at this
    exact this
  have HR := Lib.hid hr
  clear hr hW
  have e0 : n.toList = [] := by rw [Lib.toList_data]; exact hn
  have e1 : n.toList.isEmpty = true := by rw [e0]; rfl
  go_enter Tryd.func19, Tryd.ntmps19
  go_wp2_with fail
  go_at_call 24
  refine (HS.out _).mono ?_
  rintro e w1 ⟨rfl, rfl⟩
  go_wp2
  exact bodyPost_ret (v := .tuple #[.agg #[.int .i64 0, .int .i64 0], .int .i64 3]) (by simp [results, Tryd.results19, go_sem]) rfl (lineR_of HR.out rfl (by repeat (first | exact Bel.rf | exact hb | (with_reducible refine Bel.drwN ?_ _) | (with_reducible refine Bel.drw ?_) | (with_reducible refine Bel.al ?_ _) | ((with_reducible refine Bel.st2 ?_ ?_ _); (show _ ≤ _); (simp only []; omega)) | refine Bel.tr ?_ (by assumption))))
set_option maxHeartbeats 4000000 in
set_option maxRecDepth 100000 in
theorem line_nt (s a b n : ByteArray) (hs : s.size ≤ 20000) (US : List Ut) (hW : wds s = [a, b, n]) (ha : a.size ≤ 20000) (hn : n.data.toList ≠ []) (hT : isT a.data.toList = false) (r : Nat) (w : World) (hr : lineS US s.data.toList = ((0, 0), 3)) :
    Calls Tryd.prog 19 #[.string s, .map (some r)] w (LineR US s w) := by
  have HS : Hid (∀ w, Calls Tryd.prog 24 #[.string s, .string ⟨#[32]⟩] w fun e w' => e = .returned (.slice (some ⟨w.heap.size, 0, none⟩) 3 3) ∧ w' = w.alloc (.cells #[.string a, .string b, .string n] 9)) := fun w => by
    have := split_any s (by omega) w
    unfold Spl at this
    rw [hW] at this
    exact this
  have HR := Lib.hid hr
  clear hr hW
  have e0 : n.toList.isEmpty = false := by rw [Lib.toList_data]; cases hq : n.data.toList with | nil => exact absurd hq hn | cons c l => rfl
  have e1 : (n.toList == []) = false := by rw [Lib.toList_data]; cases hq : n.data.toList with | nil => exact absurd hq hn | cons c l => rfl
  have HI : Hid (∀ w, Calls Tryd.prog 25 #[.string a] w fun e w' => e = .returned (.bool false) ∧ Bel w w') := fun w => by have := isTime_any a ha w; rw [hT] at this; exact this
  go_enter Tryd.func19, Tryd.ntmps19
  go_wp2_with fail
  go_at_call 24
  refine (HS.out _).mono ?_
  rintro e w1 ⟨rfl, rfl⟩
  go_wp2_with fail
  go_at_call 25
  refine (HI.out _).mono ?_
  rintro e w2 ⟨rfl, hb⟩
  have kB : Bk w2 (w.heap.size + 1) 9 #[.string a, .string b, .string n] := Bk.bel (Bk.nq (w.alloc (.cells #[.int .i64 0, .int .i64 0] 40)) _ _ (by simp)) hb
  have kR : Bk w2 w.heap.size 40 #[.int .i64 0, .int .i64 0] := Bk.bel ((Bk.nw w 40 #[.int .i64 0, .int .i64 0]).al _) hb
  have hb2 : Bel w w2 := ((Bel.rf.al _).al _).tr hb
  have c0 : w2.cell? ⟨w.heap.size + 1, 0, none⟩ = some (.string a) := by rw [kB.cell]; rfl
  have c1 : w2.cell? ⟨w.heap.size + 1, 1, none⟩ = some (.string b) := by rw [kB.cell]; rfl
  have c2 : w2.cell? ⟨w.heap.size + 1, 2, none⟩ = some (.string n) := by rw [kB.cell]; rfl
  have r0 : w2.cell? ⟨w.heap.size, 0, none⟩ = some (.int .i64 0) := by rw [kR.cell]; rfl
  have r1 : w2.cell? ⟨w.heap.size, 1, none⟩ = some (.int .i64 0) := by rw [kR.cell]; rfl
  have f0 := kR.fr 0
  have f1 := kR.fr 1
  have lt1 := kR.lt
  have lt2 := kB.lt
  have g0 : ∀ o, (w2.alloc o).frozen? ⟨w.heap.size, 0, none⟩ = false := fun o => (kR.al o).fr 0
  have g1 : ∀ o, (w2.alloc o).frozen? ⟨w.heap.size, 1, none⟩ = false := fun o => (kR.al o).fr 1
  have HK := Lib.hid kR
  have HB2 := Lib.hid (And.intro kB hb2)
  go_wp2
  exact bodyPost_ret (v := .tuple #[.agg #[.int .i64 0, .int .i64 0], .int .i64 3]) (results_ctR Tryd.results19 _ _ w.heap.size (.int .i64 0) (.int .i64 0) rfl ((HK.out.st 0 _).st 1 _)) rfl (lineR_of HR.out rfl (by repeat (first | exact Bel.rf | exact hb | (with_reducible refine Bel.drwN ?_ _) | (with_reducible refine Bel.drw ?_) | (with_reducible refine Bel.al ?_ _) | ((with_reducible refine Bel.st2 ?_ ?_ _); (show _ ≤ _); (simp only []; omega)) | refine Bel.tr ?_ (by assumption))))
set_option maxHeartbeats 4000000 in
set_option maxRecDepth 100000 in
theorem line_pf (s a b n : ByteArray) (hs : s.size ≤ 20000) (US : List Ut) (hW : wds s = [a, b, n]) (ha : a.size ≤ 20000) (hn : n.data.toList ≠ []) (hT : isT a.data.toList = true) (hbs : (⟨(Lib.trimPrefix b.data.toList [45]).toArray⟩ : ByteArray).size ≤ 4611686018427387904) (X P er : Int) (hp : prs (rn (Lib.trimPrefix b.data.toList [45])) (Lib.hasPrefix b.data.toList [45]) = .tuple #[.agg #[.int .i64 X, .int .i64 P], .int .i64 er]) (her : er = 3) (r : Nat) (w : World) (hr : lineS US s.data.toList = ((0, 0), 3)) :
    Calls Tryd.prog 19 #[.string s, .map (some r)] w (LineR US s w) := by
  have HS : Hid (∀ w, Calls Tryd.prog 24 #[.string s, .string ⟨#[32]⟩] w fun e w' => e = .returned (.slice (some ⟨w.heap.size, 0, none⟩) 3 3) ∧ w' = w.alloc (.cells #[.string a, .string b, .string n] 9)) := fun w => by
    have := split_any s (by omega) w
    unfold Spl at this
    rw [hW] at this
    exact this
  have HR := Lib.hid hr
  clear hr hW
  have e0 : n.toList.isEmpty = false := by rw [Lib.toList_data]; cases hq : n.data.toList with | nil => exact absurd hq hn | cons c l => rfl
  have e1 : (n.toList == []) = false := by rw [Lib.toList_data]; cases hq : n.data.toList with | nil => exact absurd hq hn | cons c l => rfl
  have HI : Hid (∀ w, Calls Tryd.prog 25 #[.string a] w fun e w' => e = .returned (.bool true) ∧ Bel w w') := fun w => by have := isTime_any a ha w; rw [hT] at this; exact this
  have HP : Hid (∀ w, Calls Tryd.prog 26 #[.string b] w fun e w' => e = .returned (.tuple #[.agg #[.int .i64 X, .int .i64 P], .int .i64 er]) ∧ Bel w w') := fun w => by rw [← hp]; exact parse_any b ⟨(Lib.trimPrefix b.data.toList [45]).toArray⟩ (Lib.hasPrefix b.data.toList [45]) hbs rfl rfl w
  subst her
  go_enter Tryd.func19, Tryd.ntmps19
  go_wp2_with fail
  go_at_call 24
  refine (HS.out _).mono ?_
  rintro e w1 ⟨rfl, rfl⟩
  go_wp2_with fail
  go_at_call 25
  refine (HI.out _).mono ?_
  rintro e w2 ⟨rfl, hb⟩
  have kB : Bk w2 (w.heap.size + 1) 9 #[.string a, .string b, .string n] := Bk.bel (Bk.nq (w.alloc (.cells #[.int .i64 0, .int .i64 0] 40)) _ _ (by simp)) hb
  have kR : Bk w2 w.heap.size 40 #[.int .i64 0, .int .i64 0] := Bk.bel ((Bk.nw w 40 #[.int .i64 0, .int .i64 0]).al _) hb
  have hb2 : Bel w w2 := ((Bel.rf.al _).al _).tr hb
  have c0 : w2.cell? ⟨w.heap.size + 1, 0, none⟩ = some (.string a) := by rw [kB.cell]; rfl
  have c1 : w2.cell? ⟨w.heap.size + 1, 1, none⟩ = some (.string b) := by rw [kB.cell]; rfl
  have c2 : w2.cell? ⟨w.heap.size + 1, 2, none⟩ = some (.string n) := by rw [kB.cell]; rfl
  have r0 : w2.cell? ⟨w.heap.size, 0, none⟩ = some (.int .i64 0) := by rw [kR.cell]; rfl
  have r1 : w2.cell? ⟨w.heap.size, 1, none⟩ = some (.int .i64 0) := by rw [kR.cell]; rfl
  have f0 := kR.fr 0
  have f1 := kR.fr 1
  have lt1 := kR.lt
  have lt2 := kB.lt
  have g0 : ∀ o, (w2.alloc o).frozen? ⟨w.heap.size, 0, none⟩ = false := fun o => (kR.al o).fr 0
  have g1 : ∀ o, (w2.alloc o).frozen? ⟨w.heap.size, 1, none⟩ = false := fun o => (kR.al o).fr 1
  have HK := Lib.hid kR
  have HB2 := Lib.hid (And.intro kB hb2)
  go_wp2_with fail
  go_at_call 26
  refine (HP.out _).mono ?_
  rintro e w3 ⟨rfl, hb3⟩
  have kB3 := (HB2.out.1).bel hb3
  have kR3 := (HK.out).bel hb3
  have hbw3 := (HB2.out.2).tr hb3
  clear c0 c1 c2 r0 r1 f0 f1 HB2 HK
  clear lt1 lt2 g0 g1
  have c0 : w3.cell? ⟨w.heap.size + 1, 0, none⟩ = some (.string a) := by rw [kB3.cell]; rfl
  have c1 : w3.cell? ⟨w.heap.size + 1, 1, none⟩ = some (.string b) := by rw [kB3.cell]; rfl
  have c2 : w3.cell? ⟨w.heap.size + 1, 2, none⟩ = some (.string n) := by rw [kB3.cell]; rfl
  have r0 : w3.cell? ⟨w.heap.size, 0, none⟩ = some (.int .i64 0) := by rw [kR3.cell]; rfl
  have r1 : w3.cell? ⟨w.heap.size, 1, none⟩ = some (.int .i64 0) := by rw [kR3.cell]; rfl
  have f0 := kR3.fr 0
  have f1 := kR3.fr 1
  have lt1 := kR3.lt
  have lt2 := kB3.lt
  have g0 : ∀ o, (w3.alloc o).frozen? ⟨w.heap.size, 0, none⟩ = false := fun o => (kR3.al o).fr 0
  have g1 : ∀ o, (w3.alloc o).frozen? ⟨w.heap.size, 1, none⟩ = false := fun o => (kR3.al o).fr 1
  have HK := Lib.hid kR3
  have HB2 := Lib.hid (And.intro kB3 hbw3)
  go_wp2
  exact bodyPost_ret (v := .tuple #[.agg #[.int .i64 0, .int .i64 0], .int .i64 3]) (results_ctR Tryd.results19 _ _ w.heap.size (.int .i64 0) (.int .i64 0) rfl (((HK.out.st 0 _).st 1 _).al _)) rfl (lineR_of HR.out rfl (by repeat (first | exact Bel.rf | exact hb | (with_reducible refine Bel.drwN ?_ _) | (with_reducible refine Bel.drw ?_) | (with_reducible refine Bel.al ?_ _) | ((with_reducible refine Bel.st2 ?_ ?_ _); (show _ ≤ _); (simp only []; omega)) | refine Bel.tr ?_ (by assumption))))
set_option maxHeartbeats 4000000 in
set_option maxRecDepth 100000 in
theorem line_late (s a b n : ByteArray) (hs : s.size ≤ 20000) (US : List Ut) (hW : wds s = [a, b, n]) (ha : a.size ≤ 20000) (hn : n.data.toList ≠ []) (hT : isT a.data.toList = true) (hbs : (⟨(Lib.trimPrefix b.data.toList [45]).toArray⟩ : ByteArray).size ≤ 4611686018427387904) (X P er tv : Int) (hp : prs (rn (Lib.trimPrefix b.data.toList [45])) (Lib.hasPrefix b.data.toList [45]) = .tuple #[.agg #[.int .i64 X, .int .i64 P], .int .i64 er]) (HA : Hid (∀ w, Calls Tryd.prog 27 #[.string a] w fun e w' => e = .returned (.tuple #[.int .i64 tv, .nilIface]) ∧ Bel w w')) (her : er ≠ 3) (ht : 1099511627776 < tv) (r : Nat) (w : World) (hr : lineS US s.data.toList = ((0, 0), 1)) :
    Calls Tryd.prog 19 #[.string s, .map (some r)] w (LineR US s w) := by
  have HS : Hid (∀ w, Calls Tryd.prog 24 #[.string s, .string ⟨#[32]⟩] w fun e w' => e = .returned (.slice (some ⟨w.heap.size, 0, none⟩) 3 3) ∧ w' = w.alloc (.cells #[.string a, .string b, .string n] 9)) := fun w => by
    have := split_any s (by omega) w
    unfold Spl at this
    rw [hW] at this
    exact this
  have HR := Lib.hid hr
  clear hr hW
  have e0 : n.toList.isEmpty = false := by rw [Lib.toList_data]; cases hq : n.data.toList with | nil => exact absurd hq hn | cons c l => rfl
  have e1 : (n.toList == []) = false := by rw [Lib.toList_data]; cases hq : n.data.toList with | nil => exact absurd hq hn | cons c l => rfl
  have HI : Hid (∀ w, Calls Tryd.prog 25 #[.string a] w fun e w' => e = .returned (.bool true) ∧ Bel w w') := fun w => by have := isTime_any a ha w; rw [hT] at this; exact this
  have HP : Hid (∀ w, Calls Tryd.prog 26 #[.string b] w fun e w' => e = .returned (.tuple #[.agg #[.int .i64 X, .int .i64 P], .int .i64 er]) ∧ Bel w w') := fun w => by rw [← hp]; exact parse_any b ⟨(Lib.trimPrefix b.data.toList [45]).toArray⟩ (Lib.hasPrefix b.data.toList [45]) hbs rfl rfl w
  have k1 : (er == 3) = false := by simpa using her
  have k2 : ¬ er = 3 := her
  clear hp
  go_enter Tryd.func19, Tryd.ntmps19
  go_wp2_with fail
  go_at_call 24
  refine (HS.out _).mono ?_
  rintro e w1 ⟨rfl, rfl⟩
  go_wp2_with fail
  go_at_call 25
  refine (HI.out _).mono ?_
  rintro e w2 ⟨rfl, hb⟩
  have kB : Bk w2 (w.heap.size + 1) 9 #[.string a, .string b, .string n] := Bk.bel (Bk.nq (w.alloc (.cells #[.int .i64 0, .int .i64 0] 40)) _ _ (by simp)) hb
  have kR : Bk w2 w.heap.size 40 #[.int .i64 0, .int .i64 0] := Bk.bel ((Bk.nw w 40 #[.int .i64 0, .int .i64 0]).al _) hb
  have hb2 : Bel w w2 := ((Bel.rf.al _).al _).tr hb
  have c0 : w2.cell? ⟨w.heap.size + 1, 0, none⟩ = some (.string a) := by rw [kB.cell]; rfl
  have c1 : w2.cell? ⟨w.heap.size + 1, 1, none⟩ = some (.string b) := by rw [kB.cell]; rfl
  have c2 : w2.cell? ⟨w.heap.size + 1, 2, none⟩ = some (.string n) := by rw [kB.cell]; rfl
  have r0 : w2.cell? ⟨w.heap.size, 0, none⟩ = some (.int .i64 0) := by rw [kR.cell]; rfl
  have r1 : w2.cell? ⟨w.heap.size, 1, none⟩ = some (.int .i64 0) := by rw [kR.cell]; rfl
  have f0 := kR.fr 0
  have f1 := kR.fr 1
  have lt1 := kR.lt
  have lt2 := kB.lt
  have g0 : ∀ o, (w2.alloc o).frozen? ⟨w.heap.size, 0, none⟩ = false := fun o => (kR.al o).fr 0
  have g1 : ∀ o, (w2.alloc o).frozen? ⟨w.heap.size, 1, none⟩ = false := fun o => (kR.al o).fr 1
  have HK := Lib.hid kR
  have HB2 := Lib.hid (And.intro kB hb2)
  go_wp2_with fail
  go_at_call 26
  refine (HP.out _).mono ?_
  rintro e w3 ⟨rfl, hb3⟩
  have kB3 := (HB2.out.1).bel hb3
  have kR3 := (HK.out).bel hb3
  have hbw3 := (HB2.out.2).tr hb3
  clear c0 c1 c2 r0 r1 f0 f1 HB2 HK
  clear lt1 lt2 g0 g1
  have c0 : w3.cell? ⟨w.heap.size + 1, 0, none⟩ = some (.string a) := by rw [kB3.cell]; rfl
  have c1 : w3.cell? ⟨w.heap.size + 1, 1, none⟩ = some (.string b) := by rw [kB3.cell]; rfl
  have c2 : w3.cell? ⟨w.heap.size + 1, 2, none⟩ = some (.string n) := by rw [kB3.cell]; rfl
  have r0 : w3.cell? ⟨w.heap.size, 0, none⟩ = some (.int .i64 0) := by rw [kR3.cell]; rfl
  have r1 : w3.cell? ⟨w.heap.size, 1, none⟩ = some (.int .i64 0) := by rw [kR3.cell]; rfl
  have f0 := kR3.fr 0
  have f1 := kR3.fr 1
  have lt1 := kR3.lt
  have lt2 := kB3.lt
  have g0 : ∀ o, (w3.alloc o).frozen? ⟨w.heap.size, 0, none⟩ = false := fun o => (kR3.al o).fr 0
  have g1 : ∀ o, (w3.alloc o).frozen? ⟨w.heap.size, 1, none⟩ = false := fun o => (kR3.al o).fr 1
  have HK := Lib.hid kR3
  have HB2 := Lib.hid (And.intro kB3 hbw3)
  go_wp2_with fail
  go_at_call 27
  refine (HA.out _).mono ?_
  rintro e w4 ⟨rfl, hb4⟩
  have kB4 := (HB2.out.1.al _).bel hb4
  have kR4 := (HK.out.al _).bel hb4
  have hbw4 := (HB2.out.2.al _).tr hb4
  clear c0 c1 c2 r0 r1 f0 f1 HB2 HK
  clear lt1 lt2 g0 g1
  have c0 : w4.cell? ⟨w.heap.size + 1, 0, none⟩ = some (.string a) := by rw [kB4.cell]; rfl
  have c1 : w4.cell? ⟨w.heap.size + 1, 1, none⟩ = some (.string b) := by rw [kB4.cell]; rfl
  have c2 : w4.cell? ⟨w.heap.size + 1, 2, none⟩ = some (.string n) := by rw [kB4.cell]; rfl
  have r0 : w4.cell? ⟨w.heap.size, 0, none⟩ = some (.int .i64 0) := by rw [kR4.cell]; rfl
  have r1 : w4.cell? ⟨w.heap.size, 1, none⟩ = some (.int .i64 0) := by rw [kR4.cell]; rfl
  have f0 := kR4.fr 0
  have f1 := kR4.fr 1
  have lt1 := kR4.lt
  have lt2 := kB4.lt
  have g0 : ∀ o, (w4.alloc o).frozen? ⟨w.heap.size, 0, none⟩ = false := fun o => (kR4.al o).fr 0
  have g1 : ∀ o, (w4.alloc o).frozen? ⟨w.heap.size, 1, none⟩ = false := fun o => (kR4.al o).fr 1
  have HK := Lib.hid kR4
  have HB2 := Lib.hid (And.intro kB4 hbw4)
  go_wp2
  exact bodyPost_ret (v := .tuple #[.agg #[.int .i64 0, .int .i64 0], .int .i64 1]) (results_ctR Tryd.results19 _ _ w.heap.size (.int .i64 0) (.int .i64 0) rfl ((HK.out.st 0 _).st 1 _)) rfl (lineR_of HR.out rfl (by repeat (first | exact Bel.rf | exact hb | (with_reducible refine Bel.drwN ?_ _) | (with_reducible refine Bel.drw ?_) | (with_reducible refine Bel.al ?_ _) | ((with_reducible refine Bel.st2 ?_ ?_ _); (show _ ≤ _); (simp only []; omega)) | refine Bel.tr ?_ (by assumption))))
set_option maxHeartbeats 4000000 in
set_option maxRecDepth 100000 in
theorem line_range (s a b n : ByteArray) (hs : s.size ≤ 20000) (US : List Ut) (hW : wds s = [a, b, n]) (ha : a.size ≤ 20000) (hn : n.data.toList ≠ []) (hT : isT a.data.toList = true) (hbs : (⟨(Lib.trimPrefix b.data.toList [45]).toArray⟩ : ByteArray).size ≤ 4611686018427387904) (X P er tv : Int) (hp : prs (rn (Lib.trimPrefix b.data.toList [45])) (Lib.hasPrefix b.data.toList [45]) = .tuple #[.agg #[.int .i64 X, .int .i64 P], .int .i64 er]) (HA : Hid (∀ w, Calls Tryd.prog 27 #[.string a] w fun e w' => e = .returned (.tuple #[.int .i64 tv, .nilIface]) ∧ Bel w w')) (her : er = 1) (ht : ¬ 1099511627776 < tv) (r : Nat) (w : World) (hr : lineS US s.data.toList = ((0, 0), 1)) :
    Calls Tryd.prog 19 #[.string s, .map (some r)] w (LineR US s w) := by
  have HS : Hid (∀ w, Calls Tryd.prog 24 #[.string s, .string ⟨#[32]⟩] w fun e w' => e = .returned (.slice (some ⟨w.heap.size, 0, none⟩) 3 3) ∧ w' = w.alloc (.cells #[.string a, .string b, .string n] 9)) := fun w => by
    have := split_any s (by omega) w
    unfold Spl at this
    rw [hW] at this
    exact this
  have HR := Lib.hid hr
  clear hr hW
  have e0 : n.toList.isEmpty = false := by rw [Lib.toList_data]; cases hq : n.data.toList with | nil => exact absurd hq hn | cons c l => rfl
  have e1 : (n.toList == []) = false := by rw [Lib.toList_data]; cases hq : n.data.toList with | nil => exact absurd hq hn | cons c l => rfl
  have HI : Hid (∀ w, Calls Tryd.prog 25 #[.string a] w fun e w' => e = .returned (.bool true) ∧ Bel w w') := fun w => by have := isTime_any a ha w; rw [hT] at this; exact this
  have HP : Hid (∀ w, Calls Tryd.prog 26 #[.string b] w fun e w' => e = .returned (.tuple #[.agg #[.int .i64 X, .int .i64 P], .int .i64 er]) ∧ Bel w w') := fun w => by rw [← hp]; exact parse_any b ⟨(Lib.trimPrefix b.data.toList [45]).toArray⟩ (Lib.hasPrefix b.data.toList [45]) hbs rfl rfl w
  subst her
  clear hp
  go_enter Tryd.func19, Tryd.ntmps19
  go_wp2_with fail
  go_at_call 24
  refine (HS.out _).mono ?_
  rintro e w1 ⟨rfl, rfl⟩
  go_wp2_with fail
  go_at_call 25
  refine (HI.out _).mono ?_
  rintro e w2 ⟨rfl, hb⟩
  have kB : Bk w2 (w.heap.size + 1) 9 #[.string a, .string b, .string n] := Bk.bel (Bk.nq (w.alloc (.cells #[.int .i64 0, .int .i64 0] 40)) _ _ (by simp)) hb
  have kR : Bk w2 w.heap.size 40 #[.int .i64 0, .int .i64 0] := Bk.bel ((Bk.nw w 40 #[.int .i64 0, .int .i64 0]).al _) hb
  have hb2 : Bel w w2 := ((Bel.rf.al _).al _).tr hb
  have c0 : w2.cell? ⟨w.heap.size + 1, 0, none⟩ = some (.string a) := by rw [kB.cell]; rfl
  have c1 : w2.cell? ⟨w.heap.size + 1, 1, none⟩ = some (.string b) := by rw [kB.cell]; rfl
  have c2 : w2.cell? ⟨w.heap.size + 1, 2, none⟩ = some (.string n) := by rw [kB.cell]; rfl
  have r0 : w2.cell? ⟨w.heap.size, 0, none⟩ = some (.int .i64 0) := by rw [kR.cell]; rfl
  have r1 : w2.cell? ⟨w.heap.size, 1, none⟩ = some (.int .i64 0) := by rw [kR.cell]; rfl
  have f0 := kR.fr 0
  have f1 := kR.fr 1
  have lt1 := kR.lt
  have lt2 := kB.lt
  have g0 : ∀ o, (w2.alloc o).frozen? ⟨w.heap.size, 0, none⟩ = false := fun o => (kR.al o).fr 0
  have g1 : ∀ o, (w2.alloc o).frozen? ⟨w.heap.size, 1, none⟩ = false := fun o => (kR.al o).fr 1
  have HK := Lib.hid kR
  have HB2 := Lib.hid (And.intro kB hb2)
  go_wp2_with fail
  go_at_call 26
  refine (HP.out _).mono ?_
  rintro e w3 ⟨rfl, hb3⟩
  have kB3 := (HB2.out.1).bel hb3
  have kR3 := (HK.out).bel hb3
  have hbw3 := (HB2.out.2).tr hb3
  clear c0 c1 c2 r0 r1 f0 f1 HB2 HK
  clear lt1 lt2 g0 g1
  have c0 : w3.cell? ⟨w.heap.size + 1, 0, none⟩ = some (.string a) := by rw [kB3.cell]; rfl
  have c1 : w3.cell? ⟨w.heap.size + 1, 1, none⟩ = some (.string b) := by rw [kB3.cell]; rfl
  have c2 : w3.cell? ⟨w.heap.size + 1, 2, none⟩ = some (.string n) := by rw [kB3.cell]; rfl
  have r0 : w3.cell? ⟨w.heap.size, 0, none⟩ = some (.int .i64 0) := by rw [kR3.cell]; rfl
  have r1 : w3.cell? ⟨w.heap.size, 1, none⟩ = some (.int .i64 0) := by rw [kR3.cell]; rfl
  have f0 := kR3.fr 0
  have f1 := kR3.fr 1
  have lt1 := kR3.lt
  have lt2 := kB3.lt
  have g0 : ∀ o, (w3.alloc o).frozen? ⟨w.heap.size, 0, none⟩ = false := fun o => (kR3.al o).fr 0
  have g1 : ∀ o, (w3.alloc o).frozen? ⟨w.heap.size, 1, none⟩ = false := fun o => (kR3.al o).fr 1
  have HK := Lib.hid kR3
  have HB2 := Lib.hid (And.intro kB3 hbw3)
  go_wp2_with fail
  go_at_call 27
  refine (HA.out _).mono ?_
  rintro e w4 ⟨rfl, hb4⟩
  have kB4 := (HB2.out.1.al _).bel hb4
  have kR4 := (HK.out.al _).bel hb4
  have hbw4 := (HB2.out.2.al _).tr hb4
  clear c0 c1 c2 r0 r1 f0 f1 HB2 HK
  clear lt1 lt2 g0 g1
  have c0 : w4.cell? ⟨w.heap.size + 1, 0, none⟩ = some (.string a) := by rw [kB4.cell]; rfl
  have c1 : w4.cell? ⟨w.heap.size + 1, 1, none⟩ = some (.string b) := by rw [kB4.cell]; rfl
  have c2 : w4.cell? ⟨w.heap.size + 1, 2, none⟩ = some (.string n) := by rw [kB4.cell]; rfl
  have r0 : w4.cell? ⟨w.heap.size, 0, none⟩ = some (.int .i64 0) := by rw [kR4.cell]; rfl
  have r1 : w4.cell? ⟨w.heap.size, 1, none⟩ = some (.int .i64 0) := by rw [kR4.cell]; rfl
  have f0 := kR4.fr 0
  have f1 := kR4.fr 1
  have lt1 := kR4.lt
  have lt2 := kB4.lt
  have g0 : ∀ o, (w4.alloc o).frozen? ⟨w.heap.size, 0, none⟩ = false := fun o => (kR4.al o).fr 0
  have g1 : ∀ o, (w4.alloc o).frozen? ⟨w.heap.size, 1, none⟩ = false := fun o => (kR4.al o).fr 1
  have HK := Lib.hid kR4
  have HB2 := Lib.hid (And.intro kB4 hbw4)
  go_wp2
  exact bodyPost_ret (v := .tuple #[.agg #[.int .i64 0, .int .i64 0], .int .i64 1]) (results_ctR Tryd.results19 _ _ w.heap.size (.int .i64 0) (.int .i64 0) rfl ((HK.out.st 0 _).st 1 _)) rfl (lineR_of HR.out rfl (by repeat (first | exact Bel.rf | exact hb | (with_reducible refine Bel.drwN ?_ _) | (with_reducible refine Bel.drw ?_) | (with_reducible refine Bel.al ?_ _) | ((with_reducible refine Bel.st2 ?_ ?_ _); (show _ ≤ _); (simp only []; omega)) | refine Bel.tr ?_ (by assumption))))
set_option maxHeartbeats 4000000 in
set_option maxRecDepth 100000 in
theorem line_unit (s a b n : ByteArray) (hs : s.size ≤ 20000) (US : List Ut) (hW : wds s = [a, b, n]) (ha : a.size ≤ 20000) (hn : n.data.toList ≠ []) (hT : isT a.data.toList = true) (hbs : (⟨(Lib.trimPrefix b.data.toList [45]).toArray⟩ : ByteArray).size ≤ 4611686018427387904) (X P er tv : Int) (hp : prs (rn (Lib.trimPrefix b.data.toList [45])) (Lib.hasPrefix b.data.toList [45]) = .tuple #[.agg #[.int .i64 X, .int .i64 P], .int .i64 er]) (HA : Hid (∀ w, Calls Tryd.prog 27 #[.string a] w fun e w' => e = .returned (.tuple #[.int .i64 tv, .nilIface]) ∧ Bel w w')) (her : er = 0) (ht : ¬ 1099511627776 < tv) (hl : look US n.data.toList = none) (r : Nat) (w : World) (hM : Mp w r US) (hr : lineS US s.data.toList = ((0, 0), 7)) :
    Calls Tryd.prog 19 #[.string s, .map (some r)] w (LineR US s w) := by
  have HS : Hid (∀ w, Calls Tryd.prog 24 #[.string s, .string ⟨#[32]⟩] w fun e w' => e = .returned (.slice (some ⟨w.heap.size, 0, none⟩) 3 3) ∧ w' = w.alloc (.cells #[.string a, .string b, .string n] 9)) := fun w => by
    have := split_any s (by omega) w
    unfold Spl at this
    rw [hW] at this
    exact this
  have HM := Lib.hid hM
  clear hM
  have HR := Lib.hid hr
  clear hr hW
  have e0 : n.toList.isEmpty = false := by rw [Lib.toList_data]; cases hq : n.data.toList with | nil => exact absurd hq hn | cons c l => rfl
  have e1 : (n.toList == []) = false := by rw [Lib.toList_data]; cases hq : n.data.toList with | nil => exact absurd hq hn | cons c l => rfl
  have HI : Hid (∀ w, Calls Tryd.prog 25 #[.string a] w fun e w' => e = .returned (.bool true) ∧ Bel w w') := fun w => by have := isTime_any a ha w; rw [hT] at this; exact this
  have HP : Hid (∀ w, Calls Tryd.prog 26 #[.string b] w fun e w' => e = .returned (.tuple #[.agg #[.int .i64 X, .int .i64 P], .int .i64 er]) ∧ Bel w w') := fun w => by rw [← hp]; exact parse_any b ⟨(Lib.trimPrefix b.data.toList [45]).toArray⟩ (Lib.hasPrefix b.data.toList [45]) hbs rfl rfl w
  subst her
  clear hp
  go_enter Tryd.func19, Tryd.ntmps19
  go_wp2_with fail
  go_at_call 24
  refine (HS.out _).mono ?_
  rintro e w1 ⟨rfl, rfl⟩
  go_wp2_with fail
  go_at_call 25
  refine (HI.out _).mono ?_
  rintro e w2 ⟨rfl, hb⟩
  have kB : Bk w2 (w.heap.size + 1) 9 #[.string a, .string b, .string n] := Bk.bel (Bk.nq (w.alloc (.cells #[.int .i64 0, .int .i64 0] 40)) _ _ (by simp)) hb
  have kR : Bk w2 w.heap.size 40 #[.int .i64 0, .int .i64 0] := Bk.bel ((Bk.nw w 40 #[.int .i64 0, .int .i64 0]).al _) hb
  have hb2 : Bel w w2 := ((Bel.rf.al _).al _).tr hb
  have c0 : w2.cell? ⟨w.heap.size + 1, 0, none⟩ = some (.string a) := by rw [kB.cell]; rfl
  have c1 : w2.cell? ⟨w.heap.size + 1, 1, none⟩ = some (.string b) := by rw [kB.cell]; rfl
  have c2 : w2.cell? ⟨w.heap.size + 1, 2, none⟩ = some (.string n) := by rw [kB.cell]; rfl
  have r0 : w2.cell? ⟨w.heap.size, 0, none⟩ = some (.int .i64 0) := by rw [kR.cell]; rfl
  have r1 : w2.cell? ⟨w.heap.size, 1, none⟩ = some (.int .i64 0) := by rw [kR.cell]; rfl
  have f0 := kR.fr 0
  have f1 := kR.fr 1
  have lt1 := kR.lt
  have lt2 := kB.lt
  have g0 : ∀ o, (w2.alloc o).frozen? ⟨w.heap.size, 0, none⟩ = false := fun o => (kR.al o).fr 0
  have g1 : ∀ o, (w2.alloc o).frozen? ⟨w.heap.size, 1, none⟩ = false := fun o => (kR.al o).fr 1
  have HK := Lib.hid kR
  have HB2 := Lib.hid (And.intro kB hb2)
  go_wp2_with fail
  go_at_call 26
  refine (HP.out _).mono ?_
  rintro e w3 ⟨rfl, hb3⟩
  have kB3 := (HB2.out.1).bel hb3
  have kR3 := (HK.out).bel hb3
  have hbw3 := (HB2.out.2).tr hb3
  clear c0 c1 c2 r0 r1 f0 f1 HB2 HK
  clear lt1 lt2 g0 g1
  have c0 : w3.cell? ⟨w.heap.size + 1, 0, none⟩ = some (.string a) := by rw [kB3.cell]; rfl
  have c1 : w3.cell? ⟨w.heap.size + 1, 1, none⟩ = some (.string b) := by rw [kB3.cell]; rfl
  have c2 : w3.cell? ⟨w.heap.size + 1, 2, none⟩ = some (.string n) := by rw [kB3.cell]; rfl
  have r0 : w3.cell? ⟨w.heap.size, 0, none⟩ = some (.int .i64 0) := by rw [kR3.cell]; rfl
  have r1 : w3.cell? ⟨w.heap.size, 1, none⟩ = some (.int .i64 0) := by rw [kR3.cell]; rfl
  have f0 := kR3.fr 0
  have f1 := kR3.fr 1
  have lt1 := kR3.lt
  have lt2 := kB3.lt
  have g0 : ∀ o, (w3.alloc o).frozen? ⟨w.heap.size, 0, none⟩ = false := fun o => (kR3.al o).fr 0
  have g1 : ∀ o, (w3.alloc o).frozen? ⟨w.heap.size, 1, none⟩ = false := fun o => (kR3.al o).fr 1
  have HK := Lib.hid kR3
  have HB2 := Lib.hid (And.intro kB3 hbw3)
  go_wp2_with fail
  go_at_call 27
  refine (HA.out _).mono ?_
  rintro e w4 ⟨rfl, hb4⟩
  have kB4 := (HB2.out.1.al _).bel hb4
  have kR4 := (HK.out.al _).bel hb4
  have hbw4 := (HB2.out.2.al _).tr hb4
  clear c0 c1 c2 r0 r1 f0 f1 HB2 HK
  clear lt1 lt2 g0 g1
  have c0 : w4.cell? ⟨w.heap.size + 1, 0, none⟩ = some (.string a) := by rw [kB4.cell]; rfl
  have c1 : w4.cell? ⟨w.heap.size + 1, 1, none⟩ = some (.string b) := by rw [kB4.cell]; rfl
  have c2 : w4.cell? ⟨w.heap.size + 1, 2, none⟩ = some (.string n) := by rw [kB4.cell]; rfl
  have r0 : w4.cell? ⟨w.heap.size, 0, none⟩ = some (.int .i64 0) := by rw [kR4.cell]; rfl
  have r1 : w4.cell? ⟨w.heap.size, 1, none⟩ = some (.int .i64 0) := by rw [kR4.cell]; rfl
  have f0 := kR4.fr 0
  have f1 := kR4.fr 1
  have lt1 := kR4.lt
  have lt2 := kB4.lt
  have g0 : ∀ o, (w4.alloc o).frozen? ⟨w.heap.size, 0, none⟩ = false := fun o => (kR4.al o).fr 0
  have g1 : ∀ o, (w4.alloc o).frozen? ⟨w.heap.size, 1, none⟩ = false := fun o => (kR4.al o).fr 1
  have HK := Lib.hid kR4
  have HB2 := Lib.hid (And.intro kB4 hbw4)
  have hlk : (Instr.lookup 50 (.map (some r)) (.string n) true).run Tryd.prog w4 = .ok (.tuple #[.agg #[.string ⟨#[]⟩, .int .i64 0, .int .i64 0, .int .i64 0], .bool false]) w4 := look_miss (HM.out.bel hbw4) n hl
  go_wp2
  exact bodyPost_ret (v := .tuple #[.agg #[.int .i64 0, .int .i64 0], .int .i64 7]) (results_ctR Tryd.results19 _ _ w.heap.size (.int .i64 0) (.int .i64 0) rfl (((HK.out.st 0 _).st 1 _).al _)) rfl (lineR_of HR.out rfl (by repeat (first | exact Bel.rf | exact hb | (with_reducible refine Bel.drwN ?_ _) | (with_reducible refine Bel.drw ?_) | (with_reducible refine Bel.al ?_ _) | ((with_reducible refine Bel.st2 ?_ ?_ _); (show _ ≤ _); (simp only []; omega)) | refine Bel.tr ?_ (by assumption))))
set_option maxHeartbeats 4000000 in
set_option maxRecDepth 100000 in
theorem line_conv (s a b n : ByteArray) (hs : s.size ≤ 20000) (US : List Ut) (hW : wds s = [a, b, n]) (ha : a.size ≤ 20000) (hn : n.data.toList ≠ []) (hT : isT a.data.toList = true) (hbs : (⟨(Lib.trimPrefix b.data.toList [45]).toArray⟩ : ByteArray).size ≤ 4611686018427387904) (X P er tv : Int) (hp : prs (rn (Lib.trimPrefix b.data.toList [45])) (Lib.hasPrefix b.data.toList [45]) = .tuple #[.agg #[.int .i64 X, .int .i64 P], .int .i64 er]) (HA : Hid (∀ w, Calls Tryd.prog 27 #[.string a] w fun e w' => e = .returned (.tuple #[.int .i64 tv, .nilIface]) ∧ Bel w w')) (nm : List UInt8) (mul add div cvv ce : Int) (hC : ∀ w, Pows w → Calls Tryd.prog 28 #[.agg #[.int .i64 X, .int .i64 P], .agg #[.string ⟨nm.toArray⟩, .int .i64 mul, .int .i64 add, .int .i64 div]] w fun e w' => e = .returned (.tuple #[.int .i64 cvv, .int .i64 ce]) ∧ Bel w w') (her : er = 0) (ht : ¬ 1099511627776 < tv) (hl : look US n.data.toList = some ⟨nm, mul, add, div⟩) (r : Nat) (w : World) (hM : Mp w r US) (hPW : Pows w) (hr : lineS US s.data.toList = ((tv, cvv), ce)) :
    Calls Tryd.prog 19 #[.string s, .map (some r)] w (LineR US s w) := by
  have HS : Hid (∀ w, Calls Tryd.prog 24 #[.string s, .string ⟨#[32]⟩] w fun e w' => e = .returned (.slice (some ⟨w.heap.size, 0, none⟩) 3 3) ∧ w' = w.alloc (.cells #[.string a, .string b, .string n] 9)) := fun w => by
    have := split_any s (by omega) w
    unfold Spl at this
    rw [hW] at this
    exact this
  have HM := Lib.hid hM
  have HPW := Lib.hid hPW
  clear hM hPW
  have HR := Lib.hid hr
  clear hr hW
  have e0 : n.toList.isEmpty = false := by rw [Lib.toList_data]; cases hq : n.data.toList with | nil => exact absurd hq hn | cons c l => rfl
  have e1 : (n.toList == []) = false := by rw [Lib.toList_data]; cases hq : n.data.toList with | nil => exact absurd hq hn | cons c l => rfl
  have HI : Hid (∀ w, Calls Tryd.prog 25 #[.string a] w fun e w' => e = .returned (.bool true) ∧ Bel w w') := fun w => by have := isTime_any a ha w; rw [hT] at this; exact this
  have HP : Hid (∀ w, Calls Tryd.prog 26 #[.string b] w fun e w' => e = .returned (.tuple #[.agg #[.int .i64 X, .int .i64 P], .int .i64 er]) ∧ Bel w w') := fun w => by rw [← hp]; exact parse_any b ⟨(Lib.trimPrefix b.data.toList [45]).toArray⟩ (Lib.hasPrefix b.data.toList [45]) hbs rfl rfl w
  subst her
  have HC := Lib.hid hC
  clear hp hC
  go_enter Tryd.func19, Tryd.ntmps19
  go_wp2_with fail
  go_at_call 24
  refine (HS.out _).mono ?_
  rintro e w1 ⟨rfl, rfl⟩
  go_wp2_with fail
  go_at_call 25
  refine (HI.out _).mono ?_
  rintro e w2 ⟨rfl, hb⟩
  have kB : Bk w2 (w.heap.size + 1) 9 #[.string a, .string b, .string n] := Bk.bel (Bk.nq (w.alloc (.cells #[.int .i64 0, .int .i64 0] 40)) _ _ (by simp)) hb
  have kR : Bk w2 w.heap.size 40 #[.int .i64 0, .int .i64 0] := Bk.bel ((Bk.nw w 40 #[.int .i64 0, .int .i64 0]).al _) hb
  have hb2 : Bel w w2 := ((Bel.rf.al _).al _).tr hb
  have c0 : w2.cell? ⟨w.heap.size + 1, 0, none⟩ = some (.string a) := by rw [kB.cell]; rfl
  have c1 : w2.cell? ⟨w.heap.size + 1, 1, none⟩ = some (.string b) := by rw [kB.cell]; rfl
  have c2 : w2.cell? ⟨w.heap.size + 1, 2, none⟩ = some (.string n) := by rw [kB.cell]; rfl
  have r0 : w2.cell? ⟨w.heap.size, 0, none⟩ = some (.int .i64 0) := by rw [kR.cell]; rfl
  have r1 : w2.cell? ⟨w.heap.size, 1, none⟩ = some (.int .i64 0) := by rw [kR.cell]; rfl
  have f0 := kR.fr 0
  have f1 := kR.fr 1
  have lt1 := kR.lt
  have lt2 := kB.lt
  have g0 : ∀ o, (w2.alloc o).frozen? ⟨w.heap.size, 0, none⟩ = false := fun o => (kR.al o).fr 0
  have g1 : ∀ o, (w2.alloc o).frozen? ⟨w.heap.size, 1, none⟩ = false := fun o => (kR.al o).fr 1
  have HK := Lib.hid kR
  have HB2 := Lib.hid (And.intro kB hb2)
  go_wp2_with fail
  go_at_call 26
  refine (HP.out _).mono ?_
  rintro e w3 ⟨rfl, hb3⟩
  have kB3 := (HB2.out.1).bel hb3
  have kR3 := (HK.out).bel hb3
  have hbw3 := (HB2.out.2).tr hb3
  clear c0 c1 c2 r0 r1 f0 f1 HB2 HK
  clear lt1 lt2 g0 g1
  have c0 : w3.cell? ⟨w.heap.size + 1, 0, none⟩ = some (.string a) := by rw [kB3.cell]; rfl
  have c1 : w3.cell? ⟨w.heap.size + 1, 1, none⟩ = some (.string b) := by rw [kB3.cell]; rfl
  have c2 : w3.cell? ⟨w.heap.size + 1, 2, none⟩ = some (.string n) := by rw [kB3.cell]; rfl
  have r0 : w3.cell? ⟨w.heap.size, 0, none⟩ = some (.int .i64 0) := by rw [kR3.cell]; rfl
  have r1 : w3.cell? ⟨w.heap.size, 1, none⟩ = some (.int .i64 0) := by rw [kR3.cell]; rfl
  have f0 := kR3.fr 0
  have f1 := kR3.fr 1
  have lt1 := kR3.lt
  have lt2 := kB3.lt
  have g0 : ∀ o, (w3.alloc o).frozen? ⟨w.heap.size, 0, none⟩ = false := fun o => (kR3.al o).fr 0
  have g1 : ∀ o, (w3.alloc o).frozen? ⟨w.heap.size, 1, none⟩ = false := fun o => (kR3.al o).fr 1
  have HK := Lib.hid kR3
  have HB2 := Lib.hid (And.intro kB3 hbw3)
  go_wp2_with fail
  go_at_call 27
  refine (HA.out _).mono ?_
  rintro e w4 ⟨rfl, hb4⟩
  have kB4 := (HB2.out.1.al _).bel hb4
  have kR4 := (HK.out.al _).bel hb4
  have hbw4 := (HB2.out.2.al _).tr hb4
  clear c0 c1 c2 r0 r1 f0 f1 HB2 HK
  clear lt1 lt2 g0 g1
  have c0 : w4.cell? ⟨w.heap.size + 1, 0, none⟩ = some (.string a) := by rw [kB4.cell]; rfl
  have c1 : w4.cell? ⟨w.heap.size + 1, 1, none⟩ = some (.string b) := by rw [kB4.cell]; rfl
  have c2 : w4.cell? ⟨w.heap.size + 1, 2, none⟩ = some (.string n) := by rw [kB4.cell]; rfl
  have r0 : w4.cell? ⟨w.heap.size, 0, none⟩ = some (.int .i64 0) := by rw [kR4.cell]; rfl
  have r1 : w4.cell? ⟨w.heap.size, 1, none⟩ = some (.int .i64 0) := by rw [kR4.cell]; rfl
  have f0 := kR4.fr 0
  have f1 := kR4.fr 1
  have lt1 := kR4.lt
  have lt2 := kB4.lt
  have g0 : ∀ o, (w4.alloc o).frozen? ⟨w.heap.size, 0, none⟩ = false := fun o => (kR4.al o).fr 0
  have g1 : ∀ o, (w4.alloc o).frozen? ⟨w.heap.size, 1, none⟩ = false := fun o => (kR4.al o).fr 1
  have HK := Lib.hid kR4
  have HB2 := Lib.hid (And.intro kB4 hbw4)
  have hlk : (Instr.lookup 50 (.map (some r)) (.string n) true).run Tryd.prog w4 = .ok (.tuple #[.agg #[.string ⟨nm.toArray⟩, .int .i64 mul, .int .i64 add, .int .i64 div], .bool true]) w4 := look_hit (HM.out.bel hbw4) n _ hl
  have kD : Bk w4 w3.heap.size 27 #[.int .i64 X, .int .i64 P] := (Bk.nw w3 _ _).bel hb4
  have d0 : w4.cell? ⟨w3.heap.size, 0, none⟩ = some (.int .i64 X) := by rw [kD.cell]; rfl
  have d1 : w4.cell? ⟨w3.heap.size, 1, none⟩ = some (.int .i64 P) := by rw [kD.cell]; rfl
  have d2 : ∀ o, (w4.alloc o).cell? ⟨w3.heap.size, 0, none⟩ = some (.int .i64 X) := fun o => kp_al d0 o
  have d3 : ∀ o, (w4.alloc o).cell? ⟨w3.heap.size, 1, none⟩ = some (.int .i64 P) := fun o => kp_al d1 o
  have d4 := kD.lt
  go_wp2_with fail
  go_at_call 28
  refine (HC.out _ (HPW.out.bel (hbw4.al _))).mono ?_
  rintro e w5 ⟨rfl, hb5⟩
  have kB5 := (HB2.out.1.al _).bel hb5
  have kR5 := (HK.out.al _).bel hb5
  have hbw5 := (HB2.out.2.al _).tr hb5
  clear c0 c1 c2 r0 r1 f0 f1 HB2 HK
  clear lt1 lt2 g0 g1
  have c0 : w5.cell? ⟨w.heap.size + 1, 0, none⟩ = some (.string a) := by rw [kB5.cell]; rfl
  have c1 : w5.cell? ⟨w.heap.size + 1, 1, none⟩ = some (.string b) := by rw [kB5.cell]; rfl
  have c2 : w5.cell? ⟨w.heap.size + 1, 2, none⟩ = some (.string n) := by rw [kB5.cell]; rfl
  have r0 : w5.cell? ⟨w.heap.size, 0, none⟩ = some (.int .i64 0) := by rw [kR5.cell]; rfl
  have r1 : w5.cell? ⟨w.heap.size, 1, none⟩ = some (.int .i64 0) := by rw [kR5.cell]; rfl
  have f0 := kR5.fr 0
  have f1 := kR5.fr 1
  have lt1 := kR5.lt
  have lt2 := kB5.lt
  have g0 : ∀ o, (w5.alloc o).frozen? ⟨w.heap.size, 0, none⟩ = false := fun o => (kR5.al o).fr 0
  have g1 : ∀ o, (w5.alloc o).frozen? ⟨w.heap.size, 1, none⟩ = false := fun o => (kR5.al o).fr 1
  have HK := Lib.hid kR5
  have HB2 := Lib.hid (And.intro kB5 hbw5)
  go_wp2
  exact bodyPost_ret (v := .tuple #[.agg #[.int .i64 tv, .int .i64 cvv], .int .i64 ce]) (results_ctR Tryd.results19 _ _ w.heap.size (.int .i64 tv) (.int .i64 cvv) rfl ((HK.out.st 0 _).st 1 _)) rfl (lineR_of HR.out rfl (by repeat (first | exact Bel.rf | exact hb | (with_reducible refine Bel.drwN ?_ _) | (with_reducible refine Bel.drw ?_) | (with_reducible refine Bel.al ?_ _) | ((with_reducible refine Bel.st2 ?_ ?_ _); (show _ ≤ _); (simp only []; omega)) | refine Bel.tr ?_ (by assumption))))
end Go.Proofs.YtagodfielmdfhaaDoor.Rt
