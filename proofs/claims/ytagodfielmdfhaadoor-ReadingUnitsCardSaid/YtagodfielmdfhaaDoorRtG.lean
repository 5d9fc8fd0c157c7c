/- The law's units; awake; Parse by these units. -/
import Derived.Test.YtagodfielmdfhaaDoorRtY
import Derived.Test.YtagodfielmdfhaaDoorSm
namespace Go.Proofs.YtagodfielmdfhaaDoor.Rt
open Go.ChangeShapes Go.WideShapes Go.RowKit Wo Un Rg Go.MapKept Sr
open Rm (Rp tm vl)
set_option linter.unusedVariables false
def US2 : List Ut := [⟨[99], 10, 0, 1⟩, raw]
theorem us2_good : ∀ u ∈ US2, GoodU u := by
  intro u hu
  simp only [US2, List.mem_cons, List.not_mem_nil, or_false] at hu
  rcases hu with rfl | rfl
  · exact ⟨low_lit (by decide) (by decide) (by decide), by decide, by decide, by decide, by decide, by decide, by decide⟩
  · exact ⟨low_lit (by decide) (by decide) (by decide), by decide, by decide, by decide, by decide, by decide, by decide⟩
theorem us2_raw : look US2 [114, 97, 119] = some raw := rfl
def Par (l : List Rp) (k : Nat) (er : Int) (w : World) (e : Ending) (w' : World) : Prop := ∃ v, e = .returned (.tuple #[v, .int .i64 (k : Int), .int .i64 er]) ∧ w'.ownsRow w.heap.size 40 2 v l.length (rs l) ∧ Bel w w'
theorem parse_is (s : ByteArray) (hs : s.size ≤ 16384) {l : List Rp} {k : Nat} {er : Int} (hr : run US2 (lns s.data.toList) 1 [] = (l, k, er)) (h : Nat) (w : World) (hZ : Zu w h US2) (hP : Pows w) :
    Calls Tryd.prog 7 #[.string s, .slice (some ⟨h, 0, none⟩) 2 2] w (Par l k er w) := by
  refine (parse_go s hs US2 us2_good (by decide) 2 2 h rfl (by decide) w hZ hP).mono ?_
  rintro e w' ⟨l', k', er', v, h1, h2, h3, h4⟩
  rw [hr] at h1
  cases h1
  exact ⟨v, h2, h3, h4⟩
def SomeU (w : World) (e : Ending) (w' : World) : Prop := ∃ h : Nat, e = .returned (.slice (some ⟨h, 0, none⟩) 2 2) ∧ Zu w' h US2 ∧ Bel w w'
theorem units_ok (w : World) : Calls Tryd.prog 20 #[] w (SomeU w) := by
  go_enter Tryd.func20, Tryd.ntmps20
  go_wp2
  go_ret
  refine ⟨w.heap.size, rfl, ⟨by simp, fun j u hu => ?_⟩, Bel.rf.al _⟩
  have hb := Bk.nw w 25 #[.string ⟨#[99]⟩, .int .i64 10, .int .i64 0, .int .i64 1, .string ⟨#[114, 97, 119]⟩, .int .i64 1, .int .i64 0, .int .i64 1]
  rcases j with _ | _ | j
  · cases hu
    exact ⟨by rw [hb.cell]; rfl, by rw [hb.cell]; rfl, by rw [hb.cell]; rfl, by rw [hb.cell]; rfl⟩
  · cases hu
    exact ⟨by rw [hb.cell]; rfl, by rw [hb.cell]; rfl, by rw [hb.cell]; rfl, by rw [hb.cell]; rfl⟩
  · cases hu
def tx1 : List UInt8 := [35, 32, 120, 10, 53, 32, 51, 54, 46, 54, 32, 99, 10, 55, 32, 45, 51, 32, 114, 97, 119]
def tx2 : List UInt8 := [53, 32, 49, 32, 107, 10]
theorem tx1_run : run US2 (lns tx1) 1 [] = ([(5, 366), (7, -3)], 0, 0) := by
  have e : lns tx1 = [[35, 32, 120], [53, 32, 51, 54, 46, 54, 32, 99], [55, 32, 45, 51, 32, 114, 97, 119]] := by
    rw [show tx1 = [35, 32, 120] ++ 10 :: ([53, 32, 51, 54, 46, 54, 32, 99] ++ 10 :: [55, 32, 45, 51, 32, 114, 97, 119]) from rfl, lns_line _ _ (by decide), lns_line _ _ (by decide), lns_last _ (by decide) (by decide)]
  rw [e]
  decide
theorem tx2_run : run US2 (lns tx2) 1 [] = ([], 1, 7) := by
  have e : lns tx2 = [[53, 32, 49, 32, 107]] := by
    rw [show tx2 = [53, 32, 49, 32, 107] ++ 10 :: [] from rfl, lns_line _ _ (by decide), lns_nil]
  rw [e]
  decide
theorem same_true (A A' : Option Addr) (c c' n : Nat) (l : List Rp) (hn : n ≤ 2000) (w : World) (h1 : Zr w A n l) (h2 : Zr w A' n l) :
    Calls Tryd.prog 9 #[.slice A n c, .slice A' n c'] w fun e w' => e = .returned (.bool true) ∧ Bel w w' := by
  have := Pk.same_ok A A' c c' n n l l hn hn w h1 h2
  rwa [decide_eq_true rfl] at this
set_option maxHeartbeats 4000000 in
set_option maxRecDepth 100000 in
theorem awake_any (w : World) (hP : Pows w) : Calls Tryd.prog 8 #[] w fun e w' => e = .returned (.bool true) ∧ Bel w w' := by
  have HP := Lib.hid hP
  clear hP
  go_enter Tryd.func8, Tryd.ntmps8
  go_wp2_with fail
  go_at_call 20
  refine (units_ok _).mono ?_
  rintro e w1 ⟨h, rfl, hZ, hb1⟩
  have HB1 := Lib.hid hb1
  have HP1 := Lib.hid (parse_is ⟨#[35, 32, 120, 10, 53, 32, 51, 54, 46, 54, 32, 99, 10, 55, 32, 45, 51, 32, 114, 97, 119]⟩ (by decide) tx1_run h w1 hZ (HP.out.bel hb1))
  clear hZ hb1
  go_wp2_with fail
  go_at_call 7
  refine HP1.out.mono ?_
  rintro e w2 ⟨v, rfl, hown, hb2⟩
  obtain ⟨A, cc, rfl, hZr⟩ := own_zr hown rfl
  have HB2 : Hid (Bel w w2) := HB1.out.tr hb2
  have HZ := Lib.hid hZr
  clear hown hb2 hZr
  go_wp2_with fail
  go_at_call 20
  refine (units_ok _).mono ?_
  rintro e w3 ⟨h3, rfl, hZ3, hb3⟩
  have HB3 : Hid (Bel w2 w3) := hb3
  have HP3 := Lib.hid (parse_is ⟨#[53, 32, 49, 32, 107, 10]⟩ (by decide) tx2_run h3 w3 hZ3 (HP.out.bel (HB2.out.tr hb3)))
  clear hZ3 hb3
  go_wp2_with fail
  go_at_call 7
  refine HP3.out.mono ?_
  rintro e w4 ⟨v4, rfl, hown4, hb4⟩
  have HB4 : Hid (Bel w2 w4) := HB3.out.tr hb4
  have HZ4 := Lib.hid (HZ.out.bel HB4.out)
  clear hown4 hb4
  go_wp2_with fail
  go_at_call 9
  refine (same_true A _ cc 2 2 [(5, 366), (7, -3)] (by decide) _ (HZ4.out.bel (Bel.rf.al _)) (zr_bk (Bk.nw _ _ _) 2 rfl)).mono ?_
  rintro e w5 ⟨rfl, hb5⟩
  go_wp2
  go_ret
  exact ⟨rfl, (HB2.out.tr (HB4.out.al _)).tr hb5⟩
end Go.Proofs.YtagodfielmdfhaaDoor.Rt
