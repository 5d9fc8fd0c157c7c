/- The contract of shapesearchlaw04.awake: it returns true. -/
import Derived.Test.YtgclojonjglikaaDoorShelf
import Derived.Test.YtgclojonjglikaaDoorUnitParse
import Derived.Test.YtgclojonjglikaaDoorUnitConv
import Derived.MakeChecks
import Derived.Lib.LaidTab
namespace Go.Proofs.YtgclojonjglikaaDoor.Un
open Go.ChangeShapes Go.WideShapes Go.RowKit Wo
set_option linter.unusedVariables false
/-- the table of the powers of ten, as it is laid -/
def Pows (w : World) : Prop := ∀ i : Nat, i ≤ 6 → w.cell? ⟨0, i, none⟩ = some (.int .i64 (10 ^ i))
theorem pows_of {W : World} (h : laidMetH Tryd.prog [("shapesearch/unit.powers", Rows.laid_shapesearch_unit_powers)] W) : Pows W := by
  rw [MakeChecks.laidMetH_plain _ _ _ (by kernel_rfl)] at h
  have t : Lib.TabIs Tryd.prog W "shapesearch/unit.powers" .i64 [1, 10, 100, 1000, 10000, 100000, 1000000] :=
    Lib.tabIs_of_head (g := 0) (t := 56) (e := 3) (n := 7) (by kernel_rfl) (by kernel_rfl) Tryd.underlying56 Tryd.underlying3 (by kernel_rfl) (by kernel_rfl) h
  intro i hi
  have := t.cell (g := 0) (by kernel_rfl) i (by simp; omega)
  rw [this]
  match i, hi with
  | 0, _ => rfl
  | 1, _ => rfl
  | 2, _ => rfl
  | 3, _ => rfl
  | 4, _ => rfl
  | 5, _ => rfl
  | 6, _ => rfl
theorem Pows.bel {w w' : World} (h : Pows w) (hb : Bel w w') : Pows w' := fun i hi => hb.kp (h i hi)
theorem parse_any (s : ByteArray) (body : ByteArray) (m : Bool) (hs : body.size ≤ 4611686018427387904) (h1 : (⟨(Lib.trimPrefix s.data.toList [45]).toArray⟩ : ByteArray) = body) (h2 : Lib.hasPrefix s.data.toList [45] = m) (w : World) :
    Calls Tryd.prog 7 #[.string s] w fun e w' => e = .returned (prs (rn body.data.toList) m) ∧ Bel w w' :=
  parse_core s body m hs w fun w => (Tryd.strings_CutPrefix s ⟨#[45]⟩ w).mono fun e w' ⟨he, hw⟩ => ⟨by rw [he, ← h1, ← h2], hw.symm⟩
theorem parse_ex (w : World) : Calls Tryd.prog 7 #[.string ⟨#[45, 49, 50, 46, 53, 48]⟩] w fun e w' => e = .returned (.tuple #[.agg #[.int .i64 (-1250), .int .i64 2], .int .i64 0]) ∧ Bel w w' :=
  (parse_any ⟨#[45, 49, 50, 46, 53, 48]⟩ ⟨#[49, 50, 46, 53, 48]⟩ true (by decide) (by rfl) (by rfl) w).mono fun e w' ⟨he, hw⟩ => ⟨by rw [he]; rfl, hw⟩
theorem raw_any (w : World) : Calls Tryd.prog 14 #[] w fun e w' => e = .returned (.agg #[.string ⟨#[114, 97, 119]⟩, .int .i64 1, .int .i64 0, .int .i64 1]) ∧ Bel w w' := by
  go_enter Tryd.func14, Tryd.ntmps14
  go_wp2
  exact bodyPost_ret (v := .agg #[.string ⟨#[114, 97, 119]⟩, .int .i64 1, .int .i64 0, .int .i64 1]) (by simp [results, Tryd.results14, go_sem]) rfl ⟨rfl, (by repeat (first | exact Bel.rf | (with_reducible refine Bel.drwN ?_ _) | (with_reducible refine Bel.drw ?_) | (with_reducible refine Bel.al ?_ _) | ((with_reducible refine Bel.st2 ?_ ?_ _); (show _ ≤ _); (simp only []; omega)) | refine Bel.tr ?_ (by assumption)))⟩
theorem low_lit {a : Array UInt8} (h1 : 1 ≤ a.size) (h2 : a.size ≤ 12) (h3 : ∀ c ∈ a.toList, 97 ≤ c.toNat ∧ c.toNat ≤ 122) : Low ⟨a⟩ :=
  ⟨h1, h2, fun i h => h3 _ (by show a[i] ∈ a.toList; simp)⟩
theorem low_raw : Low ⟨#[114, 97, 119]⟩ := low_lit (by decide) (by decide) (by decide)
theorem low_f : Low ⟨#[102]⟩ := low_lit (by decide) (by decide) (by decide)
/-- Convert, with the table -/
theorem conv_as (x : Int) (p : Nat) (s : ByteArray) (m a d : Int) (R : Value) (x1 : -1000000000 ≤ x) (x2 : x ≤ 1000000000) (hp : p ≤ 6) (hs : Low s) (m1 : 1 ≤ m) (m2 : m ≤ 1000000) (a1 : -1000000000 ≤ a) (a2 : a ≤ 1000000000) (d1 : 1 ≤ d) (d2 : d ≤ 1000000)
    (hR : cvt (x * m + a * 10 ^ p) (d * 10 ^ p) = R) (w : World) (hw : Pows w) :
    Calls Tryd.prog 10 #[.agg #[.int .i64 x, .int .i64 (p : Int)], .agg #[.string s, .int .i64 m, .int .i64 a, .int .i64 d]] w fun e w' => e = .returned R ∧ Bel w w' := by
  have h1 : (1 : Int) ≤ 10 ^ p ∧ (10 : Int) ^ p ≤ 1000000 := by
    match p, hp with
    | 0, _ => decide
    | 1, _ => decide
    | 2, _ => decide
    | 3, _ => decide
    | 4, _ => decide
    | 5, _ => decide
    | 6, _ => decide
  have := convert_any x p (10 ^ p) s m a d x1 x2 hp h1.1 h1.2 hs m1 m2 a1 a2 d1 d2 w (hw p hp)
  rwa [hR] at this
theorem conv_25 (w : World) (hw : Pows w) : Calls Tryd.prog 10 #[.agg #[.int .i64 (-25), .int .i64 1], .agg #[.string ⟨#[114, 97, 119]⟩, .int .i64 1, .int .i64 0, .int .i64 1]] w fun e w' => e = .returned (.tuple #[.int .i64 (-2), .int .i64 0]) ∧ Bel w w' :=
  conv_as (-25) 1 _ 1 0 1 _ (by decide) (by decide) (by decide) low_raw (by decide) (by decide) (by decide) (by decide) (by decide) (by decide) (by rfl) w hw
theorem conv_366 (w : World) (hw : Pows w) : Calls Tryd.prog 10 #[.agg #[.int .i64 366, .int .i64 1], .agg #[.string ⟨#[102]⟩, .int .i64 9, .int .i64 160, .int .i64 5]] w fun e w' => e = .returned (.tuple #[.int .i64 98, .int .i64 0]) ∧ Bel w w' :=
  conv_as 366 1 _ 9 160 5 _ (by decide) (by decide) (by decide) low_f (by decide) (by decide) (by decide) (by decide) (by decide) (by decide) (by rfl) w hw
set_option maxHeartbeats 2000000 in
set_option maxRecDepth 100000 in
theorem awake_any (w : World) (hw : Pows w) : Calls Tryd.prog 4 #[] w fun e w' => e = .returned (.bool true) ∧ Bel w w' := by
  have HP := Lib.hid hw
  clear hw
  go_enter Tryd.func4, Tryd.ntmps4
  go_wp2_with fail
  go_at_call 7
  refine (parse_ex _).mono ?_
  rintro e w1 ⟨rfl, h1⟩
  have HP1 := Lib.hid (HP.out.bel h1)
  go_wp2_with fail
  go_at_call 14
  refine (raw_any _).mono ?_
  rintro e w2 ⟨rfl, h2⟩
  have B1 : Bk w2 w1.heap.size 23 #[.int .i64 (-1250), .int .i64 2] := by first | exact (Bk.nw _ _ _).bel h2 | exact ((Bk.nw w1 _ _).st 0 _).bel h2
  have HP2 : Hid (Pows w2) := (HP1.out.bel (by repeat (first | exact Bel.rf | (with_reducible refine Bel.drwN ?_ _) | (with_reducible refine Bel.drw ?_) | (with_reducible refine Bel.al ?_ _) | ((with_reducible refine Bel.st2 ?_ ?_ _); (show _ ≤ _); (simp only []; omega)) | refine Bel.tr ?_ (by assumption))))
  have HB1 := Lib.hid B1
  have HX2 : Hid (Bel w w2) := (by repeat (first | exact Bel.rf | (with_reducible refine Bel.drwN ?_ _) | (with_reducible refine Bel.drw ?_) | (with_reducible refine Bel.al ?_ _) | ((with_reducible refine Bel.st2 ?_ ?_ _); (show _ ≤ _); (simp only []; omega)) | refine Bel.tr ?_ (by assumption)))
  clear h1 h2 B1
  go_wp2_with fail
  go_at_call 10
  refine (conv_25 _ HP2.out).mono ?_
  rintro e w3 ⟨rfl, h3⟩
  have HP3 : Hid (Pows w3) := HP2.out.bel h3
  have HB3 := Lib.hid (HB1.out.bel h3)
  have HX3 := Lib.hid (HX2.out.tr h3)
  clear h3
  go_wp2_with fail
  go_at_call 10
  refine (conv_366 _ HP3.out).mono ?_
  rintro e w4 ⟨rfl, h4⟩
  have B4 := HB3.out.bel h4
  have k0 : w4.cell? ⟨w1.heap.size, 0, none⟩ = some (.int .i64 (-1250)) := B4.cell 0
  have k1 : w4.cell? ⟨w1.heap.size, 1, none⟩ = some (.int .i64 2) := B4.cell 1
  have HX4 := Lib.hid (HX3.out.tr h4)
  clear h4 B4
  go_wp2
  go_ret
  exact ⟨rfl, HX4.out⟩
end Go.Proofs.YtgclojonjglikaaDoor.Un
