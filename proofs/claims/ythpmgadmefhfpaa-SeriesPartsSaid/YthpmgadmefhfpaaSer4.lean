/- series: parts of series: slices.Clone, Index, Contains, keep's In and Inside, series.Window, series.Cut. -/
import Derived.Test.YthpmgadmefhfpaaAppS
import Derived.Test.YthpmgadmefhfpaaSer1
import Derived.Deep.RegionHeld3
namespace Go.Proofs.Ythpmgadmefhfpaa.Se
open Go.ChangeShapes Go.WideShapes Go.RowKit Wo Sr Wi
set_option linter.unusedVariables false
/-- the values of a series, as they lie -/
def Vs (w : World) (A : Option Addr) (n c : Nat) (L : List Int) : Prop := Zi w A n L ∧ n ≤ c ∧ ((A = none ∧ c = 0) ∨ ∃ h, A = some ⟨h, 0, none⟩)
theorem Vs.bel {w w' : World} {A : Option Addr} {n c : Nat} {L : List Int} (h : Vs w A n c L) (hb : Bel w w') : Vs w' A n c L := ⟨h.1.bel hb, h.2⟩
theorem Vs.far {w : World} {A : Option Addr} {n c : Nat} {L : List Int} (h : Vs w A n c L) {q : Addr} (hn : ∀ ad, A = some ad → ad.block ≠ q.block) (u : Value) : Vs (w.setCell q u) A n c L :=
  ⟨⟨h.1.1, fun h0 => by
    obtain ⟨ad, e, hx, hc⟩ := h.1.2 h0
    exact ⟨ad, e, by simpa [World.setCell] using hx, fun j hj => (World.cell?_setCell_other _ _ _ _ (fun e2 => hn ad e (by rw [← add_block ad j, ← e2]))).trans (hc j hj)⟩⟩, h.2⟩
theorem own_vs {w : World} {base n : Nat} {v : Value} {L : List Int} (h : w.ownsRow base 3 1 v n (zs L)) (hl : L.length = n) : ∃ A c, v = .slice A n c ∧ Vs w A n c L ∧ ∀ ad, A = some ad → base ≤ ad.block := by
  obtain ⟨A, c, rfl, hz, hA⟩ := row_zi h hl
  refine ⟨A, c, rfl, ⟨hz, ?_⟩, fun ad e => by subst e; exact (h.lt ad.block rfl).1⟩
  rcases h.2 with ⟨e, h0⟩ | ⟨g, cap, cur, e, _, _, hc, _⟩
  · injection e with e1 e2 e3
    subst e1 e3
    exact ⟨by omega, .inl ⟨rfl, rfl⟩⟩
  · injection e with e1 e2 e3
    subst e1 e3
    exact ⟨hc, .inr ⟨g, rfl⟩⟩
def SomeVs (k : Nat) (Z : List Int) (w : World) (e : Ending) (w' : World) : Prop := ∃ A c, e = .returned (.slice A k c) ∧ Vs w' A k c Z ∧ (∀ ad, A = some ad → w.heap.size ≤ ad.block) ∧ Bel w w'
set_option maxHeartbeats 2000000 in
theorem clone_none (w : World) : Calls Try.prog 30 #[.slice none 0 0] w (SomeVs 0 [] w) := by
  have en : ∀ (w : World) (a : Option Addr) (n c n' c' : Nat), (binOp .eql 22 (.slice a n c) (.slice none n' c')).run Try.prog w = .ok (.bool a.isNone) w := fun w a n c n' c' => Lib.run_eql_slice_nil w _ _ a n c n' c' Try.underlying22
  go_enter Try.func30, Try.ntmps30
  go_wp2
  go_ret
  exact ⟨none, 0, rfl, ⟨⟨rfl, fun h => by omega⟩, Nat.le_refl _, .inl ⟨rfl, rfl⟩⟩, (fun ad e => by cases e), Bel.rf⟩
set_option maxHeartbeats 2000000 in
theorem clone_some (ad : Addr) (c k : Nat) (Z : List Int) (hk : k ≤ 3000) (w : World) (hz : Zi w (some ad) k Z) :
    Calls Try.prog 30 #[.slice (some ad) k c] w (SomeVs k Z w) := by
  have HZ : Hid (Zi (w.alloc (.cells #[] 3)) (some ad) k Z) := hz.bel (Bel.rf.al _)
  have en : ∀ (w : World) (a : Option Addr) (n c n' c' : Nat), (binOp .eql 22 (.slice a n c) (.slice none n' c')).run Try.prog w = .ok (.bool a.isNone) w := fun w a n c n' c' => Lib.run_eql_slice_nil w _ _ a n c n' c' Try.underlying22
  have HO := Lib.hid (own_made (base := w.heap.size) w w.heap.size rfl (Nat.le_refl _))
  have HL := Lib.hid hz.1
  clear hz
  go_enter Try.func30, Try.ntmps30
  go_wp2_with (at_builtin; refine list_app _ rfl (.tmp 5) (.tmp 6) rfl w.heap.size (.slice (some ⟨w.heap.size, 0, none⟩) 0 0) 0 [] rfl HO.out ad k c Z rfl HZ.out (by omega) (by simp) ?_; intro v' w2 h2 h3 h4; rw [Nat.zero_add, List.nil_append] at h2; obtain ⟨a, k2, rfl, hk1, hk3⟩ := own_vs h2 HL.out; have hb2 : Bel w w2 := bel_grown (Bel.rf.al _) h3 (fun q e => by cases e; exact Nat.le_refl _))
  go_ret
  exact ⟨a, k2, rfl, hk1, hk3, hb2⟩
/-- a number that is looked for -/
def SomeIdx (b : Bool) (w : World) (e : Ending) (w' : World) : Prop := ∃ r : Int, e = .returned (.int .i64 r) ∧ -1 ≤ r ∧ r ≤ 3000 ∧ decide (0 ≤ r) = b ∧ Bel w w'
set_option maxHeartbeats 4000000 in
theorem index_any (A : Option Addr) (c n : Nat) (L : List Int) (x : Int) (b : Bool) (hn : n ≤ 3000) (hb : b = true ↔ ∃ j, j < n ∧ L.getD j 0 = x) (w : World) (h : Zi w A n L) :
    Calls Try.prog 40 #[.slice A n c, .int .i64 x] w (SomeIdx b w) := by
  have H1 := Lib.hid h
  have HI := Lib.hid hb
  have ni : (n : Int) ≤ 3000 := by omega
  clear h hb
  go_enter Try.func40, Try.ntmps40
  go_wp2
  go_loopw [8] (fun s8 wr => ∃ (k : Nat) (V : World), V = wr ∧ k ≤ n ∧ s8 = .int .i64 (k : Int) ∧ (∀ j, j < k → L.getD j 0 ≠ x) ∧ Bel w wr) (fun s8 _ => n - (intOf s8).toNat)
  case atStart => exact ⟨0, _, rfl, by omega, rfl, fun j hj => by omega, Bel.rf⟩
  case round =>
    obtain ⟨k, wr, hwr, hk, rfl, hno, hbw⟩ := hrel
    subst hwr
    have HB := Lib.hid (And.intro hbw hno)
    rcases Nat.lt_or_ge k n with hlt | hge
    · obtain ⟨ad, rfl, hab, hac⟩ := (H1.out.bel hbw).2 (by omega)
      have c1 := hac k hlt
      obtain ⟨y, hy⟩ : ∃ y, L.getD k 0 = y := ⟨_, rfl⟩
      rw [hy] at c1
      have HY := Lib.hid hy
      have ki : (k : Int) < (n : Int) := by omega
      clear hbw hac hab hy hno
      by_cases hxy : x = y
      · subst hxy
        have HBT : Hid (b = true) := HI.out.2 ⟨k, hlt, HY.out⟩
        go_wp2
        go_ret
        exact ⟨(k : Int), rfl, by omega, by omega, by rw [HBT.out]; simp, by first | exact HB.out.1 | exact HB.out.1.drwN _ | exact HB.out.1.drw⟩
      · have e1 : (x == y) = false := by simpa using hxy
        go_wp2
        go_roundw
        case rel => exact ⟨k + 1, _, rfl, by omega, by go_num, fun j hj => by
          rcases Nat.lt_or_ge j k with h | h
          · exact HB.out.2 j h
          · rw [show j = k by omega, HY.out]; exact fun e => hxy e.symm, by first | exact HB.out.1 | exact HB.out.1.drwN _ | exact HB.out.1.drw⟩
        case measure => simp [intOf]; omega
    · obtain rfl : k = n := by omega
      have HBF : Hid (b = false) := by
        show b = false
        cases hbb : b
        · rfl
        · obtain ⟨j, h1, h2⟩ := HI.out.1 hbb
          exact absurd h2 (hno j h1)
      clear hbw hno
      go_wp2
      go_ret
      exact ⟨-1, rfl, by omega, by omega, by rw [HBF.out]; decide, HB.out.1⟩
theorem contains_any (A : Option Addr) (c n : Nat) (L : List Int) (x : Int) (b : Bool) (hn : n ≤ 3000) (hb : b = true ↔ ∃ j, j < n ∧ L.getD j 0 = x) (w : World) (h : Zi w A n L) :
    Calls Try.prog 31 #[.slice A n c, .int .i64 x] w fun e w' => e = .returned (.bool b) ∧ Bel w w' := by
  have HX : Hid (∀ W, _) := fun W => index_any A c n L x b hn hb W
  have H1 := Lib.hid h
  clear hb h
  go_enter Try.func31, Try.ntmps31
  go_wp2_with (go_at_call 40; refine (HX.out _ H1.out).mono ?_; rintro e w2 ⟨r, rfl, r1, r2, r3, hb2⟩)
  go_ret
  exact ⟨rfl, hb2⟩
set_option maxHeartbeats 4000000 in
theorem in_any (A : Option Addr) (c n : Nat) (L : List Int) (x : Int) (b : Bool) (hn : n ≤ 3000) (hb : b = true ↔ ∃ j, j < n ∧ L.getD j 0 = x) (w : World) (h : Zi w A n L) :
    Calls Try.prog 14 #[.slice A n c, .int .i64 x] w fun e w' => e = .returned (.bool b) ∧ Bel w w' := by
  have H1 := Lib.hid h
  have HI := Lib.hid hb
  have ni : (n : Int) ≤ 3000 := by omega
  clear h hb
  go_enter Try.func14, Try.ntmps14
  go_wp2
  go_loopw [8] (fun s8 wr => ∃ (k : Nat) (V : World), V = wr ∧ k ≤ n ∧ s8 = .int .i64 (k : Int) ∧ (∀ j, j < k → L.getD j 0 ≠ x) ∧ Bel w wr) (fun s8 _ => n - (intOf s8).toNat)
  case atStart => exact ⟨0, _, rfl, by omega, rfl, fun j hj => by omega, Bel.rf⟩
  case round =>
    obtain ⟨k, wr, hwr, hk, rfl, hno, hbw⟩ := hrel
    subst hwr
    have HB := Lib.hid (And.intro hbw hno)
    rcases Nat.lt_or_ge k n with hlt | hge
    · obtain ⟨ad, rfl, hab, hac⟩ := (H1.out.bel hbw).2 (by omega)
      have c1 := hac k hlt
      obtain ⟨y, hy⟩ : ∃ y, L.getD k 0 = y := ⟨_, rfl⟩
      rw [hy] at c1
      have HY := Lib.hid hy
      have ki : (k : Int) < (n : Int) := by omega
      clear hbw hac hab hy hno
      by_cases hxy : y = x
      · subst hxy
        have HBT : Hid (b = true) := HI.out.2 ⟨k, hlt, HY.out⟩
        go_wp2
        go_ret
        exact ⟨ret_bool HBT.out.symm, by first | exact HB.out.1 | exact HB.out.1.drwN _ | exact HB.out.1.drw⟩
      · have e1 : (y == x) = false := by simpa using hxy
        go_wp2
        go_roundw
        case rel => exact ⟨k + 1, _, rfl, by omega, by go_num, fun j hj => by
          rcases Nat.lt_or_ge j k with h | h
          · exact HB.out.2 j h
          · rw [show j = k by omega, HY.out]; exact hxy, by first | exact HB.out.1 | exact HB.out.1.drwN _ | exact HB.out.1.drw⟩
        case measure => simp [intOf]; omega
    · obtain rfl : k = n := by omega
      have HBF : Hid (b = false) := by
        show b = false
        cases hbb : b
        · rfl
        · obtain ⟨j, h1, h2⟩ := HI.out.1 hbb
          exact absurd h2 (hno j h1)
      clear hbw hno
      go_wp2
      go_ret
      exact ⟨ret_bool HBF.out.symm, HB.out.1⟩
set_option maxHeartbeats 4000000 in
theorem inside_ok (A A' : Option Addr) (c c' n m : Nat) (L M : List Int) (hn : n ≤ 3000) (hm : m ≤ 3000) (hin : ∀ i, i < n → ∃ j, j < m ∧ M.getD j 0 = L.getD i 0) (w : World) (h : Zi w A n L) (h' : Zi w A' m M) :
    Calls Try.prog 20 #[.slice A n c, .slice A' m c'] w fun e w' => e = .returned (.bool true) ∧ Bel w w' := by
  have H1 := Lib.hid h
  have H2 := Lib.hid h'
  have HI := Lib.hid hin
  have ni : (n : Int) ≤ 3000 := by omega
  clear h h' hin
  go_enter Try.func20, Try.ntmps20
  go_wp2
  go_loopw [8] (fun s8 wr => ∃ (k : Nat) (V : World), V = wr ∧ k ≤ n ∧ s8 = .int .i64 (k : Int) ∧ Bel w wr) (fun s8 _ => n - (intOf s8).toNat)
  case atStart => exact ⟨0, _, rfl, by omega, rfl, Bel.rf⟩
  case round =>
    obtain ⟨k, wr, hwr, hk, rfl, hbw⟩ := hrel
    subst hwr
    have HB := Lib.hid hbw
    rcases Nat.lt_or_ge k n with hlt | hge
    · obtain ⟨ad, rfl, hab, hac⟩ := (H1.out.bel hbw).2 (by omega)
      have c1 := hac k hlt
      have HIN : Hid (∀ W, Zi W A' m M → _) := fun W hW => in_any A' c' m M (L.getD k 0) true hm ⟨fun _ => HI.out k hlt, fun _ => rfl⟩ W hW
      obtain ⟨y, hy⟩ : ∃ y, L.getD k 0 = y := ⟨_, rfl⟩
      rw [hy] at c1 HIN
      have ki : (k : Int) < (n : Int) := by omega
      clear hbw hac hab hy
      go_wp2_with (go_at_call 14; refine (HIN.out _ (by first | exact H2.out.bel HB.out | exact H2.out.bel HB.out.drw | exact H2.out.bel (HB.out.drwN _))).mono ?_; rintro e w2 ⟨rfl, hb2⟩)
      go_roundw
      case rel => exact ⟨k + 1, _, rfl, by omega, by go_num, by first | exact HB.out.tr hb2 | exact HB.out.drw.tr hb2 | exact (HB.out.drwN _).tr hb2⟩
      case measure => simp [intOf]; omega
    · obtain rfl : k = n := by omega
      clear hbw
      go_wp2
      go_ret
      exact ⟨rfl, HB.out⟩
end Go.Proofs.Ythpmgadmefhfpaa.Se
