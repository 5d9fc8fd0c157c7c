/- The contract of the reference of layer 14: Costs, by an invariant over its region of one step. -/
import Derived.Test.YthmdponfigepjaaR14g
import Derived.Test.YthmdponfigepjaaApp
import Derived.Test.YthmdponfigepjaaRegionInv
import Derived.BigQuiet
namespace Go.Proofs.Ythmdponfigepjaa.R14
open Go.ChangeShapes Go.WideShapes Go.RowKit Wo Sr Wi Eu Ev Nr
set_option linter.unusedVariables false
set_option linter.unusedSimpArgs false
theorem crow_len (X Y : List Int) (m i : Nat) : (crow X Y m i).length = m := by simp [crow]
theorem nils_at (n p : Nat) (h : p < n) : (nils n)[p]? = some (.slice none 0 0) := by simp [nils, h]
/-- the rows before i are there, in blocks other than h -/
def RC (w : World) (h m i : Nat) (cs : Array Value) (F : Nat → List Int) : Prop := ∀ p, p < i → ∃ r c, cs[p]? = some (.slice (some ⟨r, 0, none⟩) m c) ∧ r ≠ h ∧ Zi w (some ⟨r, 0, none⟩) m (F p)
theorem RC.ch {w w' : World} {h m i : Nat} {cs : Array Value} {F : Nat → List Int} (hr : RC w h m i cs F) (hc : Ch h w w') : RC w' h m i cs F := fun p hp => by
  obtain ⟨r, c, h1, h2, h3⟩ := hr p hp
  exact ⟨r, c, h1, h2, h3.ch hc (fun ad e => by cases e; exact h2)⟩
theorem RC.set {w : World} {h m i : Nat} {cs : Array Value} {F : Nat → List Int} (hr : RC w h m i cs F) (v : Value) : RC w h m i (cs.setIfInBounds i v) F := fun p hp => by
  obtain ⟨r, c, h1, h2, h3⟩ := hr p hp
  exact ⟨r, c, by rw [Array.getElem?_setIfInBounds_ne (by omega)]; exact h1, h2, h3⟩
theorem bk_low {W W' : World} {g B : Nat} {t : TypeId} {cs : Array Value} {row : Option Nat} (h : Bk W g t cs) (hg : W.grownBy W' row) (hr : ∀ b, row = some b → B ≤ b) (hB : g < B) : Bk W' g t cs :=
  (hg.block g h.lt (fun e => by have := hr g e.symm; omega)).trans h
set_option maxHeartbeats 2000000 in
set_option maxRecDepth 100000 in
theorem costs_ok (hx hy c c' n m : Nat) (X Y : List Int) (n1 : 1 ≤ n) (n2 : n ≤ 32) (m1 : 1 ≤ m) (m2 : m ≤ 32) (hs : Sam X) (ht : Sam Y) (w : World) (h1 : Zi w (some ⟨hx, 0, none⟩) n X) (h2 : Zi w (some ⟨hy, 0, none⟩) m Y) (hxw : hx < w.heap.size) (hyw : hy < w.heap.size) :
    Calls Try.prog 45 #[.slice (some ⟨hx, 0, none⟩) n c, .slice (some ⟨hy, 0, none⟩) m c'] w fun e w' => ∃ h, e = .returned (.slice (some ⟨h, 0, none⟩) n n) ∧ TR w' h n m (crow X Y m) ∧ Bel w w' := by
  obtain ⟨i0, hi0, hz0, hz1, hz2⟩ := info_parts info_int
  have HI := Lib.hid (And.intro hi0 (And.intro hz0 (And.intro hz1 hz2)))
  obtain ⟨j0, hj0, hj1, hj2, hj3⟩ := info_parts info_row
  have HJ := Lib.hid (And.intro hj0 (And.intro hj1 (And.intro hj2 hj3)))
  clear hi0 hz0 hz1 hz2 hj0 hj1 hj2 hj3
  have H1 := Lib.hid h1
  have H2 := Lib.hid h2
  have HS := Lib.hid hs
  have HT := Lib.hid ht
  have HHW := Lib.hid (And.intro hxw hyw)
  have a1 : 1 ≤ (n : Int) := by omega
  have a2 : (n : Int) ≤ 32 := by omega
  have a3 : 1 ≤ (m : Int) := by omega
  have a4 : (m : Int) ≤ 32 := by omega
  obtain ⟨W0, hW0⟩ : ∃ W0, W0 = w.alloc (.cells (nils n) 22) := ⟨_, rfl⟩
  obtain ⟨h, hh⟩ : ∃ h, w.heap.size = h := ⟨_, rfl⟩
  have HB0 : Hid (Bel w W0) := by rw [hW0]; exact Bel.rf.al _
  have HK0 : Hid (Bk W0 h 22 (nils n)) := by rw [hW0, ← hh]; exact Bk.nw _ _ _
  have HW0 := Lib.hid hW0
  have HHH := Lib.hid hh
  clear h1 h2 hs ht hxw hyw hW0
  go_enter Try.func45, Try.ntmps45
  go_wp2_with (refine wpList_make_any _ rfl (.tmp 9) (.tmp 9) 39 rfl 22 j0 (.slice none 0 0) 1 Try.underlying39 HJ.out.1 HJ.out.2.1 HJ.out.2.2.1 .i64 .i64 _ _ n n rfl rfl rfl rfl (by omega) (by rw [HJ.out.2.2.2]; omega) (by omega) ?_; rw [made_nil, ← HW0.out, hh])
  go_loopw [13] (fun s13 wr => ∃ (i : Nat) (cs : Array Value) (V : World), V = wr ∧ i ≤ n ∧ s13 = .int .i64 (i : Int) ∧ Bk wr h 22 cs ∧ cs.size = n ∧ RC wr h m i cs (crow X Y m) ∧ (∀ p, i ≤ p → p < n → cs[p]? = some (.slice none 0 0)) ∧ Bel w wr) (fun s13 _ => n - (intOf s13).toNat)
  case atStart => exact ⟨0, nils n, _, rfl, by omega, rfl, HK0.out, by simp [nils], fun p hp => by omega, fun p _ hp => nils_at n p hp, HB0.out⟩
  case round =>
    obtain ⟨i, cs, wr, hwr, hi, rfl, hbk, hcs, hrc, hnil, hb⟩ := hrel
    subst hwr
    have HBK := Lib.hid hbk
    have HRC := Lib.hid (And.intro hcs (And.intro hrc hnil))
    have HB := Lib.hid hb
    have hlth := hbk.lt
    clear hbk hcs hrc hnil hb
    rcases Nat.lt_or_ge i n with hin | hin
    · have ii : (i : Int) < (n : Int) := by omega
      go_wp2
      go_loopw [18] (fun s18 wq => ∃ (j : Nat) (ds : Array Value) (u : Value) (V : World), V = wq ∧ j ≤ m ∧ s18 = .int .i64 (j : Int) ∧ Bk wq h 22 ds ∧ ds.size = n ∧ RC wr h m i ds (crow X Y m) ∧ (∀ p, i < p → p < n → ds[p]? = some (.slice none 0 0)) ∧ ds[i]? = some u ∧ wq.ownsRow wr.heap.size 3 1 u j (zs ((crow X Y m i).take j)) ∧ Ch h wr wq) (fun s18 _ => m - (intOf s18).toNat)
      case atStart => exact ⟨0, cs, .slice none 0 0, _, rfl, by omega, rfl, HBK.out, HRC.out.1, HRC.out.2.1, fun p h1 h2 => HRC.out.2.2 p (by omega) h2, HRC.out.2.2 i (Nat.le_refl i) hin, World.ownsRow_nil _ _ _ _, Ch.rf⟩
      case round =>
        obtain ⟨j, ds, u, wq, hwq, hj, rfl, hbk, hds, hrc, hnil, hu, hown, hch⟩ := hrel
        subst hwq
        have HBK2 := Lib.hid hbk
        have HRD := Lib.hid (And.intro hds (And.intro hrc (And.intro hnil hu)))
        have HOW := Lib.hid hown
        have HCH := Lib.hid hch
        have hsz := hch.size
        have hbw := Bel.ch HB.out hch (by rw [HHH.out]; exact Nat.le_refl h)
        rcases Nat.lt_or_ge j m with hjm | hjm
        · have c1 := (H1.out.bel hbw).at i hin
          have c2 := (H2.out.bel hbw).at j hjm
          have c3 := hbk.cell i
          rw [hu] at c3
          have f3 := hbk.fr i
          have px := HS.out.at i
          have py := HT.out.at j
          have hcr := crow_at X Y m i j hjm
          unfold cst at hcr
          obtain ⟨x, hxx⟩ : ∃ x, X.getD i 0 = x := ⟨_, rfl⟩
          obtain ⟨y, hyy⟩ : ∃ x, Y.getD j 0 = x := ⟨_, rfl⟩
          rw [hxx] at c1 px hcr
          rw [hyy] at c2 py hcr
          obtain ⟨d, hd⟩ : ∃ d, x - y = d := ⟨_, rfl⟩
          rw [hd] at hcr
          have dd := sq_bd (B := 2000) (x := d) (by omega) (by omega)
          obtain ⟨z, hz⟩ : ∃ z, d * d = z := ⟨_, rfl⟩
          rw [hz] at hcr dd
          have wd : IntKind.i64.wrap d = d := IntWalk.i64_in _ (by omega)
          have wz : IntKind.i64.wrap z = z := IntWalk.i64_in _ (by omega)
          have HN : Hid ((crow X Y m i).take (j + 1) = (crow X Y m i).take j ++ [z]) := by show _ = _; rw [take_snoc _ j (by rw [crow_len]; exact hjm), hcr]
          have ji : (j : Int) < (m : Int) := by omega
          have HC3 := Lib.hid (And.intro c3 f3)
          clear hbk hds hrc hnil hu hown hch hbw px py hcr dd c1 c2 c3 f3
          go_wp2
          obtain ⟨A5, c5, rfl, _⟩ := own_any HOW.out
          have HXY := Lib.hid (And.intro hxx hyy)
          clear hxx hyy
          obtain ⟨J3, HJ3⟩ : ∃ J3 : Array Bool → Act → World → Prop, Hid (∀ li a W, J3 li a W ↔ ∃ v : Nat → Value, a = { tmps := #[.slice (some ⟨hx, 0, none⟩) n c, .slice (some ⟨hy, 0, none⟩) m c', undef, undef, .slice none 0 0, .slice (some ⟨h, 0, none⟩) n n, .int .i64 (i : Int), .int .i64 (j : Int), .slice (some ⟨hx, 0, none⟩) n c, .int .i64 (n : Int), .slice (some ⟨h, 0, none⟩) n n, .slice (some ⟨hx, 0, none⟩) n c, .int .i64 (n : Int), .int .i64 (i : Int), .bool true, .int .i64 (i : Int), .slice (some ⟨hy, 0, none⟩) m c', .int .i64 (m : Int), .int .i64 (j : Int), .bool true, .int .i64 (j : Int), v 0, v 1, v 2, v 3, v 4, v 5, v 6, v 7, v 8, v 9, v 10, v 11, v 12, v 13, v 14, v 15, v 16, v 17, v 18, v 19, v 20, v 21, v 22, v 23, v 24, v 25, v 26, v 27, u49, u50, undef], defers := [] } ∧ (li.getD 0 false = true → v 0 = .slice (some ⟨h, 0, none⟩) n n) ∧ (li.getD 1 false = true → v 1 = .int .i64 (i : Int)) ∧ (li.getD 2 false = true → v 2 = .slice (some ⟨h, 0, none⟩) n n) ∧ (li.getD 3 false = true → v 3 = .int .i64 (i : Int)) ∧ (li.getD 4 false = true → v 4 = .pointer (some ⟨h, i, none⟩)) ∧ (li.getD 5 false = true → v 5 = .slice A5 j c5) ∧ (li.getD 6 false = true → v 6 = .slice (some ⟨hx, 0, none⟩) n c) ∧ (li.getD 7 false = true → v 7 = .int .i64 (i : Int)) ∧ (li.getD 8 false = true → v 8 = .pointer (some ⟨hx, i, none⟩)) ∧ (li.getD 9 false = true → v 9 = .int .i64 x) ∧ (li.getD 10 false = true → v 10 = .slice (some ⟨hy, 0, none⟩) m c') ∧ (li.getD 11 false = true → v 11 = .int .i64 (j : Int)) ∧ (li.getD 12 false = true → v 12 = .pointer (some ⟨hy, j, none⟩)) ∧ (li.getD 13 false = true → v 13 = .int .i64 y) ∧ (li.getD 14 false = true → v 14 = .int .i64 d) ∧ (li.getD 15 false = true → v 15 = .slice (some ⟨hx, 0, none⟩) n c) ∧ (li.getD 16 false = true → v 16 = .int .i64 (i : Int)) ∧ (li.getD 17 false = true → v 17 = .pointer (some ⟨hx, i, none⟩)) ∧ (li.getD 18 false = true → v 18 = .int .i64 x) ∧ (li.getD 19 false = true → v 19 = .slice (some ⟨hy, 0, none⟩) m c') ∧ (li.getD 20 false = true → v 20 = .int .i64 (j : Int)) ∧ (li.getD 21 false = true → v 21 = .pointer (some ⟨hy, j, none⟩)) ∧ (li.getD 22 false = true → v 22 = .int .i64 y) ∧ (li.getD 23 false = true → v 23 = .int .i64 d) ∧ (li.getD 24 false = true → v 24 = .int .i64 z) ∧ (li.getD 27 false = true → v 27 = .pointer (some ⟨h, i, none⟩)) ∧ Ch h wr W ∧ (li.getD 26 false = false → Bel wq W) ∧ (li.getD 25 false = true → ∃ g, v 25 = .slice (some ⟨g, 0, none⟩) 1 1 ∧ (li.getD 26 false = false → Zi W (some ⟨g, 0, none⟩) 1 [z])) ∧ (li.getD 26 false = true → ∃ A e W1, v 26 = .slice A (j + 1) e ∧ W1.ownsRow wr.heap.size 3 1 (.slice A (j + 1) e) (j + 1) (zs ((crow X Y m i).take j ++ [z])) ∧ Bk W1 h 22 ds ∧ Ch h wr W1 ∧ (li.getD 28 false = false → W = W1) ∧ (li.getD 28 false = true → W = W1.setCell ⟨h, i, none⟩ (.slice A (j + 1) e)))) := ⟨_, fun _ _ _ => Iff.rfl⟩
          refine Ri9.wp_region_inv2 (by kernel_rfl) (by intro i o ho; (rcases i with _ | _ | _ | _ | _ | _ | _ | _ | _ | _ | _ | _ | _ | _ | _ | _ | _ | _ | _ | _ | _ | _ | _ | _ | _ | _ | _ | _ | _ | i) <;> first | (cases ho; decide) | (exact absurd ho (by simp))) J3 ?_ ?_ ?_
          · refine (HJ3.out _ _ _).2 ⟨fun q => (#[u21, u22, u23, u24, u25, u26, u27, u28, u29, u30, u31, u32, u33, u34, u35, u36, u37, u38, u39, u40, u41, u42, u43, u44, u45, u46, u47, u48] : Array Value).getD q undef, by rfl, (fun h => by rw [rep_get] at h; cases h), (fun h => by rw [rep_get] at h; cases h), (fun h => by rw [rep_get] at h; cases h), (fun h => by rw [rep_get] at h; cases h), (fun h => by rw [rep_get] at h; cases h), (fun h => by rw [rep_get] at h; cases h), (fun h => by rw [rep_get] at h; cases h), (fun h => by rw [rep_get] at h; cases h), (fun h => by rw [rep_get] at h; cases h), (fun h => by rw [rep_get] at h; cases h), (fun h => by rw [rep_get] at h; cases h), (fun h => by rw [rep_get] at h; cases h), (fun h => by rw [rep_get] at h; cases h), (fun h => by rw [rep_get] at h; cases h), (fun h => by rw [rep_get] at h; cases h), (fun h => by rw [rep_get] at h; cases h), (fun h => by rw [rep_get] at h; cases h), (fun h => by rw [rep_get] at h; cases h), (fun h => by rw [rep_get] at h; cases h), (fun h => by rw [rep_get] at h; cases h), (fun h => by rw [rep_get] at h; cases h), (fun h => by rw [rep_get] at h; cases h), (fun h => by rw [rep_get] at h; cases h), (fun h => by rw [rep_get] at h; cases h), (fun h => by rw [rep_get] at h; cases h), (fun h => by rw [rep_get] at h; cases h), HCH.out.drw, fun _ => Bel.rf.drw, (fun h => by rw [rep_get] at h; cases h), (fun h => by rw [rep_get] at h; cases h)⟩
          · intro q o ho li a W hcl hJ3 haft hun
            obtain ⟨v, rfl, f0, f1, f2, f3, f4, f5, f6, f7, f8, f9, f10, f11, f12, f13, f14, f15, f16, f17, f18, f19, f20, f21, f22, f23, f24, f27, hA, hB, h25, h26⟩ := (HJ3.out _ _ _).1 hJ3
            have HC := Lib.hid hcl
            have HAF := Lib.hid haft
            have HA := Lib.hid hA
            have HBW := Lib.hid hB
            have H25 := Lib.hid h25
            have H26 := Lib.hid h26
            clear hcl hJ3 haft hA hB h25 h26
            rcases q with _ | _ | _ | _ | _ | _ | _ | _ | _ | _ | _ | _ | _ | _ | _ | _ | _ | _ | _ | _ | _ | _ | _ | _ | _ | _ | _ | _ | _ | q
            · -- operation 0
              cases ho
              have HUN := Lib.hid hun
              have HFF := Lib.hid (And.intro f0 ( And.intro f1 ( And.intro f2 ( And.intro f3 ( And.intro f4 ( And.intro f5 ( And.intro f6 ( And.intro f7 ( And.intro f8 ( And.intro f9 ( And.intro f10 ( And.intro f11 ( And.intro f12 ( And.intro f13 ( And.intro f14 ( And.intro f15 ( And.intro f16 ( And.intro f17 ( And.intro f18 ( And.intro f19 ( And.intro f20 ( And.intro f21 ( And.intro f22 ( And.intro f23 ( And.intro f24 (f27))))))))))))))))))))))))))
              clear f0 f1 f2 f3 f4 f5 f6 f7 f8 f9 f10 f11 f12 f13 f14 f15 f16 f17 f18 f19 f20 f21 f22 f23 f24 f27 hun
              refine Ri9.wpOp_list rfl ?_
              go_wp2
              refine (HJ3.out _ _ _).2 ⟨fun k => if k = 0 then .slice (some ⟨h, 0, none⟩) n n else v k, by simp [], (fun _ => rfl), (fun h => HFF.out.2.1 (by rw [getD_set_ne _ (by decide)] at h; exact h)), (fun h => HFF.out.2.2.1 (by rw [getD_set_ne _ (by decide)] at h; exact h)), (fun h => HFF.out.2.2.2.1 (by rw [getD_set_ne _ (by decide)] at h; exact h)), (fun h => HFF.out.2.2.2.2.1 (by rw [getD_set_ne _ (by decide)] at h; exact h)), (fun h => HFF.out.2.2.2.2.2.1 (by rw [getD_set_ne _ (by decide)] at h; exact h)), (fun h => HFF.out.2.2.2.2.2.2.1 (by rw [getD_set_ne _ (by decide)] at h; exact h)), (fun h => HFF.out.2.2.2.2.2.2.2.1 (by rw [getD_set_ne _ (by decide)] at h; exact h)), (fun h => HFF.out.2.2.2.2.2.2.2.2.1 (by rw [getD_set_ne _ (by decide)] at h; exact h)), (fun h => HFF.out.2.2.2.2.2.2.2.2.2.1 (by rw [getD_set_ne _ (by decide)] at h; exact h)), (fun h => HFF.out.2.2.2.2.2.2.2.2.2.2.1 (by rw [getD_set_ne _ (by decide)] at h; exact h)), (fun h => HFF.out.2.2.2.2.2.2.2.2.2.2.2.1 (by rw [getD_set_ne _ (by decide)] at h; exact h)), (fun h => HFF.out.2.2.2.2.2.2.2.2.2.2.2.2.1 (by rw [getD_set_ne _ (by decide)] at h; exact h)), (fun h => HFF.out.2.2.2.2.2.2.2.2.2.2.2.2.2.1 (by rw [getD_set_ne _ (by decide)] at h; exact h)), (fun h => HFF.out.2.2.2.2.2.2.2.2.2.2.2.2.2.2.1 (by rw [getD_set_ne _ (by decide)] at h; exact h)), (fun h => HFF.out.2.2.2.2.2.2.2.2.2.2.2.2.2.2.2.1 (by rw [getD_set_ne _ (by decide)] at h; exact h)), (fun h => HFF.out.2.2.2.2.2.2.2.2.2.2.2.2.2.2.2.2.1 (by rw [getD_set_ne _ (by decide)] at h; exact h)), (fun h => HFF.out.2.2.2.2.2.2.2.2.2.2.2.2.2.2.2.2.2.1 (by rw [getD_set_ne _ (by decide)] at h; exact h)), (fun h => HFF.out.2.2.2.2.2.2.2.2.2.2.2.2.2.2.2.2.2.2.1 (by rw [getD_set_ne _ (by decide)] at h; exact h)), (fun h => HFF.out.2.2.2.2.2.2.2.2.2.2.2.2.2.2.2.2.2.2.2.1 (by rw [getD_set_ne _ (by decide)] at h; exact h)), (fun h => HFF.out.2.2.2.2.2.2.2.2.2.2.2.2.2.2.2.2.2.2.2.2.1 (by rw [getD_set_ne _ (by decide)] at h; exact h)), (fun h => HFF.out.2.2.2.2.2.2.2.2.2.2.2.2.2.2.2.2.2.2.2.2.2.1 (by rw [getD_set_ne _ (by decide)] at h; exact h)), (fun h => HFF.out.2.2.2.2.2.2.2.2.2.2.2.2.2.2.2.2.2.2.2.2.2.2.1 (by rw [getD_set_ne _ (by decide)] at h; exact h)), (fun h => HFF.out.2.2.2.2.2.2.2.2.2.2.2.2.2.2.2.2.2.2.2.2.2.2.2.1 (by rw [getD_set_ne _ (by decide)] at h; exact h)), (fun h => HFF.out.2.2.2.2.2.2.2.2.2.2.2.2.2.2.2.2.2.2.2.2.2.2.2.2.1 (by rw [getD_set_ne _ (by decide)] at h; exact h)), (fun h => HFF.out.2.2.2.2.2.2.2.2.2.2.2.2.2.2.2.2.2.2.2.2.2.2.2.2.2 (by rw [getD_set_ne _ (by decide)] at h; exact h)), HA.out, (fun h => HBW.out (by rw [getD_set_ne _ (by decide)] at h; exact h)), ?_, ?_⟩
              · intro h
                rw [getD_set_ne _ (by decide)] at h
                obtain ⟨g, e25, z1⟩ := H25.out h
                exact ⟨g, by simp [e25], fun h => z1 (by rw [getD_set_ne _ (by decide)] at h; exact h)⟩
              · intro h
                rw [getD_set_ne _ (by decide)] at h
                obtain ⟨A6, c6, W1, e26, o1, o2, o3, o4, o5⟩ := H26.out h
                exact ⟨A6, c6, W1, by simp [e26], o1, o2, o3, fun h => o4 (by rw [getD_set_ne _ (by decide)] at h; exact h), fun h => o5 (by rw [getD_set_ne _ (by decide)] at h; exact h)⟩
            · -- operation 1
              cases ho
              have HUN := Lib.hid hun
              have HFF := Lib.hid (And.intro f0 ( And.intro f1 ( And.intro f2 ( And.intro f3 ( And.intro f4 ( And.intro f5 ( And.intro f6 ( And.intro f7 ( And.intro f8 ( And.intro f9 ( And.intro f10 ( And.intro f11 ( And.intro f12 ( And.intro f13 ( And.intro f14 ( And.intro f15 ( And.intro f16 ( And.intro f17 ( And.intro f18 ( And.intro f19 ( And.intro f20 ( And.intro f21 ( And.intro f22 ( And.intro f23 ( And.intro f24 (f27))))))))))))))))))))))))))
              clear f0 f1 f2 f3 f4 f5 f6 f7 f8 f9 f10 f11 f12 f13 f14 f15 f16 f17 f18 f19 f20 f21 f22 f23 f24 f27 hun
              refine Ri9.wpOp_list rfl ?_
              go_wp2
              refine (HJ3.out _ _ _).2 ⟨fun k => if k = 1 then .int .i64 (i : Int) else v k, by simp [], (fun h => HFF.out.1 (by rw [getD_set_ne _ (by decide)] at h; exact h)), (fun _ => rfl), (fun h => HFF.out.2.2.1 (by rw [getD_set_ne _ (by decide)] at h; exact h)), (fun h => HFF.out.2.2.2.1 (by rw [getD_set_ne _ (by decide)] at h; exact h)), (fun h => HFF.out.2.2.2.2.1 (by rw [getD_set_ne _ (by decide)] at h; exact h)), (fun h => HFF.out.2.2.2.2.2.1 (by rw [getD_set_ne _ (by decide)] at h; exact h)), (fun h => HFF.out.2.2.2.2.2.2.1 (by rw [getD_set_ne _ (by decide)] at h; exact h)), (fun h => HFF.out.2.2.2.2.2.2.2.1 (by rw [getD_set_ne _ (by decide)] at h; exact h)), (fun h => HFF.out.2.2.2.2.2.2.2.2.1 (by rw [getD_set_ne _ (by decide)] at h; exact h)), (fun h => HFF.out.2.2.2.2.2.2.2.2.2.1 (by rw [getD_set_ne _ (by decide)] at h; exact h)), (fun h => HFF.out.2.2.2.2.2.2.2.2.2.2.1 (by rw [getD_set_ne _ (by decide)] at h; exact h)), (fun h => HFF.out.2.2.2.2.2.2.2.2.2.2.2.1 (by rw [getD_set_ne _ (by decide)] at h; exact h)), (fun h => HFF.out.2.2.2.2.2.2.2.2.2.2.2.2.1 (by rw [getD_set_ne _ (by decide)] at h; exact h)), (fun h => HFF.out.2.2.2.2.2.2.2.2.2.2.2.2.2.1 (by rw [getD_set_ne _ (by decide)] at h; exact h)), (fun h => HFF.out.2.2.2.2.2.2.2.2.2.2.2.2.2.2.1 (by rw [getD_set_ne _ (by decide)] at h; exact h)), (fun h => HFF.out.2.2.2.2.2.2.2.2.2.2.2.2.2.2.2.1 (by rw [getD_set_ne _ (by decide)] at h; exact h)), (fun h => HFF.out.2.2.2.2.2.2.2.2.2.2.2.2.2.2.2.2.1 (by rw [getD_set_ne _ (by decide)] at h; exact h)), (fun h => HFF.out.2.2.2.2.2.2.2.2.2.2.2.2.2.2.2.2.2.1 (by rw [getD_set_ne _ (by decide)] at h; exact h)), (fun h => HFF.out.2.2.2.2.2.2.2.2.2.2.2.2.2.2.2.2.2.2.1 (by rw [getD_set_ne _ (by decide)] at h; exact h)), (fun h => HFF.out.2.2.2.2.2.2.2.2.2.2.2.2.2.2.2.2.2.2.2.1 (by rw [getD_set_ne _ (by decide)] at h; exact h)), (fun h => HFF.out.2.2.2.2.2.2.2.2.2.2.2.2.2.2.2.2.2.2.2.2.1 (by rw [getD_set_ne _ (by decide)] at h; exact h)), (fun h => HFF.out.2.2.2.2.2.2.2.2.2.2.2.2.2.2.2.2.2.2.2.2.2.1 (by rw [getD_set_ne _ (by decide)] at h; exact h)), (fun h => HFF.out.2.2.2.2.2.2.2.2.2.2.2.2.2.2.2.2.2.2.2.2.2.2.1 (by rw [getD_set_ne _ (by decide)] at h; exact h)), (fun h => HFF.out.2.2.2.2.2.2.2.2.2.2.2.2.2.2.2.2.2.2.2.2.2.2.2.1 (by rw [getD_set_ne _ (by decide)] at h; exact h)), (fun h => HFF.out.2.2.2.2.2.2.2.2.2.2.2.2.2.2.2.2.2.2.2.2.2.2.2.2.1 (by rw [getD_set_ne _ (by decide)] at h; exact h)), (fun h => HFF.out.2.2.2.2.2.2.2.2.2.2.2.2.2.2.2.2.2.2.2.2.2.2.2.2.2 (by rw [getD_set_ne _ (by decide)] at h; exact h)), HA.out, (fun h => HBW.out (by rw [getD_set_ne _ (by decide)] at h; exact h)), ?_, ?_⟩
              · intro h
                rw [getD_set_ne _ (by decide)] at h
                obtain ⟨g, e25, z1⟩ := H25.out h
                exact ⟨g, by simp [e25], fun h => z1 (by rw [getD_set_ne _ (by decide)] at h; exact h)⟩
              · intro h
                rw [getD_set_ne _ (by decide)] at h
                obtain ⟨A6, c6, W1, e26, o1, o2, o3, o4, o5⟩ := H26.out h
                exact ⟨A6, c6, W1, by simp [e26], o1, o2, o3, fun h => o4 (by rw [getD_set_ne _ (by decide)] at h; exact h), fun h => o5 (by rw [getD_set_ne _ (by decide)] at h; exact h)⟩
            · -- operation 2
              cases ho
              have HUN := Lib.hid hun
              have HFF := Lib.hid (And.intro f0 ( And.intro f1 ( And.intro f2 ( And.intro f3 ( And.intro f4 ( And.intro f5 ( And.intro f6 ( And.intro f7 ( And.intro f8 ( And.intro f9 ( And.intro f10 ( And.intro f11 ( And.intro f12 ( And.intro f13 ( And.intro f14 ( And.intro f15 ( And.intro f16 ( And.intro f17 ( And.intro f18 ( And.intro f19 ( And.intro f20 ( And.intro f21 ( And.intro f22 ( And.intro f23 ( And.intro f24 (f27))))))))))))))))))))))))))
              clear f0 f1 f2 f3 f4 f5 f6 f7 f8 f9 f10 f11 f12 f13 f14 f15 f16 f17 f18 f19 f20 f21 f22 f23 f24 f27 hun
              refine Ri9.wpOp_list rfl ?_
              go_wp2
              refine (HJ3.out _ _ _).2 ⟨fun k => if k = 2 then .slice (some ⟨h, 0, none⟩) n n else v k, by simp [], (fun h => HFF.out.1 (by rw [getD_set_ne _ (by decide)] at h; exact h)), (fun h => HFF.out.2.1 (by rw [getD_set_ne _ (by decide)] at h; exact h)), (fun _ => rfl), (fun h => HFF.out.2.2.2.1 (by rw [getD_set_ne _ (by decide)] at h; exact h)), (fun h => HFF.out.2.2.2.2.1 (by rw [getD_set_ne _ (by decide)] at h; exact h)), (fun h => HFF.out.2.2.2.2.2.1 (by rw [getD_set_ne _ (by decide)] at h; exact h)), (fun h => HFF.out.2.2.2.2.2.2.1 (by rw [getD_set_ne _ (by decide)] at h; exact h)), (fun h => HFF.out.2.2.2.2.2.2.2.1 (by rw [getD_set_ne _ (by decide)] at h; exact h)), (fun h => HFF.out.2.2.2.2.2.2.2.2.1 (by rw [getD_set_ne _ (by decide)] at h; exact h)), (fun h => HFF.out.2.2.2.2.2.2.2.2.2.1 (by rw [getD_set_ne _ (by decide)] at h; exact h)), (fun h => HFF.out.2.2.2.2.2.2.2.2.2.2.1 (by rw [getD_set_ne _ (by decide)] at h; exact h)), (fun h => HFF.out.2.2.2.2.2.2.2.2.2.2.2.1 (by rw [getD_set_ne _ (by decide)] at h; exact h)), (fun h => HFF.out.2.2.2.2.2.2.2.2.2.2.2.2.1 (by rw [getD_set_ne _ (by decide)] at h; exact h)), (fun h => HFF.out.2.2.2.2.2.2.2.2.2.2.2.2.2.1 (by rw [getD_set_ne _ (by decide)] at h; exact h)), (fun h => HFF.out.2.2.2.2.2.2.2.2.2.2.2.2.2.2.1 (by rw [getD_set_ne _ (by decide)] at h; exact h)), (fun h => HFF.out.2.2.2.2.2.2.2.2.2.2.2.2.2.2.2.1 (by rw [getD_set_ne _ (by decide)] at h; exact h)), (fun h => HFF.out.2.2.2.2.2.2.2.2.2.2.2.2.2.2.2.2.1 (by rw [getD_set_ne _ (by decide)] at h; exact h)), (fun h => HFF.out.2.2.2.2.2.2.2.2.2.2.2.2.2.2.2.2.2.1 (by rw [getD_set_ne _ (by decide)] at h; exact h)), (fun h => HFF.out.2.2.2.2.2.2.2.2.2.2.2.2.2.2.2.2.2.2.1 (by rw [getD_set_ne _ (by decide)] at h; exact h)), (fun h => HFF.out.2.2.2.2.2.2.2.2.2.2.2.2.2.2.2.2.2.2.2.1 (by rw [getD_set_ne _ (by decide)] at h; exact h)), (fun h => HFF.out.2.2.2.2.2.2.2.2.2.2.2.2.2.2.2.2.2.2.2.2.1 (by rw [getD_set_ne _ (by decide)] at h; exact h)), (fun h => HFF.out.2.2.2.2.2.2.2.2.2.2.2.2.2.2.2.2.2.2.2.2.2.1 (by rw [getD_set_ne _ (by decide)] at h; exact h)), (fun h => HFF.out.2.2.2.2.2.2.2.2.2.2.2.2.2.2.2.2.2.2.2.2.2.2.1 (by rw [getD_set_ne _ (by decide)] at h; exact h)), (fun h => HFF.out.2.2.2.2.2.2.2.2.2.2.2.2.2.2.2.2.2.2.2.2.2.2.2.1 (by rw [getD_set_ne _ (by decide)] at h; exact h)), (fun h => HFF.out.2.2.2.2.2.2.2.2.2.2.2.2.2.2.2.2.2.2.2.2.2.2.2.2.1 (by rw [getD_set_ne _ (by decide)] at h; exact h)), (fun h => HFF.out.2.2.2.2.2.2.2.2.2.2.2.2.2.2.2.2.2.2.2.2.2.2.2.2.2 (by rw [getD_set_ne _ (by decide)] at h; exact h)), HA.out, (fun h => HBW.out (by rw [getD_set_ne _ (by decide)] at h; exact h)), ?_, ?_⟩
              · intro h
                rw [getD_set_ne _ (by decide)] at h
                obtain ⟨g, e25, z1⟩ := H25.out h
                exact ⟨g, by simp [e25], fun h => z1 (by rw [getD_set_ne _ (by decide)] at h; exact h)⟩
              · intro h
                rw [getD_set_ne _ (by decide)] at h
                obtain ⟨A6, c6, W1, e26, o1, o2, o3, o4, o5⟩ := H26.out h
                exact ⟨A6, c6, W1, by simp [e26], o1, o2, o3, fun h => o4 (by rw [getD_set_ne _ (by decide)] at h; exact h), fun h => o5 (by rw [getD_set_ne _ (by decide)] at h; exact h)⟩
            · -- operation 3
              cases ho
              have HUN := Lib.hid hun
              have HFF := Lib.hid (And.intro f0 ( And.intro f1 ( And.intro f2 ( And.intro f3 ( And.intro f4 ( And.intro f5 ( And.intro f6 ( And.intro f7 ( And.intro f8 ( And.intro f9 ( And.intro f10 ( And.intro f11 ( And.intro f12 ( And.intro f13 ( And.intro f14 ( And.intro f15 ( And.intro f16 ( And.intro f17 ( And.intro f18 ( And.intro f19 ( And.intro f20 ( And.intro f21 ( And.intro f22 ( And.intro f23 ( And.intro f24 (f27))))))))))))))))))))))))))
              clear f0 f1 f2 f3 f4 f5 f6 f7 f8 f9 f10 f11 f12 f13 f14 f15 f16 f17 f18 f19 f20 f21 f22 f23 f24 f27 hun
              refine Ri9.wpOp_list rfl ?_
              go_wp2
              refine (HJ3.out _ _ _).2 ⟨fun k => if k = 3 then .int .i64 (i : Int) else v k, by simp [], (fun h => HFF.out.1 (by rw [getD_set_ne _ (by decide)] at h; exact h)), (fun h => HFF.out.2.1 (by rw [getD_set_ne _ (by decide)] at h; exact h)), (fun h => HFF.out.2.2.1 (by rw [getD_set_ne _ (by decide)] at h; exact h)), (fun _ => rfl), (fun h => HFF.out.2.2.2.2.1 (by rw [getD_set_ne _ (by decide)] at h; exact h)), (fun h => HFF.out.2.2.2.2.2.1 (by rw [getD_set_ne _ (by decide)] at h; exact h)), (fun h => HFF.out.2.2.2.2.2.2.1 (by rw [getD_set_ne _ (by decide)] at h; exact h)), (fun h => HFF.out.2.2.2.2.2.2.2.1 (by rw [getD_set_ne _ (by decide)] at h; exact h)), (fun h => HFF.out.2.2.2.2.2.2.2.2.1 (by rw [getD_set_ne _ (by decide)] at h; exact h)), (fun h => HFF.out.2.2.2.2.2.2.2.2.2.1 (by rw [getD_set_ne _ (by decide)] at h; exact h)), (fun h => HFF.out.2.2.2.2.2.2.2.2.2.2.1 (by rw [getD_set_ne _ (by decide)] at h; exact h)), (fun h => HFF.out.2.2.2.2.2.2.2.2.2.2.2.1 (by rw [getD_set_ne _ (by decide)] at h; exact h)), (fun h => HFF.out.2.2.2.2.2.2.2.2.2.2.2.2.1 (by rw [getD_set_ne _ (by decide)] at h; exact h)), (fun h => HFF.out.2.2.2.2.2.2.2.2.2.2.2.2.2.1 (by rw [getD_set_ne _ (by decide)] at h; exact h)), (fun h => HFF.out.2.2.2.2.2.2.2.2.2.2.2.2.2.2.1 (by rw [getD_set_ne _ (by decide)] at h; exact h)), (fun h => HFF.out.2.2.2.2.2.2.2.2.2.2.2.2.2.2.2.1 (by rw [getD_set_ne _ (by decide)] at h; exact h)), (fun h => HFF.out.2.2.2.2.2.2.2.2.2.2.2.2.2.2.2.2.1 (by rw [getD_set_ne _ (by decide)] at h; exact h)), (fun h => HFF.out.2.2.2.2.2.2.2.2.2.2.2.2.2.2.2.2.2.1 (by rw [getD_set_ne _ (by decide)] at h; exact h)), (fun h => HFF.out.2.2.2.2.2.2.2.2.2.2.2.2.2.2.2.2.2.2.1 (by rw [getD_set_ne _ (by decide)] at h; exact h)), (fun h => HFF.out.2.2.2.2.2.2.2.2.2.2.2.2.2.2.2.2.2.2.2.1 (by rw [getD_set_ne _ (by decide)] at h; exact h)), (fun h => HFF.out.2.2.2.2.2.2.2.2.2.2.2.2.2.2.2.2.2.2.2.2.1 (by rw [getD_set_ne _ (by decide)] at h; exact h)), (fun h => HFF.out.2.2.2.2.2.2.2.2.2.2.2.2.2.2.2.2.2.2.2.2.2.1 (by rw [getD_set_ne _ (by decide)] at h; exact h)), (fun h => HFF.out.2.2.2.2.2.2.2.2.2.2.2.2.2.2.2.2.2.2.2.2.2.2.1 (by rw [getD_set_ne _ (by decide)] at h; exact h)), (fun h => HFF.out.2.2.2.2.2.2.2.2.2.2.2.2.2.2.2.2.2.2.2.2.2.2.2.1 (by rw [getD_set_ne _ (by decide)] at h; exact h)), (fun h => HFF.out.2.2.2.2.2.2.2.2.2.2.2.2.2.2.2.2.2.2.2.2.2.2.2.2.1 (by rw [getD_set_ne _ (by decide)] at h; exact h)), (fun h => HFF.out.2.2.2.2.2.2.2.2.2.2.2.2.2.2.2.2.2.2.2.2.2.2.2.2.2 (by rw [getD_set_ne _ (by decide)] at h; exact h)), HA.out, (fun h => HBW.out (by rw [getD_set_ne _ (by decide)] at h; exact h)), ?_, ?_⟩
              · intro h
                rw [getD_set_ne _ (by decide)] at h
                obtain ⟨g, e25, z1⟩ := H25.out h
                exact ⟨g, by simp [e25], fun h => z1 (by rw [getD_set_ne _ (by decide)] at h; exact h)⟩
              · intro h
                rw [getD_set_ne _ (by decide)] at h
                obtain ⟨A6, c6, W1, e26, o1, o2, o3, o4, o5⟩ := H26.out h
                exact ⟨A6, c6, W1, by simp [e26], o1, o2, o3, fun h => o4 (by rw [getD_set_ne _ (by decide)] at h; exact h), fun h => o5 (by rw [getD_set_ne _ (by decide)] at h; exact h)⟩
            · -- operation 4
              cases ho
              have e2 := f2 (HAF.out ⟨2, .data⟩ (by simp) rfl)
              have e3 := f3 (HAF.out ⟨3, .data⟩ (by simp) rfl)
              have HUN := Lib.hid hun
              have HFF := Lib.hid (And.intro f0 ( And.intro f1 ( And.intro f2 ( And.intro f3 ( And.intro f4 ( And.intro f5 ( And.intro f6 ( And.intro f7 ( And.intro f8 ( And.intro f9 ( And.intro f10 ( And.intro f11 ( And.intro f12 ( And.intro f13 ( And.intro f14 ( And.intro f15 ( And.intro f16 ( And.intro f17 ( And.intro f18 ( And.intro f19 ( And.intro f20 ( And.intro f21 ( And.intro f22 ( And.intro f23 ( And.intro f24 (f27))))))))))))))))))))))))))
              clear f0 f1 f2 f3 f4 f5 f6 f7 f8 f9 f10 f11 f12 f13 f14 f15 f16 f17 f18 f19 f20 f21 f22 f23 f24 f27 hun
              refine Ri9.wpOp_list rfl ?_
              go_wp2
              refine (HJ3.out _ _ _).2 ⟨fun k => if k = 4 then .pointer (some ⟨h, i, none⟩) else v k, by simp [e2, e3], (fun h => HFF.out.1 (by rw [getD_set_ne _ (by decide)] at h; exact h)), (fun h => HFF.out.2.1 (by rw [getD_set_ne _ (by decide)] at h; exact h)), (fun h => HFF.out.2.2.1 (by rw [getD_set_ne _ (by decide)] at h; exact h)), (fun h => HFF.out.2.2.2.1 (by rw [getD_set_ne _ (by decide)] at h; exact h)), (fun _ => rfl), (fun h => HFF.out.2.2.2.2.2.1 (by rw [getD_set_ne _ (by decide)] at h; exact h)), (fun h => HFF.out.2.2.2.2.2.2.1 (by rw [getD_set_ne _ (by decide)] at h; exact h)), (fun h => HFF.out.2.2.2.2.2.2.2.1 (by rw [getD_set_ne _ (by decide)] at h; exact h)), (fun h => HFF.out.2.2.2.2.2.2.2.2.1 (by rw [getD_set_ne _ (by decide)] at h; exact h)), (fun h => HFF.out.2.2.2.2.2.2.2.2.2.1 (by rw [getD_set_ne _ (by decide)] at h; exact h)), (fun h => HFF.out.2.2.2.2.2.2.2.2.2.2.1 (by rw [getD_set_ne _ (by decide)] at h; exact h)), (fun h => HFF.out.2.2.2.2.2.2.2.2.2.2.2.1 (by rw [getD_set_ne _ (by decide)] at h; exact h)), (fun h => HFF.out.2.2.2.2.2.2.2.2.2.2.2.2.1 (by rw [getD_set_ne _ (by decide)] at h; exact h)), (fun h => HFF.out.2.2.2.2.2.2.2.2.2.2.2.2.2.1 (by rw [getD_set_ne _ (by decide)] at h; exact h)), (fun h => HFF.out.2.2.2.2.2.2.2.2.2.2.2.2.2.2.1 (by rw [getD_set_ne _ (by decide)] at h; exact h)), (fun h => HFF.out.2.2.2.2.2.2.2.2.2.2.2.2.2.2.2.1 (by rw [getD_set_ne _ (by decide)] at h; exact h)), (fun h => HFF.out.2.2.2.2.2.2.2.2.2.2.2.2.2.2.2.2.1 (by rw [getD_set_ne _ (by decide)] at h; exact h)), (fun h => HFF.out.2.2.2.2.2.2.2.2.2.2.2.2.2.2.2.2.2.1 (by rw [getD_set_ne _ (by decide)] at h; exact h)), (fun h => HFF.out.2.2.2.2.2.2.2.2.2.2.2.2.2.2.2.2.2.2.1 (by rw [getD_set_ne _ (by decide)] at h; exact h)), (fun h => HFF.out.2.2.2.2.2.2.2.2.2.2.2.2.2.2.2.2.2.2.2.1 (by rw [getD_set_ne _ (by decide)] at h; exact h)), (fun h => HFF.out.2.2.2.2.2.2.2.2.2.2.2.2.2.2.2.2.2.2.2.2.1 (by rw [getD_set_ne _ (by decide)] at h; exact h)), (fun h => HFF.out.2.2.2.2.2.2.2.2.2.2.2.2.2.2.2.2.2.2.2.2.2.1 (by rw [getD_set_ne _ (by decide)] at h; exact h)), (fun h => HFF.out.2.2.2.2.2.2.2.2.2.2.2.2.2.2.2.2.2.2.2.2.2.2.1 (by rw [getD_set_ne _ (by decide)] at h; exact h)), (fun h => HFF.out.2.2.2.2.2.2.2.2.2.2.2.2.2.2.2.2.2.2.2.2.2.2.2.1 (by rw [getD_set_ne _ (by decide)] at h; exact h)), (fun h => HFF.out.2.2.2.2.2.2.2.2.2.2.2.2.2.2.2.2.2.2.2.2.2.2.2.2.1 (by rw [getD_set_ne _ (by decide)] at h; exact h)), (fun h => HFF.out.2.2.2.2.2.2.2.2.2.2.2.2.2.2.2.2.2.2.2.2.2.2.2.2.2 (by rw [getD_set_ne _ (by decide)] at h; exact h)), HA.out, (fun h => HBW.out (by rw [getD_set_ne _ (by decide)] at h; exact h)), ?_, ?_⟩
              · intro h
                rw [getD_set_ne _ (by decide)] at h
                obtain ⟨g, e25, z1⟩ := H25.out h
                exact ⟨g, by simp [e25], fun h => z1 (by rw [getD_set_ne _ (by decide)] at h; exact h)⟩
              · intro h
                rw [getD_set_ne _ (by decide)] at h
                obtain ⟨A6, c6, W1, e26, o1, o2, o3, o4, o5⟩ := H26.out h
                exact ⟨A6, c6, W1, by simp [e26], o1, o2, o3, fun h => o4 (by rw [getD_set_ne _ (by decide)] at h; exact h), fun h => o5 (by rw [getD_set_ne _ (by decide)] at h; exact h)⟩
            · -- operation 5
              cases ho
              have e4 := f4 (HAF.out ⟨4, .data⟩ (by simp) rfl)
              have HUN := Lib.hid hun
              have n26 : li.getD 26 false = false := by
                cases hx : li.getD 26 false
                · rfl
                · have := HC.out 26 _ rfl hx ⟨5, .data⟩ (by simp) rfl
                  rw [get_def this] at hun; cases hun
              have cc := (HBK2.out.bel (HBW.out n26)).cell i
              rw [HRD.out.2.2.2] at cc
              have HFF := Lib.hid (And.intro f0 ( And.intro f1 ( And.intro f2 ( And.intro f3 ( And.intro f4 ( And.intro f5 ( And.intro f6 ( And.intro f7 ( And.intro f8 ( And.intro f9 ( And.intro f10 ( And.intro f11 ( And.intro f12 ( And.intro f13 ( And.intro f14 ( And.intro f15 ( And.intro f16 ( And.intro f17 ( And.intro f18 ( And.intro f19 ( And.intro f20 ( And.intro f21 ( And.intro f22 ( And.intro f23 ( And.intro f24 (f27))))))))))))))))))))))))))
              clear f0 f1 f2 f3 f4 f5 f6 f7 f8 f9 f10 f11 f12 f13 f14 f15 f16 f17 f18 f19 f20 f21 f22 f23 f24 f27 hun
              refine Ri9.wpOp_list rfl ?_
              go_wp2
              refine (HJ3.out _ _ _).2 ⟨fun k => if k = 5 then .slice A5 j c5 else v k, by simp [e4], (fun h => HFF.out.1 (by rw [getD_set_ne _ (by decide)] at h; exact h)), (fun h => HFF.out.2.1 (by rw [getD_set_ne _ (by decide)] at h; exact h)), (fun h => HFF.out.2.2.1 (by rw [getD_set_ne _ (by decide)] at h; exact h)), (fun h => HFF.out.2.2.2.1 (by rw [getD_set_ne _ (by decide)] at h; exact h)), (fun h => HFF.out.2.2.2.2.1 (by rw [getD_set_ne _ (by decide)] at h; exact h)), (fun _ => rfl), (fun h => HFF.out.2.2.2.2.2.2.1 (by rw [getD_set_ne _ (by decide)] at h; exact h)), (fun h => HFF.out.2.2.2.2.2.2.2.1 (by rw [getD_set_ne _ (by decide)] at h; exact h)), (fun h => HFF.out.2.2.2.2.2.2.2.2.1 (by rw [getD_set_ne _ (by decide)] at h; exact h)), (fun h => HFF.out.2.2.2.2.2.2.2.2.2.1 (by rw [getD_set_ne _ (by decide)] at h; exact h)), (fun h => HFF.out.2.2.2.2.2.2.2.2.2.2.1 (by rw [getD_set_ne _ (by decide)] at h; exact h)), (fun h => HFF.out.2.2.2.2.2.2.2.2.2.2.2.1 (by rw [getD_set_ne _ (by decide)] at h; exact h)), (fun h => HFF.out.2.2.2.2.2.2.2.2.2.2.2.2.1 (by rw [getD_set_ne _ (by decide)] at h; exact h)), (fun h => HFF.out.2.2.2.2.2.2.2.2.2.2.2.2.2.1 (by rw [getD_set_ne _ (by decide)] at h; exact h)), (fun h => HFF.out.2.2.2.2.2.2.2.2.2.2.2.2.2.2.1 (by rw [getD_set_ne _ (by decide)] at h; exact h)), (fun h => HFF.out.2.2.2.2.2.2.2.2.2.2.2.2.2.2.2.1 (by rw [getD_set_ne _ (by decide)] at h; exact h)), (fun h => HFF.out.2.2.2.2.2.2.2.2.2.2.2.2.2.2.2.2.1 (by rw [getD_set_ne _ (by decide)] at h; exact h)), (fun h => HFF.out.2.2.2.2.2.2.2.2.2.2.2.2.2.2.2.2.2.1 (by rw [getD_set_ne _ (by decide)] at h; exact h)), (fun h => HFF.out.2.2.2.2.2.2.2.2.2.2.2.2.2.2.2.2.2.2.1 (by rw [getD_set_ne _ (by decide)] at h; exact h)), (fun h => HFF.out.2.2.2.2.2.2.2.2.2.2.2.2.2.2.2.2.2.2.2.1 (by rw [getD_set_ne _ (by decide)] at h; exact h)), (fun h => HFF.out.2.2.2.2.2.2.2.2.2.2.2.2.2.2.2.2.2.2.2.2.1 (by rw [getD_set_ne _ (by decide)] at h; exact h)), (fun h => HFF.out.2.2.2.2.2.2.2.2.2.2.2.2.2.2.2.2.2.2.2.2.2.1 (by rw [getD_set_ne _ (by decide)] at h; exact h)), (fun h => HFF.out.2.2.2.2.2.2.2.2.2.2.2.2.2.2.2.2.2.2.2.2.2.2.1 (by rw [getD_set_ne _ (by decide)] at h; exact h)), (fun h => HFF.out.2.2.2.2.2.2.2.2.2.2.2.2.2.2.2.2.2.2.2.2.2.2.2.1 (by rw [getD_set_ne _ (by decide)] at h; exact h)), (fun h => HFF.out.2.2.2.2.2.2.2.2.2.2.2.2.2.2.2.2.2.2.2.2.2.2.2.2.1 (by rw [getD_set_ne _ (by decide)] at h; exact h)), (fun h => HFF.out.2.2.2.2.2.2.2.2.2.2.2.2.2.2.2.2.2.2.2.2.2.2.2.2.2 (by rw [getD_set_ne _ (by decide)] at h; exact h)), HA.out, (fun h => HBW.out (by rw [getD_set_ne _ (by decide)] at h; exact h)), ?_, ?_⟩
              · intro h
                rw [getD_set_ne _ (by decide)] at h
                obtain ⟨g, e25, z1⟩ := H25.out h
                exact ⟨g, by simp [e25], fun h => z1 (by rw [getD_set_ne _ (by decide)] at h; exact h)⟩
              · intro h
                rw [getD_set_ne _ (by decide)] at h
                obtain ⟨A6, c6, W1, e26, o1, o2, o3, o4, o5⟩ := H26.out h
                exact ⟨A6, c6, W1, by simp [e26], o1, o2, o3, fun h => o4 (by rw [getD_set_ne _ (by decide)] at h; exact h), fun h => o5 (by rw [getD_set_ne _ (by decide)] at h; exact h)⟩
            · -- operation 6
              cases ho
              have HUN := Lib.hid hun
              have HFF := Lib.hid (And.intro f0 ( And.intro f1 ( And.intro f2 ( And.intro f3 ( And.intro f4 ( And.intro f5 ( And.intro f6 ( And.intro f7 ( And.intro f8 ( And.intro f9 ( And.intro f10 ( And.intro f11 ( And.intro f12 ( And.intro f13 ( And.intro f14 ( And.intro f15 ( And.intro f16 ( And.intro f17 ( And.intro f18 ( And.intro f19 ( And.intro f20 ( And.intro f21 ( And.intro f22 ( And.intro f23 ( And.intro f24 (f27))))))))))))))))))))))))))
              clear f0 f1 f2 f3 f4 f5 f6 f7 f8 f9 f10 f11 f12 f13 f14 f15 f16 f17 f18 f19 f20 f21 f22 f23 f24 f27 hun
              refine Ri9.wpOp_list rfl ?_
              go_wp2
              refine (HJ3.out _ _ _).2 ⟨fun k => if k = 6 then .slice (some ⟨hx, 0, none⟩) n c else v k, by simp [], (fun h => HFF.out.1 (by rw [getD_set_ne _ (by decide)] at h; exact h)), (fun h => HFF.out.2.1 (by rw [getD_set_ne _ (by decide)] at h; exact h)), (fun h => HFF.out.2.2.1 (by rw [getD_set_ne _ (by decide)] at h; exact h)), (fun h => HFF.out.2.2.2.1 (by rw [getD_set_ne _ (by decide)] at h; exact h)), (fun h => HFF.out.2.2.2.2.1 (by rw [getD_set_ne _ (by decide)] at h; exact h)), (fun h => HFF.out.2.2.2.2.2.1 (by rw [getD_set_ne _ (by decide)] at h; exact h)), (fun _ => rfl), (fun h => HFF.out.2.2.2.2.2.2.2.1 (by rw [getD_set_ne _ (by decide)] at h; exact h)), (fun h => HFF.out.2.2.2.2.2.2.2.2.1 (by rw [getD_set_ne _ (by decide)] at h; exact h)), (fun h => HFF.out.2.2.2.2.2.2.2.2.2.1 (by rw [getD_set_ne _ (by decide)] at h; exact h)), (fun h => HFF.out.2.2.2.2.2.2.2.2.2.2.1 (by rw [getD_set_ne _ (by decide)] at h; exact h)), (fun h => HFF.out.2.2.2.2.2.2.2.2.2.2.2.1 (by rw [getD_set_ne _ (by decide)] at h; exact h)), (fun h => HFF.out.2.2.2.2.2.2.2.2.2.2.2.2.1 (by rw [getD_set_ne _ (by decide)] at h; exact h)), (fun h => HFF.out.2.2.2.2.2.2.2.2.2.2.2.2.2.1 (by rw [getD_set_ne _ (by decide)] at h; exact h)), (fun h => HFF.out.2.2.2.2.2.2.2.2.2.2.2.2.2.2.1 (by rw [getD_set_ne _ (by decide)] at h; exact h)), (fun h => HFF.out.2.2.2.2.2.2.2.2.2.2.2.2.2.2.2.1 (by rw [getD_set_ne _ (by decide)] at h; exact h)), (fun h => HFF.out.2.2.2.2.2.2.2.2.2.2.2.2.2.2.2.2.1 (by rw [getD_set_ne _ (by decide)] at h; exact h)), (fun h => HFF.out.2.2.2.2.2.2.2.2.2.2.2.2.2.2.2.2.2.1 (by rw [getD_set_ne _ (by decide)] at h; exact h)), (fun h => HFF.out.2.2.2.2.2.2.2.2.2.2.2.2.2.2.2.2.2.2.1 (by rw [getD_set_ne _ (by decide)] at h; exact h)), (fun h => HFF.out.2.2.2.2.2.2.2.2.2.2.2.2.2.2.2.2.2.2.2.1 (by rw [getD_set_ne _ (by decide)] at h; exact h)), (fun h => HFF.out.2.2.2.2.2.2.2.2.2.2.2.2.2.2.2.2.2.2.2.2.1 (by rw [getD_set_ne _ (by decide)] at h; exact h)), (fun h => HFF.out.2.2.2.2.2.2.2.2.2.2.2.2.2.2.2.2.2.2.2.2.2.1 (by rw [getD_set_ne _ (by decide)] at h; exact h)), (fun h => HFF.out.2.2.2.2.2.2.2.2.2.2.2.2.2.2.2.2.2.2.2.2.2.2.1 (by rw [getD_set_ne _ (by decide)] at h; exact h)), (fun h => HFF.out.2.2.2.2.2.2.2.2.2.2.2.2.2.2.2.2.2.2.2.2.2.2.2.1 (by rw [getD_set_ne _ (by decide)] at h; exact h)), (fun h => HFF.out.2.2.2.2.2.2.2.2.2.2.2.2.2.2.2.2.2.2.2.2.2.2.2.2.1 (by rw [getD_set_ne _ (by decide)] at h; exact h)), (fun h => HFF.out.2.2.2.2.2.2.2.2.2.2.2.2.2.2.2.2.2.2.2.2.2.2.2.2.2 (by rw [getD_set_ne _ (by decide)] at h; exact h)), HA.out, (fun h => HBW.out (by rw [getD_set_ne _ (by decide)] at h; exact h)), ?_, ?_⟩
              · intro h
                rw [getD_set_ne _ (by decide)] at h
                obtain ⟨g, e25, z1⟩ := H25.out h
                exact ⟨g, by simp [e25], fun h => z1 (by rw [getD_set_ne _ (by decide)] at h; exact h)⟩
              · intro h
                rw [getD_set_ne _ (by decide)] at h
                obtain ⟨A6, c6, W1, e26, o1, o2, o3, o4, o5⟩ := H26.out h
                exact ⟨A6, c6, W1, by simp [e26], o1, o2, o3, fun h => o4 (by rw [getD_set_ne _ (by decide)] at h; exact h), fun h => o5 (by rw [getD_set_ne _ (by decide)] at h; exact h)⟩
            · -- operation 7
              cases ho
              have HUN := Lib.hid hun
              have HFF := Lib.hid (And.intro f0 ( And.intro f1 ( And.intro f2 ( And.intro f3 ( And.intro f4 ( And.intro f5 ( And.intro f6 ( And.intro f7 ( And.intro f8 ( And.intro f9 ( And.intro f10 ( And.intro f11 ( And.intro f12 ( And.intro f13 ( And.intro f14 ( And.intro f15 ( And.intro f16 ( And.intro f17 ( And.intro f18 ( And.intro f19 ( And.intro f20 ( And.intro f21 ( And.intro f22 ( And.intro f23 ( And.intro f24 (f27))))))))))))))))))))))))))
              clear f0 f1 f2 f3 f4 f5 f6 f7 f8 f9 f10 f11 f12 f13 f14 f15 f16 f17 f18 f19 f20 f21 f22 f23 f24 f27 hun
              refine Ri9.wpOp_list rfl ?_
              go_wp2
              refine (HJ3.out _ _ _).2 ⟨fun k => if k = 7 then .int .i64 (i : Int) else v k, by simp [], (fun h => HFF.out.1 (by rw [getD_set_ne _ (by decide)] at h; exact h)), (fun h => HFF.out.2.1 (by rw [getD_set_ne _ (by decide)] at h; exact h)), (fun h => HFF.out.2.2.1 (by rw [getD_set_ne _ (by decide)] at h; exact h)), (fun h => HFF.out.2.2.2.1 (by rw [getD_set_ne _ (by decide)] at h; exact h)), (fun h => HFF.out.2.2.2.2.1 (by rw [getD_set_ne _ (by decide)] at h; exact h)), (fun h => HFF.out.2.2.2.2.2.1 (by rw [getD_set_ne _ (by decide)] at h; exact h)), (fun h => HFF.out.2.2.2.2.2.2.1 (by rw [getD_set_ne _ (by decide)] at h; exact h)), (fun _ => rfl), (fun h => HFF.out.2.2.2.2.2.2.2.2.1 (by rw [getD_set_ne _ (by decide)] at h; exact h)), (fun h => HFF.out.2.2.2.2.2.2.2.2.2.1 (by rw [getD_set_ne _ (by decide)] at h; exact h)), (fun h => HFF.out.2.2.2.2.2.2.2.2.2.2.1 (by rw [getD_set_ne _ (by decide)] at h; exact h)), (fun h => HFF.out.2.2.2.2.2.2.2.2.2.2.2.1 (by rw [getD_set_ne _ (by decide)] at h; exact h)), (fun h => HFF.out.2.2.2.2.2.2.2.2.2.2.2.2.1 (by rw [getD_set_ne _ (by decide)] at h; exact h)), (fun h => HFF.out.2.2.2.2.2.2.2.2.2.2.2.2.2.1 (by rw [getD_set_ne _ (by decide)] at h; exact h)), (fun h => HFF.out.2.2.2.2.2.2.2.2.2.2.2.2.2.2.1 (by rw [getD_set_ne _ (by decide)] at h; exact h)), (fun h => HFF.out.2.2.2.2.2.2.2.2.2.2.2.2.2.2.2.1 (by rw [getD_set_ne _ (by decide)] at h; exact h)), (fun h => HFF.out.2.2.2.2.2.2.2.2.2.2.2.2.2.2.2.2.1 (by rw [getD_set_ne _ (by decide)] at h; exact h)), (fun h => HFF.out.2.2.2.2.2.2.2.2.2.2.2.2.2.2.2.2.2.1 (by rw [getD_set_ne _ (by decide)] at h; exact h)), (fun h => HFF.out.2.2.2.2.2.2.2.2.2.2.2.2.2.2.2.2.2.2.1 (by rw [getD_set_ne _ (by decide)] at h; exact h)), (fun h => HFF.out.2.2.2.2.2.2.2.2.2.2.2.2.2.2.2.2.2.2.2.1 (by rw [getD_set_ne _ (by decide)] at h; exact h)), (fun h => HFF.out.2.2.2.2.2.2.2.2.2.2.2.2.2.2.2.2.2.2.2.2.1 (by rw [getD_set_ne _ (by decide)] at h; exact h)), (fun h => HFF.out.2.2.2.2.2.2.2.2.2.2.2.2.2.2.2.2.2.2.2.2.2.1 (by rw [getD_set_ne _ (by decide)] at h; exact h)), (fun h => HFF.out.2.2.2.2.2.2.2.2.2.2.2.2.2.2.2.2.2.2.2.2.2.2.1 (by rw [getD_set_ne _ (by decide)] at h; exact h)), (fun h => HFF.out.2.2.2.2.2.2.2.2.2.2.2.2.2.2.2.2.2.2.2.2.2.2.2.1 (by rw [getD_set_ne _ (by decide)] at h; exact h)), (fun h => HFF.out.2.2.2.2.2.2.2.2.2.2.2.2.2.2.2.2.2.2.2.2.2.2.2.2.1 (by rw [getD_set_ne _ (by decide)] at h; exact h)), (fun h => HFF.out.2.2.2.2.2.2.2.2.2.2.2.2.2.2.2.2.2.2.2.2.2.2.2.2.2 (by rw [getD_set_ne _ (by decide)] at h; exact h)), HA.out, (fun h => HBW.out (by rw [getD_set_ne _ (by decide)] at h; exact h)), ?_, ?_⟩
              · intro h
                rw [getD_set_ne _ (by decide)] at h
                obtain ⟨g, e25, z1⟩ := H25.out h
                exact ⟨g, by simp [e25], fun h => z1 (by rw [getD_set_ne _ (by decide)] at h; exact h)⟩
              · intro h
                rw [getD_set_ne _ (by decide)] at h
                obtain ⟨A6, c6, W1, e26, o1, o2, o3, o4, o5⟩ := H26.out h
                exact ⟨A6, c6, W1, by simp [e26], o1, o2, o3, fun h => o4 (by rw [getD_set_ne _ (by decide)] at h; exact h), fun h => o5 (by rw [getD_set_ne _ (by decide)] at h; exact h)⟩
            · -- operation 8
              cases ho
              have e6 := f6 (HAF.out ⟨6, .data⟩ (by simp) rfl)
              have e7 := f7 (HAF.out ⟨7, .data⟩ (by simp) rfl)
              have HUN := Lib.hid hun
              have HFF := Lib.hid (And.intro f0 ( And.intro f1 ( And.intro f2 ( And.intro f3 ( And.intro f4 ( And.intro f5 ( And.intro f6 ( And.intro f7 ( And.intro f8 ( And.intro f9 ( And.intro f10 ( And.intro f11 ( And.intro f12 ( And.intro f13 ( And.intro f14 ( And.intro f15 ( And.intro f16 ( And.intro f17 ( And.intro f18 ( And.intro f19 ( And.intro f20 ( And.intro f21 ( And.intro f22 ( And.intro f23 ( And.intro f24 (f27))))))))))))))))))))))))))
              clear f0 f1 f2 f3 f4 f5 f6 f7 f8 f9 f10 f11 f12 f13 f14 f15 f16 f17 f18 f19 f20 f21 f22 f23 f24 f27 hun
              refine Ri9.wpOp_list rfl ?_
              go_wp2
              refine (HJ3.out _ _ _).2 ⟨fun k => if k = 8 then .pointer (some ⟨hx, i, none⟩) else v k, by simp [e6, e7], (fun h => HFF.out.1 (by rw [getD_set_ne _ (by decide)] at h; exact h)), (fun h => HFF.out.2.1 (by rw [getD_set_ne _ (by decide)] at h; exact h)), (fun h => HFF.out.2.2.1 (by rw [getD_set_ne _ (by decide)] at h; exact h)), (fun h => HFF.out.2.2.2.1 (by rw [getD_set_ne _ (by decide)] at h; exact h)), (fun h => HFF.out.2.2.2.2.1 (by rw [getD_set_ne _ (by decide)] at h; exact h)), (fun h => HFF.out.2.2.2.2.2.1 (by rw [getD_set_ne _ (by decide)] at h; exact h)), (fun h => HFF.out.2.2.2.2.2.2.1 (by rw [getD_set_ne _ (by decide)] at h; exact h)), (fun h => HFF.out.2.2.2.2.2.2.2.1 (by rw [getD_set_ne _ (by decide)] at h; exact h)), (fun _ => rfl), (fun h => HFF.out.2.2.2.2.2.2.2.2.2.1 (by rw [getD_set_ne _ (by decide)] at h; exact h)), (fun h => HFF.out.2.2.2.2.2.2.2.2.2.2.1 (by rw [getD_set_ne _ (by decide)] at h; exact h)), (fun h => HFF.out.2.2.2.2.2.2.2.2.2.2.2.1 (by rw [getD_set_ne _ (by decide)] at h; exact h)), (fun h => HFF.out.2.2.2.2.2.2.2.2.2.2.2.2.1 (by rw [getD_set_ne _ (by decide)] at h; exact h)), (fun h => HFF.out.2.2.2.2.2.2.2.2.2.2.2.2.2.1 (by rw [getD_set_ne _ (by decide)] at h; exact h)), (fun h => HFF.out.2.2.2.2.2.2.2.2.2.2.2.2.2.2.1 (by rw [getD_set_ne _ (by decide)] at h; exact h)), (fun h => HFF.out.2.2.2.2.2.2.2.2.2.2.2.2.2.2.2.1 (by rw [getD_set_ne _ (by decide)] at h; exact h)), (fun h => HFF.out.2.2.2.2.2.2.2.2.2.2.2.2.2.2.2.2.1 (by rw [getD_set_ne _ (by decide)] at h; exact h)), (fun h => HFF.out.2.2.2.2.2.2.2.2.2.2.2.2.2.2.2.2.2.1 (by rw [getD_set_ne _ (by decide)] at h; exact h)), (fun h => HFF.out.2.2.2.2.2.2.2.2.2.2.2.2.2.2.2.2.2.2.1 (by rw [getD_set_ne _ (by decide)] at h; exact h)), (fun h => HFF.out.2.2.2.2.2.2.2.2.2.2.2.2.2.2.2.2.2.2.2.1 (by rw [getD_set_ne _ (by decide)] at h; exact h)), (fun h => HFF.out.2.2.2.2.2.2.2.2.2.2.2.2.2.2.2.2.2.2.2.2.1 (by rw [getD_set_ne _ (by decide)] at h; exact h)), (fun h => HFF.out.2.2.2.2.2.2.2.2.2.2.2.2.2.2.2.2.2.2.2.2.2.1 (by rw [getD_set_ne _ (by decide)] at h; exact h)), (fun h => HFF.out.2.2.2.2.2.2.2.2.2.2.2.2.2.2.2.2.2.2.2.2.2.2.1 (by rw [getD_set_ne _ (by decide)] at h; exact h)), (fun h => HFF.out.2.2.2.2.2.2.2.2.2.2.2.2.2.2.2.2.2.2.2.2.2.2.2.1 (by rw [getD_set_ne _ (by decide)] at h; exact h)), (fun h => HFF.out.2.2.2.2.2.2.2.2.2.2.2.2.2.2.2.2.2.2.2.2.2.2.2.2.1 (by rw [getD_set_ne _ (by decide)] at h; exact h)), (fun h => HFF.out.2.2.2.2.2.2.2.2.2.2.2.2.2.2.2.2.2.2.2.2.2.2.2.2.2 (by rw [getD_set_ne _ (by decide)] at h; exact h)), HA.out, (fun h => HBW.out (by rw [getD_set_ne _ (by decide)] at h; exact h)), ?_, ?_⟩
              · intro h
                rw [getD_set_ne _ (by decide)] at h
                obtain ⟨g, e25, z1⟩ := H25.out h
                exact ⟨g, by simp [e25], fun h => z1 (by rw [getD_set_ne _ (by decide)] at h; exact h)⟩
              · intro h
                rw [getD_set_ne _ (by decide)] at h
                obtain ⟨A6, c6, W1, e26, o1, o2, o3, o4, o5⟩ := H26.out h
                exact ⟨A6, c6, W1, by simp [e26], o1, o2, o3, fun h => o4 (by rw [getD_set_ne _ (by decide)] at h; exact h), fun h => o5 (by rw [getD_set_ne _ (by decide)] at h; exact h)⟩
            · -- operation 9
              cases ho
              have e8 := f8 (HAF.out ⟨8, .data⟩ (by simp) rfl)
              have HUN := Lib.hid hun
              have cc := (H1.out.bel (Bel.ch HB.out HA.out (by rw [HHH.out]; exact Nat.le_refl h))).at i hin
              rw [HXY.out.1] at cc
              have HFF := Lib.hid (And.intro f0 ( And.intro f1 ( And.intro f2 ( And.intro f3 ( And.intro f4 ( And.intro f5 ( And.intro f6 ( And.intro f7 ( And.intro f8 ( And.intro f9 ( And.intro f10 ( And.intro f11 ( And.intro f12 ( And.intro f13 ( And.intro f14 ( And.intro f15 ( And.intro f16 ( And.intro f17 ( And.intro f18 ( And.intro f19 ( And.intro f20 ( And.intro f21 ( And.intro f22 ( And.intro f23 ( And.intro f24 (f27))))))))))))))))))))))))))
              clear f0 f1 f2 f3 f4 f5 f6 f7 f8 f9 f10 f11 f12 f13 f14 f15 f16 f17 f18 f19 f20 f21 f22 f23 f24 f27 hun
              refine Ri9.wpOp_list rfl ?_
              go_wp2
              refine (HJ3.out _ _ _).2 ⟨fun k => if k = 9 then .int .i64 x else v k, by simp [e8], (fun h => HFF.out.1 (by rw [getD_set_ne _ (by decide)] at h; exact h)), (fun h => HFF.out.2.1 (by rw [getD_set_ne _ (by decide)] at h; exact h)), (fun h => HFF.out.2.2.1 (by rw [getD_set_ne _ (by decide)] at h; exact h)), (fun h => HFF.out.2.2.2.1 (by rw [getD_set_ne _ (by decide)] at h; exact h)), (fun h => HFF.out.2.2.2.2.1 (by rw [getD_set_ne _ (by decide)] at h; exact h)), (fun h => HFF.out.2.2.2.2.2.1 (by rw [getD_set_ne _ (by decide)] at h; exact h)), (fun h => HFF.out.2.2.2.2.2.2.1 (by rw [getD_set_ne _ (by decide)] at h; exact h)), (fun h => HFF.out.2.2.2.2.2.2.2.1 (by rw [getD_set_ne _ (by decide)] at h; exact h)), (fun h => HFF.out.2.2.2.2.2.2.2.2.1 (by rw [getD_set_ne _ (by decide)] at h; exact h)), (fun _ => rfl), (fun h => HFF.out.2.2.2.2.2.2.2.2.2.2.1 (by rw [getD_set_ne _ (by decide)] at h; exact h)), (fun h => HFF.out.2.2.2.2.2.2.2.2.2.2.2.1 (by rw [getD_set_ne _ (by decide)] at h; exact h)), (fun h => HFF.out.2.2.2.2.2.2.2.2.2.2.2.2.1 (by rw [getD_set_ne _ (by decide)] at h; exact h)), (fun h => HFF.out.2.2.2.2.2.2.2.2.2.2.2.2.2.1 (by rw [getD_set_ne _ (by decide)] at h; exact h)), (fun h => HFF.out.2.2.2.2.2.2.2.2.2.2.2.2.2.2.1 (by rw [getD_set_ne _ (by decide)] at h; exact h)), (fun h => HFF.out.2.2.2.2.2.2.2.2.2.2.2.2.2.2.2.1 (by rw [getD_set_ne _ (by decide)] at h; exact h)), (fun h => HFF.out.2.2.2.2.2.2.2.2.2.2.2.2.2.2.2.2.1 (by rw [getD_set_ne _ (by decide)] at h; exact h)), (fun h => HFF.out.2.2.2.2.2.2.2.2.2.2.2.2.2.2.2.2.2.1 (by rw [getD_set_ne _ (by decide)] at h; exact h)), (fun h => HFF.out.2.2.2.2.2.2.2.2.2.2.2.2.2.2.2.2.2.2.1 (by rw [getD_set_ne _ (by decide)] at h; exact h)), (fun h => HFF.out.2.2.2.2.2.2.2.2.2.2.2.2.2.2.2.2.2.2.2.1 (by rw [getD_set_ne _ (by decide)] at h; exact h)), (fun h => HFF.out.2.2.2.2.2.2.2.2.2.2.2.2.2.2.2.2.2.2.2.2.1 (by rw [getD_set_ne _ (by decide)] at h; exact h)), (fun h => HFF.out.2.2.2.2.2.2.2.2.2.2.2.2.2.2.2.2.2.2.2.2.2.1 (by rw [getD_set_ne _ (by decide)] at h; exact h)), (fun h => HFF.out.2.2.2.2.2.2.2.2.2.2.2.2.2.2.2.2.2.2.2.2.2.2.1 (by rw [getD_set_ne _ (by decide)] at h; exact h)), (fun h => HFF.out.2.2.2.2.2.2.2.2.2.2.2.2.2.2.2.2.2.2.2.2.2.2.2.1 (by rw [getD_set_ne _ (by decide)] at h; exact h)), (fun h => HFF.out.2.2.2.2.2.2.2.2.2.2.2.2.2.2.2.2.2.2.2.2.2.2.2.2.1 (by rw [getD_set_ne _ (by decide)] at h; exact h)), (fun h => HFF.out.2.2.2.2.2.2.2.2.2.2.2.2.2.2.2.2.2.2.2.2.2.2.2.2.2 (by rw [getD_set_ne _ (by decide)] at h; exact h)), HA.out, (fun h => HBW.out (by rw [getD_set_ne _ (by decide)] at h; exact h)), ?_, ?_⟩
              · intro h
                rw [getD_set_ne _ (by decide)] at h
                obtain ⟨g, e25, z1⟩ := H25.out h
                exact ⟨g, by simp [e25], fun h => z1 (by rw [getD_set_ne _ (by decide)] at h; exact h)⟩
              · intro h
                rw [getD_set_ne _ (by decide)] at h
                obtain ⟨A6, c6, W1, e26, o1, o2, o3, o4, o5⟩ := H26.out h
                exact ⟨A6, c6, W1, by simp [e26], o1, o2, o3, fun h => o4 (by rw [getD_set_ne _ (by decide)] at h; exact h), fun h => o5 (by rw [getD_set_ne _ (by decide)] at h; exact h)⟩
            · -- operation 10
              cases ho
              have HUN := Lib.hid hun
              have HFF := Lib.hid (And.intro f0 ( And.intro f1 ( And.intro f2 ( And.intro f3 ( And.intro f4 ( And.intro f5 ( And.intro f6 ( And.intro f7 ( And.intro f8 ( And.intro f9 ( And.intro f10 ( And.intro f11 ( And.intro f12 ( And.intro f13 ( And.intro f14 ( And.intro f15 ( And.intro f16 ( And.intro f17 ( And.intro f18 ( And.intro f19 ( And.intro f20 ( And.intro f21 ( And.intro f22 ( And.intro f23 ( And.intro f24 (f27))))))))))))))))))))))))))
              clear f0 f1 f2 f3 f4 f5 f6 f7 f8 f9 f10 f11 f12 f13 f14 f15 f16 f17 f18 f19 f20 f21 f22 f23 f24 f27 hun
              refine Ri9.wpOp_list rfl ?_
              go_wp2
              refine (HJ3.out _ _ _).2 ⟨fun k => if k = 10 then .slice (some ⟨hy, 0, none⟩) m c' else v k, by simp [], (fun h => HFF.out.1 (by rw [getD_set_ne _ (by decide)] at h; exact h)), (fun h => HFF.out.2.1 (by rw [getD_set_ne _ (by decide)] at h; exact h)), (fun h => HFF.out.2.2.1 (by rw [getD_set_ne _ (by decide)] at h; exact h)), (fun h => HFF.out.2.2.2.1 (by rw [getD_set_ne _ (by decide)] at h; exact h)), (fun h => HFF.out.2.2.2.2.1 (by rw [getD_set_ne _ (by decide)] at h; exact h)), (fun h => HFF.out.2.2.2.2.2.1 (by rw [getD_set_ne _ (by decide)] at h; exact h)), (fun h => HFF.out.2.2.2.2.2.2.1 (by rw [getD_set_ne _ (by decide)] at h; exact h)), (fun h => HFF.out.2.2.2.2.2.2.2.1 (by rw [getD_set_ne _ (by decide)] at h; exact h)), (fun h => HFF.out.2.2.2.2.2.2.2.2.1 (by rw [getD_set_ne _ (by decide)] at h; exact h)), (fun h => HFF.out.2.2.2.2.2.2.2.2.2.1 (by rw [getD_set_ne _ (by decide)] at h; exact h)), (fun _ => rfl), (fun h => HFF.out.2.2.2.2.2.2.2.2.2.2.2.1 (by rw [getD_set_ne _ (by decide)] at h; exact h)), (fun h => HFF.out.2.2.2.2.2.2.2.2.2.2.2.2.1 (by rw [getD_set_ne _ (by decide)] at h; exact h)), (fun h => HFF.out.2.2.2.2.2.2.2.2.2.2.2.2.2.1 (by rw [getD_set_ne _ (by decide)] at h; exact h)), (fun h => HFF.out.2.2.2.2.2.2.2.2.2.2.2.2.2.2.1 (by rw [getD_set_ne _ (by decide)] at h; exact h)), (fun h => HFF.out.2.2.2.2.2.2.2.2.2.2.2.2.2.2.2.1 (by rw [getD_set_ne _ (by decide)] at h; exact h)), (fun h => HFF.out.2.2.2.2.2.2.2.2.2.2.2.2.2.2.2.2.1 (by rw [getD_set_ne _ (by decide)] at h; exact h)), (fun h => HFF.out.2.2.2.2.2.2.2.2.2.2.2.2.2.2.2.2.2.1 (by rw [getD_set_ne _ (by decide)] at h; exact h)), (fun h => HFF.out.2.2.2.2.2.2.2.2.2.2.2.2.2.2.2.2.2.2.1 (by rw [getD_set_ne _ (by decide)] at h; exact h)), (fun h => HFF.out.2.2.2.2.2.2.2.2.2.2.2.2.2.2.2.2.2.2.2.1 (by rw [getD_set_ne _ (by decide)] at h; exact h)), (fun h => HFF.out.2.2.2.2.2.2.2.2.2.2.2.2.2.2.2.2.2.2.2.2.1 (by rw [getD_set_ne _ (by decide)] at h; exact h)), (fun h => HFF.out.2.2.2.2.2.2.2.2.2.2.2.2.2.2.2.2.2.2.2.2.2.1 (by rw [getD_set_ne _ (by decide)] at h; exact h)), (fun h => HFF.out.2.2.2.2.2.2.2.2.2.2.2.2.2.2.2.2.2.2.2.2.2.2.1 (by rw [getD_set_ne _ (by decide)] at h; exact h)), (fun h => HFF.out.2.2.2.2.2.2.2.2.2.2.2.2.2.2.2.2.2.2.2.2.2.2.2.1 (by rw [getD_set_ne _ (by decide)] at h; exact h)), (fun h => HFF.out.2.2.2.2.2.2.2.2.2.2.2.2.2.2.2.2.2.2.2.2.2.2.2.2.1 (by rw [getD_set_ne _ (by decide)] at h; exact h)), (fun h => HFF.out.2.2.2.2.2.2.2.2.2.2.2.2.2.2.2.2.2.2.2.2.2.2.2.2.2 (by rw [getD_set_ne _ (by decide)] at h; exact h)), HA.out, (fun h => HBW.out (by rw [getD_set_ne _ (by decide)] at h; exact h)), ?_, ?_⟩
              · intro h
                rw [getD_set_ne _ (by decide)] at h
                obtain ⟨g, e25, z1⟩ := H25.out h
                exact ⟨g, by simp [e25], fun h => z1 (by rw [getD_set_ne _ (by decide)] at h; exact h)⟩
              · intro h
                rw [getD_set_ne _ (by decide)] at h
                obtain ⟨A6, c6, W1, e26, o1, o2, o3, o4, o5⟩ := H26.out h
                exact ⟨A6, c6, W1, by simp [e26], o1, o2, o3, fun h => o4 (by rw [getD_set_ne _ (by decide)] at h; exact h), fun h => o5 (by rw [getD_set_ne _ (by decide)] at h; exact h)⟩
            · -- operation 11
              cases ho
              have HUN := Lib.hid hun
              have HFF := Lib.hid (And.intro f0 ( And.intro f1 ( And.intro f2 ( And.intro f3 ( And.intro f4 ( And.intro f5 ( And.intro f6 ( And.intro f7 ( And.intro f8 ( And.intro f9 ( And.intro f10 ( And.intro f11 ( And.intro f12 ( And.intro f13 ( And.intro f14 ( And.intro f15 ( And.intro f16 ( And.intro f17 ( And.intro f18 ( And.intro f19 ( And.intro f20 ( And.intro f21 ( And.intro f22 ( And.intro f23 ( And.intro f24 (f27))))))))))))))))))))))))))
              clear f0 f1 f2 f3 f4 f5 f6 f7 f8 f9 f10 f11 f12 f13 f14 f15 f16 f17 f18 f19 f20 f21 f22 f23 f24 f27 hun
              refine Ri9.wpOp_list rfl ?_
              go_wp2
              refine (HJ3.out _ _ _).2 ⟨fun k => if k = 11 then .int .i64 (j : Int) else v k, by simp [], (fun h => HFF.out.1 (by rw [getD_set_ne _ (by decide)] at h; exact h)), (fun h => HFF.out.2.1 (by rw [getD_set_ne _ (by decide)] at h; exact h)), (fun h => HFF.out.2.2.1 (by rw [getD_set_ne _ (by decide)] at h; exact h)), (fun h => HFF.out.2.2.2.1 (by rw [getD_set_ne _ (by decide)] at h; exact h)), (fun h => HFF.out.2.2.2.2.1 (by rw [getD_set_ne _ (by decide)] at h; exact h)), (fun h => HFF.out.2.2.2.2.2.1 (by rw [getD_set_ne _ (by decide)] at h; exact h)), (fun h => HFF.out.2.2.2.2.2.2.1 (by rw [getD_set_ne _ (by decide)] at h; exact h)), (fun h => HFF.out.2.2.2.2.2.2.2.1 (by rw [getD_set_ne _ (by decide)] at h; exact h)), (fun h => HFF.out.2.2.2.2.2.2.2.2.1 (by rw [getD_set_ne _ (by decide)] at h; exact h)), (fun h => HFF.out.2.2.2.2.2.2.2.2.2.1 (by rw [getD_set_ne _ (by decide)] at h; exact h)), (fun h => HFF.out.2.2.2.2.2.2.2.2.2.2.1 (by rw [getD_set_ne _ (by decide)] at h; exact h)), (fun _ => rfl), (fun h => HFF.out.2.2.2.2.2.2.2.2.2.2.2.2.1 (by rw [getD_set_ne _ (by decide)] at h; exact h)), (fun h => HFF.out.2.2.2.2.2.2.2.2.2.2.2.2.2.1 (by rw [getD_set_ne _ (by decide)] at h; exact h)), (fun h => HFF.out.2.2.2.2.2.2.2.2.2.2.2.2.2.2.1 (by rw [getD_set_ne _ (by decide)] at h; exact h)), (fun h => HFF.out.2.2.2.2.2.2.2.2.2.2.2.2.2.2.2.1 (by rw [getD_set_ne _ (by decide)] at h; exact h)), (fun h => HFF.out.2.2.2.2.2.2.2.2.2.2.2.2.2.2.2.2.1 (by rw [getD_set_ne _ (by decide)] at h; exact h)), (fun h => HFF.out.2.2.2.2.2.2.2.2.2.2.2.2.2.2.2.2.2.1 (by rw [getD_set_ne _ (by decide)] at h; exact h)), (fun h => HFF.out.2.2.2.2.2.2.2.2.2.2.2.2.2.2.2.2.2.2.1 (by rw [getD_set_ne _ (by decide)] at h; exact h)), (fun h => HFF.out.2.2.2.2.2.2.2.2.2.2.2.2.2.2.2.2.2.2.2.1 (by rw [getD_set_ne _ (by decide)] at h; exact h)), (fun h => HFF.out.2.2.2.2.2.2.2.2.2.2.2.2.2.2.2.2.2.2.2.2.1 (by rw [getD_set_ne _ (by decide)] at h; exact h)), (fun h => HFF.out.2.2.2.2.2.2.2.2.2.2.2.2.2.2.2.2.2.2.2.2.2.1 (by rw [getD_set_ne _ (by decide)] at h; exact h)), (fun h => HFF.out.2.2.2.2.2.2.2.2.2.2.2.2.2.2.2.2.2.2.2.2.2.2.1 (by rw [getD_set_ne _ (by decide)] at h; exact h)), (fun h => HFF.out.2.2.2.2.2.2.2.2.2.2.2.2.2.2.2.2.2.2.2.2.2.2.2.1 (by rw [getD_set_ne _ (by decide)] at h; exact h)), (fun h => HFF.out.2.2.2.2.2.2.2.2.2.2.2.2.2.2.2.2.2.2.2.2.2.2.2.2.1 (by rw [getD_set_ne _ (by decide)] at h; exact h)), (fun h => HFF.out.2.2.2.2.2.2.2.2.2.2.2.2.2.2.2.2.2.2.2.2.2.2.2.2.2 (by rw [getD_set_ne _ (by decide)] at h; exact h)), HA.out, (fun h => HBW.out (by rw [getD_set_ne _ (by decide)] at h; exact h)), ?_, ?_⟩
              · intro h
                rw [getD_set_ne _ (by decide)] at h
                obtain ⟨g, e25, z1⟩ := H25.out h
                exact ⟨g, by simp [e25], fun h => z1 (by rw [getD_set_ne _ (by decide)] at h; exact h)⟩
              · intro h
                rw [getD_set_ne _ (by decide)] at h
                obtain ⟨A6, c6, W1, e26, o1, o2, o3, o4, o5⟩ := H26.out h
                exact ⟨A6, c6, W1, by simp [e26], o1, o2, o3, fun h => o4 (by rw [getD_set_ne _ (by decide)] at h; exact h), fun h => o5 (by rw [getD_set_ne _ (by decide)] at h; exact h)⟩
            · -- operation 12
              cases ho
              have e10 := f10 (HAF.out ⟨10, .data⟩ (by simp) rfl)
              have e11 := f11 (HAF.out ⟨11, .data⟩ (by simp) rfl)
              have HUN := Lib.hid hun
              have HFF := Lib.hid (And.intro f0 ( And.intro f1 ( And.intro f2 ( And.intro f3 ( And.intro f4 ( And.intro f5 ( And.intro f6 ( And.intro f7 ( And.intro f8 ( And.intro f9 ( And.intro f10 ( And.intro f11 ( And.intro f12 ( And.intro f13 ( And.intro f14 ( And.intro f15 ( And.intro f16 ( And.intro f17 ( And.intro f18 ( And.intro f19 ( And.intro f20 ( And.intro f21 ( And.intro f22 ( And.intro f23 ( And.intro f24 (f27))))))))))))))))))))))))))
              clear f0 f1 f2 f3 f4 f5 f6 f7 f8 f9 f10 f11 f12 f13 f14 f15 f16 f17 f18 f19 f20 f21 f22 f23 f24 f27 hun
              refine Ri9.wpOp_list rfl ?_
              go_wp2
              refine (HJ3.out _ _ _).2 ⟨fun k => if k = 12 then .pointer (some ⟨hy, j, none⟩) else v k, by simp [e10, e11], (fun h => HFF.out.1 (by rw [getD_set_ne _ (by decide)] at h; exact h)), (fun h => HFF.out.2.1 (by rw [getD_set_ne _ (by decide)] at h; exact h)), (fun h => HFF.out.2.2.1 (by rw [getD_set_ne _ (by decide)] at h; exact h)), (fun h => HFF.out.2.2.2.1 (by rw [getD_set_ne _ (by decide)] at h; exact h)), (fun h => HFF.out.2.2.2.2.1 (by rw [getD_set_ne _ (by decide)] at h; exact h)), (fun h => HFF.out.2.2.2.2.2.1 (by rw [getD_set_ne _ (by decide)] at h; exact h)), (fun h => HFF.out.2.2.2.2.2.2.1 (by rw [getD_set_ne _ (by decide)] at h; exact h)), (fun h => HFF.out.2.2.2.2.2.2.2.1 (by rw [getD_set_ne _ (by decide)] at h; exact h)), (fun h => HFF.out.2.2.2.2.2.2.2.2.1 (by rw [getD_set_ne _ (by decide)] at h; exact h)), (fun h => HFF.out.2.2.2.2.2.2.2.2.2.1 (by rw [getD_set_ne _ (by decide)] at h; exact h)), (fun h => HFF.out.2.2.2.2.2.2.2.2.2.2.1 (by rw [getD_set_ne _ (by decide)] at h; exact h)), (fun h => HFF.out.2.2.2.2.2.2.2.2.2.2.2.1 (by rw [getD_set_ne _ (by decide)] at h; exact h)), (fun _ => rfl), (fun h => HFF.out.2.2.2.2.2.2.2.2.2.2.2.2.2.1 (by rw [getD_set_ne _ (by decide)] at h; exact h)), (fun h => HFF.out.2.2.2.2.2.2.2.2.2.2.2.2.2.2.1 (by rw [getD_set_ne _ (by decide)] at h; exact h)), (fun h => HFF.out.2.2.2.2.2.2.2.2.2.2.2.2.2.2.2.1 (by rw [getD_set_ne _ (by decide)] at h; exact h)), (fun h => HFF.out.2.2.2.2.2.2.2.2.2.2.2.2.2.2.2.2.1 (by rw [getD_set_ne _ (by decide)] at h; exact h)), (fun h => HFF.out.2.2.2.2.2.2.2.2.2.2.2.2.2.2.2.2.2.1 (by rw [getD_set_ne _ (by decide)] at h; exact h)), (fun h => HFF.out.2.2.2.2.2.2.2.2.2.2.2.2.2.2.2.2.2.2.1 (by rw [getD_set_ne _ (by decide)] at h; exact h)), (fun h => HFF.out.2.2.2.2.2.2.2.2.2.2.2.2.2.2.2.2.2.2.2.1 (by rw [getD_set_ne _ (by decide)] at h; exact h)), (fun h => HFF.out.2.2.2.2.2.2.2.2.2.2.2.2.2.2.2.2.2.2.2.2.1 (by rw [getD_set_ne _ (by decide)] at h; exact h)), (fun h => HFF.out.2.2.2.2.2.2.2.2.2.2.2.2.2.2.2.2.2.2.2.2.2.1 (by rw [getD_set_ne _ (by decide)] at h; exact h)), (fun h => HFF.out.2.2.2.2.2.2.2.2.2.2.2.2.2.2.2.2.2.2.2.2.2.2.1 (by rw [getD_set_ne _ (by decide)] at h; exact h)), (fun h => HFF.out.2.2.2.2.2.2.2.2.2.2.2.2.2.2.2.2.2.2.2.2.2.2.2.1 (by rw [getD_set_ne _ (by decide)] at h; exact h)), (fun h => HFF.out.2.2.2.2.2.2.2.2.2.2.2.2.2.2.2.2.2.2.2.2.2.2.2.2.1 (by rw [getD_set_ne _ (by decide)] at h; exact h)), (fun h => HFF.out.2.2.2.2.2.2.2.2.2.2.2.2.2.2.2.2.2.2.2.2.2.2.2.2.2 (by rw [getD_set_ne _ (by decide)] at h; exact h)), HA.out, (fun h => HBW.out (by rw [getD_set_ne _ (by decide)] at h; exact h)), ?_, ?_⟩
              · intro h
                rw [getD_set_ne _ (by decide)] at h
                obtain ⟨g, e25, z1⟩ := H25.out h
                exact ⟨g, by simp [e25], fun h => z1 (by rw [getD_set_ne _ (by decide)] at h; exact h)⟩
              · intro h
                rw [getD_set_ne _ (by decide)] at h
                obtain ⟨A6, c6, W1, e26, o1, o2, o3, o4, o5⟩ := H26.out h
                exact ⟨A6, c6, W1, by simp [e26], o1, o2, o3, fun h => o4 (by rw [getD_set_ne _ (by decide)] at h; exact h), fun h => o5 (by rw [getD_set_ne _ (by decide)] at h; exact h)⟩
            · -- operation 13
              cases ho
              have e12 := f12 (HAF.out ⟨12, .data⟩ (by simp) rfl)
              have HUN := Lib.hid hun
              have cc := (H2.out.bel (Bel.ch HB.out HA.out (by rw [HHH.out]; exact Nat.le_refl h))).at j hjm
              rw [HXY.out.2] at cc
              have HFF := Lib.hid (And.intro f0 ( And.intro f1 ( And.intro f2 ( And.intro f3 ( And.intro f4 ( And.intro f5 ( And.intro f6 ( And.intro f7 ( And.intro f8 ( And.intro f9 ( And.intro f10 ( And.intro f11 ( And.intro f12 ( And.intro f13 ( And.intro f14 ( And.intro f15 ( And.intro f16 ( And.intro f17 ( And.intro f18 ( And.intro f19 ( And.intro f20 ( And.intro f21 ( And.intro f22 ( And.intro f23 ( And.intro f24 (f27))))))))))))))))))))))))))
              clear f0 f1 f2 f3 f4 f5 f6 f7 f8 f9 f10 f11 f12 f13 f14 f15 f16 f17 f18 f19 f20 f21 f22 f23 f24 f27 hun
              refine Ri9.wpOp_list rfl ?_
              go_wp2
              refine (HJ3.out _ _ _).2 ⟨fun k => if k = 13 then .int .i64 y else v k, by simp [e12], (fun h => HFF.out.1 (by rw [getD_set_ne _ (by decide)] at h; exact h)), (fun h => HFF.out.2.1 (by rw [getD_set_ne _ (by decide)] at h; exact h)), (fun h => HFF.out.2.2.1 (by rw [getD_set_ne _ (by decide)] at h; exact h)), (fun h => HFF.out.2.2.2.1 (by rw [getD_set_ne _ (by decide)] at h; exact h)), (fun h => HFF.out.2.2.2.2.1 (by rw [getD_set_ne _ (by decide)] at h; exact h)), (fun h => HFF.out.2.2.2.2.2.1 (by rw [getD_set_ne _ (by decide)] at h; exact h)), (fun h => HFF.out.2.2.2.2.2.2.1 (by rw [getD_set_ne _ (by decide)] at h; exact h)), (fun h => HFF.out.2.2.2.2.2.2.2.1 (by rw [getD_set_ne _ (by decide)] at h; exact h)), (fun h => HFF.out.2.2.2.2.2.2.2.2.1 (by rw [getD_set_ne _ (by decide)] at h; exact h)), (fun h => HFF.out.2.2.2.2.2.2.2.2.2.1 (by rw [getD_set_ne _ (by decide)] at h; exact h)), (fun h => HFF.out.2.2.2.2.2.2.2.2.2.2.1 (by rw [getD_set_ne _ (by decide)] at h; exact h)), (fun h => HFF.out.2.2.2.2.2.2.2.2.2.2.2.1 (by rw [getD_set_ne _ (by decide)] at h; exact h)), (fun h => HFF.out.2.2.2.2.2.2.2.2.2.2.2.2.1 (by rw [getD_set_ne _ (by decide)] at h; exact h)), (fun _ => rfl), (fun h => HFF.out.2.2.2.2.2.2.2.2.2.2.2.2.2.2.1 (by rw [getD_set_ne _ (by decide)] at h; exact h)), (fun h => HFF.out.2.2.2.2.2.2.2.2.2.2.2.2.2.2.2.1 (by rw [getD_set_ne _ (by decide)] at h; exact h)), (fun h => HFF.out.2.2.2.2.2.2.2.2.2.2.2.2.2.2.2.2.1 (by rw [getD_set_ne _ (by decide)] at h; exact h)), (fun h => HFF.out.2.2.2.2.2.2.2.2.2.2.2.2.2.2.2.2.2.1 (by rw [getD_set_ne _ (by decide)] at h; exact h)), (fun h => HFF.out.2.2.2.2.2.2.2.2.2.2.2.2.2.2.2.2.2.2.1 (by rw [getD_set_ne _ (by decide)] at h; exact h)), (fun h => HFF.out.2.2.2.2.2.2.2.2.2.2.2.2.2.2.2.2.2.2.2.1 (by rw [getD_set_ne _ (by decide)] at h; exact h)), (fun h => HFF.out.2.2.2.2.2.2.2.2.2.2.2.2.2.2.2.2.2.2.2.2.1 (by rw [getD_set_ne _ (by decide)] at h; exact h)), (fun h => HFF.out.2.2.2.2.2.2.2.2.2.2.2.2.2.2.2.2.2.2.2.2.2.1 (by rw [getD_set_ne _ (by decide)] at h; exact h)), (fun h => HFF.out.2.2.2.2.2.2.2.2.2.2.2.2.2.2.2.2.2.2.2.2.2.2.1 (by rw [getD_set_ne _ (by decide)] at h; exact h)), (fun h => HFF.out.2.2.2.2.2.2.2.2.2.2.2.2.2.2.2.2.2.2.2.2.2.2.2.1 (by rw [getD_set_ne _ (by decide)] at h; exact h)), (fun h => HFF.out.2.2.2.2.2.2.2.2.2.2.2.2.2.2.2.2.2.2.2.2.2.2.2.2.1 (by rw [getD_set_ne _ (by decide)] at h; exact h)), (fun h => HFF.out.2.2.2.2.2.2.2.2.2.2.2.2.2.2.2.2.2.2.2.2.2.2.2.2.2 (by rw [getD_set_ne _ (by decide)] at h; exact h)), HA.out, (fun h => HBW.out (by rw [getD_set_ne _ (by decide)] at h; exact h)), ?_, ?_⟩
              · intro h
                rw [getD_set_ne _ (by decide)] at h
                obtain ⟨g, e25, z1⟩ := H25.out h
                exact ⟨g, by simp [e25], fun h => z1 (by rw [getD_set_ne _ (by decide)] at h; exact h)⟩
              · intro h
                rw [getD_set_ne _ (by decide)] at h
                obtain ⟨A6, c6, W1, e26, o1, o2, o3, o4, o5⟩ := H26.out h
                exact ⟨A6, c6, W1, by simp [e26], o1, o2, o3, fun h => o4 (by rw [getD_set_ne _ (by decide)] at h; exact h), fun h => o5 (by rw [getD_set_ne _ (by decide)] at h; exact h)⟩
            · -- operation 14
              cases ho
              have e9 := f9 (HAF.out ⟨9, .data⟩ (by simp) rfl)
              have e13 := f13 (HAF.out ⟨13, .data⟩ (by simp) rfl)
              have HUN := Lib.hid hun
              have HFF := Lib.hid (And.intro f0 ( And.intro f1 ( And.intro f2 ( And.intro f3 ( And.intro f4 ( And.intro f5 ( And.intro f6 ( And.intro f7 ( And.intro f8 ( And.intro f9 ( And.intro f10 ( And.intro f11 ( And.intro f12 ( And.intro f13 ( And.intro f14 ( And.intro f15 ( And.intro f16 ( And.intro f17 ( And.intro f18 ( And.intro f19 ( And.intro f20 ( And.intro f21 ( And.intro f22 ( And.intro f23 ( And.intro f24 (f27))))))))))))))))))))))))))
              clear f0 f1 f2 f3 f4 f5 f6 f7 f8 f9 f10 f11 f12 f13 f14 f15 f16 f17 f18 f19 f20 f21 f22 f23 f24 f27 hun
              refine Ri9.wpOp_list rfl ?_
              go_wp2
              refine (HJ3.out _ _ _).2 ⟨fun k => if k = 14 then .int .i64 d else v k, by simp [e9, e13, hd, wd], (fun h => HFF.out.1 (by rw [getD_set_ne _ (by decide)] at h; exact h)), (fun h => HFF.out.2.1 (by rw [getD_set_ne _ (by decide)] at h; exact h)), (fun h => HFF.out.2.2.1 (by rw [getD_set_ne _ (by decide)] at h; exact h)), (fun h => HFF.out.2.2.2.1 (by rw [getD_set_ne _ (by decide)] at h; exact h)), (fun h => HFF.out.2.2.2.2.1 (by rw [getD_set_ne _ (by decide)] at h; exact h)), (fun h => HFF.out.2.2.2.2.2.1 (by rw [getD_set_ne _ (by decide)] at h; exact h)), (fun h => HFF.out.2.2.2.2.2.2.1 (by rw [getD_set_ne _ (by decide)] at h; exact h)), (fun h => HFF.out.2.2.2.2.2.2.2.1 (by rw [getD_set_ne _ (by decide)] at h; exact h)), (fun h => HFF.out.2.2.2.2.2.2.2.2.1 (by rw [getD_set_ne _ (by decide)] at h; exact h)), (fun h => HFF.out.2.2.2.2.2.2.2.2.2.1 (by rw [getD_set_ne _ (by decide)] at h; exact h)), (fun h => HFF.out.2.2.2.2.2.2.2.2.2.2.1 (by rw [getD_set_ne _ (by decide)] at h; exact h)), (fun h => HFF.out.2.2.2.2.2.2.2.2.2.2.2.1 (by rw [getD_set_ne _ (by decide)] at h; exact h)), (fun h => HFF.out.2.2.2.2.2.2.2.2.2.2.2.2.1 (by rw [getD_set_ne _ (by decide)] at h; exact h)), (fun h => HFF.out.2.2.2.2.2.2.2.2.2.2.2.2.2.1 (by rw [getD_set_ne _ (by decide)] at h; exact h)), (fun _ => rfl), (fun h => HFF.out.2.2.2.2.2.2.2.2.2.2.2.2.2.2.2.1 (by rw [getD_set_ne _ (by decide)] at h; exact h)), (fun h => HFF.out.2.2.2.2.2.2.2.2.2.2.2.2.2.2.2.2.1 (by rw [getD_set_ne _ (by decide)] at h; exact h)), (fun h => HFF.out.2.2.2.2.2.2.2.2.2.2.2.2.2.2.2.2.2.1 (by rw [getD_set_ne _ (by decide)] at h; exact h)), (fun h => HFF.out.2.2.2.2.2.2.2.2.2.2.2.2.2.2.2.2.2.2.1 (by rw [getD_set_ne _ (by decide)] at h; exact h)), (fun h => HFF.out.2.2.2.2.2.2.2.2.2.2.2.2.2.2.2.2.2.2.2.1 (by rw [getD_set_ne _ (by decide)] at h; exact h)), (fun h => HFF.out.2.2.2.2.2.2.2.2.2.2.2.2.2.2.2.2.2.2.2.2.1 (by rw [getD_set_ne _ (by decide)] at h; exact h)), (fun h => HFF.out.2.2.2.2.2.2.2.2.2.2.2.2.2.2.2.2.2.2.2.2.2.1 (by rw [getD_set_ne _ (by decide)] at h; exact h)), (fun h => HFF.out.2.2.2.2.2.2.2.2.2.2.2.2.2.2.2.2.2.2.2.2.2.2.1 (by rw [getD_set_ne _ (by decide)] at h; exact h)), (fun h => HFF.out.2.2.2.2.2.2.2.2.2.2.2.2.2.2.2.2.2.2.2.2.2.2.2.1 (by rw [getD_set_ne _ (by decide)] at h; exact h)), (fun h => HFF.out.2.2.2.2.2.2.2.2.2.2.2.2.2.2.2.2.2.2.2.2.2.2.2.2.1 (by rw [getD_set_ne _ (by decide)] at h; exact h)), (fun h => HFF.out.2.2.2.2.2.2.2.2.2.2.2.2.2.2.2.2.2.2.2.2.2.2.2.2.2 (by rw [getD_set_ne _ (by decide)] at h; exact h)), HA.out, (fun h => HBW.out (by rw [getD_set_ne _ (by decide)] at h; exact h)), ?_, ?_⟩
              · intro h
                rw [getD_set_ne _ (by decide)] at h
                obtain ⟨g, e25, z1⟩ := H25.out h
                exact ⟨g, by simp [e25], fun h => z1 (by rw [getD_set_ne _ (by decide)] at h; exact h)⟩
              · intro h
                rw [getD_set_ne _ (by decide)] at h
                obtain ⟨A6, c6, W1, e26, o1, o2, o3, o4, o5⟩ := H26.out h
                exact ⟨A6, c6, W1, by simp [e26], o1, o2, o3, fun h => o4 (by rw [getD_set_ne _ (by decide)] at h; exact h), fun h => o5 (by rw [getD_set_ne _ (by decide)] at h; exact h)⟩
            · -- operation 15
              cases ho
              have HUN := Lib.hid hun
              have HFF := Lib.hid (And.intro f0 ( And.intro f1 ( And.intro f2 ( And.intro f3 ( And.intro f4 ( And.intro f5 ( And.intro f6 ( And.intro f7 ( And.intro f8 ( And.intro f9 ( And.intro f10 ( And.intro f11 ( And.intro f12 ( And.intro f13 ( And.intro f14 ( And.intro f15 ( And.intro f16 ( And.intro f17 ( And.intro f18 ( And.intro f19 ( And.intro f20 ( And.intro f21 ( And.intro f22 ( And.intro f23 ( And.intro f24 (f27))))))))))))))))))))))))))
              clear f0 f1 f2 f3 f4 f5 f6 f7 f8 f9 f10 f11 f12 f13 f14 f15 f16 f17 f18 f19 f20 f21 f22 f23 f24 f27 hun
              refine Ri9.wpOp_list rfl ?_
              go_wp2
              refine (HJ3.out _ _ _).2 ⟨fun k => if k = 15 then .slice (some ⟨hx, 0, none⟩) n c else v k, by simp [], (fun h => HFF.out.1 (by rw [getD_set_ne _ (by decide)] at h; exact h)), (fun h => HFF.out.2.1 (by rw [getD_set_ne _ (by decide)] at h; exact h)), (fun h => HFF.out.2.2.1 (by rw [getD_set_ne _ (by decide)] at h; exact h)), (fun h => HFF.out.2.2.2.1 (by rw [getD_set_ne _ (by decide)] at h; exact h)), (fun h => HFF.out.2.2.2.2.1 (by rw [getD_set_ne _ (by decide)] at h; exact h)), (fun h => HFF.out.2.2.2.2.2.1 (by rw [getD_set_ne _ (by decide)] at h; exact h)), (fun h => HFF.out.2.2.2.2.2.2.1 (by rw [getD_set_ne _ (by decide)] at h; exact h)), (fun h => HFF.out.2.2.2.2.2.2.2.1 (by rw [getD_set_ne _ (by decide)] at h; exact h)), (fun h => HFF.out.2.2.2.2.2.2.2.2.1 (by rw [getD_set_ne _ (by decide)] at h; exact h)), (fun h => HFF.out.2.2.2.2.2.2.2.2.2.1 (by rw [getD_set_ne _ (by decide)] at h; exact h)), (fun h => HFF.out.2.2.2.2.2.2.2.2.2.2.1 (by rw [getD_set_ne _ (by decide)] at h; exact h)), (fun h => HFF.out.2.2.2.2.2.2.2.2.2.2.2.1 (by rw [getD_set_ne _ (by decide)] at h; exact h)), (fun h => HFF.out.2.2.2.2.2.2.2.2.2.2.2.2.1 (by rw [getD_set_ne _ (by decide)] at h; exact h)), (fun h => HFF.out.2.2.2.2.2.2.2.2.2.2.2.2.2.1 (by rw [getD_set_ne _ (by decide)] at h; exact h)), (fun h => HFF.out.2.2.2.2.2.2.2.2.2.2.2.2.2.2.1 (by rw [getD_set_ne _ (by decide)] at h; exact h)), (fun _ => rfl), (fun h => HFF.out.2.2.2.2.2.2.2.2.2.2.2.2.2.2.2.2.1 (by rw [getD_set_ne _ (by decide)] at h; exact h)), (fun h => HFF.out.2.2.2.2.2.2.2.2.2.2.2.2.2.2.2.2.2.1 (by rw [getD_set_ne _ (by decide)] at h; exact h)), (fun h => HFF.out.2.2.2.2.2.2.2.2.2.2.2.2.2.2.2.2.2.2.1 (by rw [getD_set_ne _ (by decide)] at h; exact h)), (fun h => HFF.out.2.2.2.2.2.2.2.2.2.2.2.2.2.2.2.2.2.2.2.1 (by rw [getD_set_ne _ (by decide)] at h; exact h)), (fun h => HFF.out.2.2.2.2.2.2.2.2.2.2.2.2.2.2.2.2.2.2.2.2.1 (by rw [getD_set_ne _ (by decide)] at h; exact h)), (fun h => HFF.out.2.2.2.2.2.2.2.2.2.2.2.2.2.2.2.2.2.2.2.2.2.1 (by rw [getD_set_ne _ (by decide)] at h; exact h)), (fun h => HFF.out.2.2.2.2.2.2.2.2.2.2.2.2.2.2.2.2.2.2.2.2.2.2.1 (by rw [getD_set_ne _ (by decide)] at h; exact h)), (fun h => HFF.out.2.2.2.2.2.2.2.2.2.2.2.2.2.2.2.2.2.2.2.2.2.2.2.1 (by rw [getD_set_ne _ (by decide)] at h; exact h)), (fun h => HFF.out.2.2.2.2.2.2.2.2.2.2.2.2.2.2.2.2.2.2.2.2.2.2.2.2.1 (by rw [getD_set_ne _ (by decide)] at h; exact h)), (fun h => HFF.out.2.2.2.2.2.2.2.2.2.2.2.2.2.2.2.2.2.2.2.2.2.2.2.2.2 (by rw [getD_set_ne _ (by decide)] at h; exact h)), HA.out, (fun h => HBW.out (by rw [getD_set_ne _ (by decide)] at h; exact h)), ?_, ?_⟩
              · intro h
                rw [getD_set_ne _ (by decide)] at h
                obtain ⟨g, e25, z1⟩ := H25.out h
                exact ⟨g, by simp [e25], fun h => z1 (by rw [getD_set_ne _ (by decide)] at h; exact h)⟩
              · intro h
                rw [getD_set_ne _ (by decide)] at h
                obtain ⟨A6, c6, W1, e26, o1, o2, o3, o4, o5⟩ := H26.out h
                exact ⟨A6, c6, W1, by simp [e26], o1, o2, o3, fun h => o4 (by rw [getD_set_ne _ (by decide)] at h; exact h), fun h => o5 (by rw [getD_set_ne _ (by decide)] at h; exact h)⟩
            · -- operation 16
              cases ho
              have HUN := Lib.hid hun
              have HFF := Lib.hid (And.intro f0 ( And.intro f1 ( And.intro f2 ( And.intro f3 ( And.intro f4 ( And.intro f5 ( And.intro f6 ( And.intro f7 ( And.intro f8 ( And.intro f9 ( And.intro f10 ( And.intro f11 ( And.intro f12 ( And.intro f13 ( And.intro f14 ( And.intro f15 ( And.intro f16 ( And.intro f17 ( And.intro f18 ( And.intro f19 ( And.intro f20 ( And.intro f21 ( And.intro f22 ( And.intro f23 ( And.intro f24 (f27))))))))))))))))))))))))))
              clear f0 f1 f2 f3 f4 f5 f6 f7 f8 f9 f10 f11 f12 f13 f14 f15 f16 f17 f18 f19 f20 f21 f22 f23 f24 f27 hun
              refine Ri9.wpOp_list rfl ?_
              go_wp2
              refine (HJ3.out _ _ _).2 ⟨fun k => if k = 16 then .int .i64 (i : Int) else v k, by simp [], (fun h => HFF.out.1 (by rw [getD_set_ne _ (by decide)] at h; exact h)), (fun h => HFF.out.2.1 (by rw [getD_set_ne _ (by decide)] at h; exact h)), (fun h => HFF.out.2.2.1 (by rw [getD_set_ne _ (by decide)] at h; exact h)), (fun h => HFF.out.2.2.2.1 (by rw [getD_set_ne _ (by decide)] at h; exact h)), (fun h => HFF.out.2.2.2.2.1 (by rw [getD_set_ne _ (by decide)] at h; exact h)), (fun h => HFF.out.2.2.2.2.2.1 (by rw [getD_set_ne _ (by decide)] at h; exact h)), (fun h => HFF.out.2.2.2.2.2.2.1 (by rw [getD_set_ne _ (by decide)] at h; exact h)), (fun h => HFF.out.2.2.2.2.2.2.2.1 (by rw [getD_set_ne _ (by decide)] at h; exact h)), (fun h => HFF.out.2.2.2.2.2.2.2.2.1 (by rw [getD_set_ne _ (by decide)] at h; exact h)), (fun h => HFF.out.2.2.2.2.2.2.2.2.2.1 (by rw [getD_set_ne _ (by decide)] at h; exact h)), (fun h => HFF.out.2.2.2.2.2.2.2.2.2.2.1 (by rw [getD_set_ne _ (by decide)] at h; exact h)), (fun h => HFF.out.2.2.2.2.2.2.2.2.2.2.2.1 (by rw [getD_set_ne _ (by decide)] at h; exact h)), (fun h => HFF.out.2.2.2.2.2.2.2.2.2.2.2.2.1 (by rw [getD_set_ne _ (by decide)] at h; exact h)), (fun h => HFF.out.2.2.2.2.2.2.2.2.2.2.2.2.2.1 (by rw [getD_set_ne _ (by decide)] at h; exact h)), (fun h => HFF.out.2.2.2.2.2.2.2.2.2.2.2.2.2.2.1 (by rw [getD_set_ne _ (by decide)] at h; exact h)), (fun h => HFF.out.2.2.2.2.2.2.2.2.2.2.2.2.2.2.2.1 (by rw [getD_set_ne _ (by decide)] at h; exact h)), (fun _ => rfl), (fun h => HFF.out.2.2.2.2.2.2.2.2.2.2.2.2.2.2.2.2.2.1 (by rw [getD_set_ne _ (by decide)] at h; exact h)), (fun h => HFF.out.2.2.2.2.2.2.2.2.2.2.2.2.2.2.2.2.2.2.1 (by rw [getD_set_ne _ (by decide)] at h; exact h)), (fun h => HFF.out.2.2.2.2.2.2.2.2.2.2.2.2.2.2.2.2.2.2.2.1 (by rw [getD_set_ne _ (by decide)] at h; exact h)), (fun h => HFF.out.2.2.2.2.2.2.2.2.2.2.2.2.2.2.2.2.2.2.2.2.1 (by rw [getD_set_ne _ (by decide)] at h; exact h)), (fun h => HFF.out.2.2.2.2.2.2.2.2.2.2.2.2.2.2.2.2.2.2.2.2.2.1 (by rw [getD_set_ne _ (by decide)] at h; exact h)), (fun h => HFF.out.2.2.2.2.2.2.2.2.2.2.2.2.2.2.2.2.2.2.2.2.2.2.1 (by rw [getD_set_ne _ (by decide)] at h; exact h)), (fun h => HFF.out.2.2.2.2.2.2.2.2.2.2.2.2.2.2.2.2.2.2.2.2.2.2.2.1 (by rw [getD_set_ne _ (by decide)] at h; exact h)), (fun h => HFF.out.2.2.2.2.2.2.2.2.2.2.2.2.2.2.2.2.2.2.2.2.2.2.2.2.1 (by rw [getD_set_ne _ (by decide)] at h; exact h)), (fun h => HFF.out.2.2.2.2.2.2.2.2.2.2.2.2.2.2.2.2.2.2.2.2.2.2.2.2.2 (by rw [getD_set_ne _ (by decide)] at h; exact h)), HA.out, (fun h => HBW.out (by rw [getD_set_ne _ (by decide)] at h; exact h)), ?_, ?_⟩
              · intro h
                rw [getD_set_ne _ (by decide)] at h
                obtain ⟨g, e25, z1⟩ := H25.out h
                exact ⟨g, by simp [e25], fun h => z1 (by rw [getD_set_ne _ (by decide)] at h; exact h)⟩
              · intro h
                rw [getD_set_ne _ (by decide)] at h
                obtain ⟨A6, c6, W1, e26, o1, o2, o3, o4, o5⟩ := H26.out h
                exact ⟨A6, c6, W1, by simp [e26], o1, o2, o3, fun h => o4 (by rw [getD_set_ne _ (by decide)] at h; exact h), fun h => o5 (by rw [getD_set_ne _ (by decide)] at h; exact h)⟩
            · -- operation 17
              cases ho
              have e15 := f15 (HAF.out ⟨15, .data⟩ (by simp) rfl)
              have e16 := f16 (HAF.out ⟨16, .data⟩ (by simp) rfl)
              have HUN := Lib.hid hun
              have HFF := Lib.hid (And.intro f0 ( And.intro f1 ( And.intro f2 ( And.intro f3 ( And.intro f4 ( And.intro f5 ( And.intro f6 ( And.intro f7 ( And.intro f8 ( And.intro f9 ( And.intro f10 ( And.intro f11 ( And.intro f12 ( And.intro f13 ( And.intro f14 ( And.intro f15 ( And.intro f16 ( And.intro f17 ( And.intro f18 ( And.intro f19 ( And.intro f20 ( And.intro f21 ( And.intro f22 ( And.intro f23 ( And.intro f24 (f27))))))))))))))))))))))))))
              clear f0 f1 f2 f3 f4 f5 f6 f7 f8 f9 f10 f11 f12 f13 f14 f15 f16 f17 f18 f19 f20 f21 f22 f23 f24 f27 hun
              refine Ri9.wpOp_list rfl ?_
              go_wp2
              refine (HJ3.out _ _ _).2 ⟨fun k => if k = 17 then .pointer (some ⟨hx, i, none⟩) else v k, by simp [e15, e16], (fun h => HFF.out.1 (by rw [getD_set_ne _ (by decide)] at h; exact h)), (fun h => HFF.out.2.1 (by rw [getD_set_ne _ (by decide)] at h; exact h)), (fun h => HFF.out.2.2.1 (by rw [getD_set_ne _ (by decide)] at h; exact h)), (fun h => HFF.out.2.2.2.1 (by rw [getD_set_ne _ (by decide)] at h; exact h)), (fun h => HFF.out.2.2.2.2.1 (by rw [getD_set_ne _ (by decide)] at h; exact h)), (fun h => HFF.out.2.2.2.2.2.1 (by rw [getD_set_ne _ (by decide)] at h; exact h)), (fun h => HFF.out.2.2.2.2.2.2.1 (by rw [getD_set_ne _ (by decide)] at h; exact h)), (fun h => HFF.out.2.2.2.2.2.2.2.1 (by rw [getD_set_ne _ (by decide)] at h; exact h)), (fun h => HFF.out.2.2.2.2.2.2.2.2.1 (by rw [getD_set_ne _ (by decide)] at h; exact h)), (fun h => HFF.out.2.2.2.2.2.2.2.2.2.1 (by rw [getD_set_ne _ (by decide)] at h; exact h)), (fun h => HFF.out.2.2.2.2.2.2.2.2.2.2.1 (by rw [getD_set_ne _ (by decide)] at h; exact h)), (fun h => HFF.out.2.2.2.2.2.2.2.2.2.2.2.1 (by rw [getD_set_ne _ (by decide)] at h; exact h)), (fun h => HFF.out.2.2.2.2.2.2.2.2.2.2.2.2.1 (by rw [getD_set_ne _ (by decide)] at h; exact h)), (fun h => HFF.out.2.2.2.2.2.2.2.2.2.2.2.2.2.1 (by rw [getD_set_ne _ (by decide)] at h; exact h)), (fun h => HFF.out.2.2.2.2.2.2.2.2.2.2.2.2.2.2.1 (by rw [getD_set_ne _ (by decide)] at h; exact h)), (fun h => HFF.out.2.2.2.2.2.2.2.2.2.2.2.2.2.2.2.1 (by rw [getD_set_ne _ (by decide)] at h; exact h)), (fun h => HFF.out.2.2.2.2.2.2.2.2.2.2.2.2.2.2.2.2.1 (by rw [getD_set_ne _ (by decide)] at h; exact h)), (fun _ => rfl), (fun h => HFF.out.2.2.2.2.2.2.2.2.2.2.2.2.2.2.2.2.2.2.1 (by rw [getD_set_ne _ (by decide)] at h; exact h)), (fun h => HFF.out.2.2.2.2.2.2.2.2.2.2.2.2.2.2.2.2.2.2.2.1 (by rw [getD_set_ne _ (by decide)] at h; exact h)), (fun h => HFF.out.2.2.2.2.2.2.2.2.2.2.2.2.2.2.2.2.2.2.2.2.1 (by rw [getD_set_ne _ (by decide)] at h; exact h)), (fun h => HFF.out.2.2.2.2.2.2.2.2.2.2.2.2.2.2.2.2.2.2.2.2.2.1 (by rw [getD_set_ne _ (by decide)] at h; exact h)), (fun h => HFF.out.2.2.2.2.2.2.2.2.2.2.2.2.2.2.2.2.2.2.2.2.2.2.1 (by rw [getD_set_ne _ (by decide)] at h; exact h)), (fun h => HFF.out.2.2.2.2.2.2.2.2.2.2.2.2.2.2.2.2.2.2.2.2.2.2.2.1 (by rw [getD_set_ne _ (by decide)] at h; exact h)), (fun h => HFF.out.2.2.2.2.2.2.2.2.2.2.2.2.2.2.2.2.2.2.2.2.2.2.2.2.1 (by rw [getD_set_ne _ (by decide)] at h; exact h)), (fun h => HFF.out.2.2.2.2.2.2.2.2.2.2.2.2.2.2.2.2.2.2.2.2.2.2.2.2.2 (by rw [getD_set_ne _ (by decide)] at h; exact h)), HA.out, (fun h => HBW.out (by rw [getD_set_ne _ (by decide)] at h; exact h)), ?_, ?_⟩
              · intro h
                rw [getD_set_ne _ (by decide)] at h
                obtain ⟨g, e25, z1⟩ := H25.out h
                exact ⟨g, by simp [e25], fun h => z1 (by rw [getD_set_ne _ (by decide)] at h; exact h)⟩
              · intro h
                rw [getD_set_ne _ (by decide)] at h
                obtain ⟨A6, c6, W1, e26, o1, o2, o3, o4, o5⟩ := H26.out h
                exact ⟨A6, c6, W1, by simp [e26], o1, o2, o3, fun h => o4 (by rw [getD_set_ne _ (by decide)] at h; exact h), fun h => o5 (by rw [getD_set_ne _ (by decide)] at h; exact h)⟩
            · -- operation 18
              cases ho
              have e17 := f17 (HAF.out ⟨17, .data⟩ (by simp) rfl)
              have HUN := Lib.hid hun
              have cc := (H1.out.bel (Bel.ch HB.out HA.out (by rw [HHH.out]; exact Nat.le_refl h))).at i hin
              rw [HXY.out.1] at cc
              have HFF := Lib.hid (And.intro f0 ( And.intro f1 ( And.intro f2 ( And.intro f3 ( And.intro f4 ( And.intro f5 ( And.intro f6 ( And.intro f7 ( And.intro f8 ( And.intro f9 ( And.intro f10 ( And.intro f11 ( And.intro f12 ( And.intro f13 ( And.intro f14 ( And.intro f15 ( And.intro f16 ( And.intro f17 ( And.intro f18 ( And.intro f19 ( And.intro f20 ( And.intro f21 ( And.intro f22 ( And.intro f23 ( And.intro f24 (f27))))))))))))))))))))))))))
              clear f0 f1 f2 f3 f4 f5 f6 f7 f8 f9 f10 f11 f12 f13 f14 f15 f16 f17 f18 f19 f20 f21 f22 f23 f24 f27 hun
              refine Ri9.wpOp_list rfl ?_
              go_wp2
              refine (HJ3.out _ _ _).2 ⟨fun k => if k = 18 then .int .i64 x else v k, by simp [e17], (fun h => HFF.out.1 (by rw [getD_set_ne _ (by decide)] at h; exact h)), (fun h => HFF.out.2.1 (by rw [getD_set_ne _ (by decide)] at h; exact h)), (fun h => HFF.out.2.2.1 (by rw [getD_set_ne _ (by decide)] at h; exact h)), (fun h => HFF.out.2.2.2.1 (by rw [getD_set_ne _ (by decide)] at h; exact h)), (fun h => HFF.out.2.2.2.2.1 (by rw [getD_set_ne _ (by decide)] at h; exact h)), (fun h => HFF.out.2.2.2.2.2.1 (by rw [getD_set_ne _ (by decide)] at h; exact h)), (fun h => HFF.out.2.2.2.2.2.2.1 (by rw [getD_set_ne _ (by decide)] at h; exact h)), (fun h => HFF.out.2.2.2.2.2.2.2.1 (by rw [getD_set_ne _ (by decide)] at h; exact h)), (fun h => HFF.out.2.2.2.2.2.2.2.2.1 (by rw [getD_set_ne _ (by decide)] at h; exact h)), (fun h => HFF.out.2.2.2.2.2.2.2.2.2.1 (by rw [getD_set_ne _ (by decide)] at h; exact h)), (fun h => HFF.out.2.2.2.2.2.2.2.2.2.2.1 (by rw [getD_set_ne _ (by decide)] at h; exact h)), (fun h => HFF.out.2.2.2.2.2.2.2.2.2.2.2.1 (by rw [getD_set_ne _ (by decide)] at h; exact h)), (fun h => HFF.out.2.2.2.2.2.2.2.2.2.2.2.2.1 (by rw [getD_set_ne _ (by decide)] at h; exact h)), (fun h => HFF.out.2.2.2.2.2.2.2.2.2.2.2.2.2.1 (by rw [getD_set_ne _ (by decide)] at h; exact h)), (fun h => HFF.out.2.2.2.2.2.2.2.2.2.2.2.2.2.2.1 (by rw [getD_set_ne _ (by decide)] at h; exact h)), (fun h => HFF.out.2.2.2.2.2.2.2.2.2.2.2.2.2.2.2.1 (by rw [getD_set_ne _ (by decide)] at h; exact h)), (fun h => HFF.out.2.2.2.2.2.2.2.2.2.2.2.2.2.2.2.2.1 (by rw [getD_set_ne _ (by decide)] at h; exact h)), (fun h => HFF.out.2.2.2.2.2.2.2.2.2.2.2.2.2.2.2.2.2.1 (by rw [getD_set_ne _ (by decide)] at h; exact h)), (fun _ => rfl), (fun h => HFF.out.2.2.2.2.2.2.2.2.2.2.2.2.2.2.2.2.2.2.2.1 (by rw [getD_set_ne _ (by decide)] at h; exact h)), (fun h => HFF.out.2.2.2.2.2.2.2.2.2.2.2.2.2.2.2.2.2.2.2.2.1 (by rw [getD_set_ne _ (by decide)] at h; exact h)), (fun h => HFF.out.2.2.2.2.2.2.2.2.2.2.2.2.2.2.2.2.2.2.2.2.2.1 (by rw [getD_set_ne _ (by decide)] at h; exact h)), (fun h => HFF.out.2.2.2.2.2.2.2.2.2.2.2.2.2.2.2.2.2.2.2.2.2.2.1 (by rw [getD_set_ne _ (by decide)] at h; exact h)), (fun h => HFF.out.2.2.2.2.2.2.2.2.2.2.2.2.2.2.2.2.2.2.2.2.2.2.2.1 (by rw [getD_set_ne _ (by decide)] at h; exact h)), (fun h => HFF.out.2.2.2.2.2.2.2.2.2.2.2.2.2.2.2.2.2.2.2.2.2.2.2.2.1 (by rw [getD_set_ne _ (by decide)] at h; exact h)), (fun h => HFF.out.2.2.2.2.2.2.2.2.2.2.2.2.2.2.2.2.2.2.2.2.2.2.2.2.2 (by rw [getD_set_ne _ (by decide)] at h; exact h)), HA.out, (fun h => HBW.out (by rw [getD_set_ne _ (by decide)] at h; exact h)), ?_, ?_⟩
              · intro h
                rw [getD_set_ne _ (by decide)] at h
                obtain ⟨g, e25, z1⟩ := H25.out h
                exact ⟨g, by simp [e25], fun h => z1 (by rw [getD_set_ne _ (by decide)] at h; exact h)⟩
              · intro h
                rw [getD_set_ne _ (by decide)] at h
                obtain ⟨A6, c6, W1, e26, o1, o2, o3, o4, o5⟩ := H26.out h
                exact ⟨A6, c6, W1, by simp [e26], o1, o2, o3, fun h => o4 (by rw [getD_set_ne _ (by decide)] at h; exact h), fun h => o5 (by rw [getD_set_ne _ (by decide)] at h; exact h)⟩
            · -- operation 19
              cases ho
              have HUN := Lib.hid hun
              have HFF := Lib.hid (And.intro f0 ( And.intro f1 ( And.intro f2 ( And.intro f3 ( And.intro f4 ( And.intro f5 ( And.intro f6 ( And.intro f7 ( And.intro f8 ( And.intro f9 ( And.intro f10 ( And.intro f11 ( And.intro f12 ( And.intro f13 ( And.intro f14 ( And.intro f15 ( And.intro f16 ( And.intro f17 ( And.intro f18 ( And.intro f19 ( And.intro f20 ( And.intro f21 ( And.intro f22 ( And.intro f23 ( And.intro f24 (f27))))))))))))))))))))))))))
              clear f0 f1 f2 f3 f4 f5 f6 f7 f8 f9 f10 f11 f12 f13 f14 f15 f16 f17 f18 f19 f20 f21 f22 f23 f24 f27 hun
              refine Ri9.wpOp_list rfl ?_
              go_wp2
              refine (HJ3.out _ _ _).2 ⟨fun k => if k = 19 then .slice (some ⟨hy, 0, none⟩) m c' else v k, by simp [], (fun h => HFF.out.1 (by rw [getD_set_ne _ (by decide)] at h; exact h)), (fun h => HFF.out.2.1 (by rw [getD_set_ne _ (by decide)] at h; exact h)), (fun h => HFF.out.2.2.1 (by rw [getD_set_ne _ (by decide)] at h; exact h)), (fun h => HFF.out.2.2.2.1 (by rw [getD_set_ne _ (by decide)] at h; exact h)), (fun h => HFF.out.2.2.2.2.1 (by rw [getD_set_ne _ (by decide)] at h; exact h)), (fun h => HFF.out.2.2.2.2.2.1 (by rw [getD_set_ne _ (by decide)] at h; exact h)), (fun h => HFF.out.2.2.2.2.2.2.1 (by rw [getD_set_ne _ (by decide)] at h; exact h)), (fun h => HFF.out.2.2.2.2.2.2.2.1 (by rw [getD_set_ne _ (by decide)] at h; exact h)), (fun h => HFF.out.2.2.2.2.2.2.2.2.1 (by rw [getD_set_ne _ (by decide)] at h; exact h)), (fun h => HFF.out.2.2.2.2.2.2.2.2.2.1 (by rw [getD_set_ne _ (by decide)] at h; exact h)), (fun h => HFF.out.2.2.2.2.2.2.2.2.2.2.1 (by rw [getD_set_ne _ (by decide)] at h; exact h)), (fun h => HFF.out.2.2.2.2.2.2.2.2.2.2.2.1 (by rw [getD_set_ne _ (by decide)] at h; exact h)), (fun h => HFF.out.2.2.2.2.2.2.2.2.2.2.2.2.1 (by rw [getD_set_ne _ (by decide)] at h; exact h)), (fun h => HFF.out.2.2.2.2.2.2.2.2.2.2.2.2.2.1 (by rw [getD_set_ne _ (by decide)] at h; exact h)), (fun h => HFF.out.2.2.2.2.2.2.2.2.2.2.2.2.2.2.1 (by rw [getD_set_ne _ (by decide)] at h; exact h)), (fun h => HFF.out.2.2.2.2.2.2.2.2.2.2.2.2.2.2.2.1 (by rw [getD_set_ne _ (by decide)] at h; exact h)), (fun h => HFF.out.2.2.2.2.2.2.2.2.2.2.2.2.2.2.2.2.1 (by rw [getD_set_ne _ (by decide)] at h; exact h)), (fun h => HFF.out.2.2.2.2.2.2.2.2.2.2.2.2.2.2.2.2.2.1 (by rw [getD_set_ne _ (by decide)] at h; exact h)), (fun h => HFF.out.2.2.2.2.2.2.2.2.2.2.2.2.2.2.2.2.2.2.1 (by rw [getD_set_ne _ (by decide)] at h; exact h)), (fun _ => rfl), (fun h => HFF.out.2.2.2.2.2.2.2.2.2.2.2.2.2.2.2.2.2.2.2.2.1 (by rw [getD_set_ne _ (by decide)] at h; exact h)), (fun h => HFF.out.2.2.2.2.2.2.2.2.2.2.2.2.2.2.2.2.2.2.2.2.2.1 (by rw [getD_set_ne _ (by decide)] at h; exact h)), (fun h => HFF.out.2.2.2.2.2.2.2.2.2.2.2.2.2.2.2.2.2.2.2.2.2.2.1 (by rw [getD_set_ne _ (by decide)] at h; exact h)), (fun h => HFF.out.2.2.2.2.2.2.2.2.2.2.2.2.2.2.2.2.2.2.2.2.2.2.2.1 (by rw [getD_set_ne _ (by decide)] at h; exact h)), (fun h => HFF.out.2.2.2.2.2.2.2.2.2.2.2.2.2.2.2.2.2.2.2.2.2.2.2.2.1 (by rw [getD_set_ne _ (by decide)] at h; exact h)), (fun h => HFF.out.2.2.2.2.2.2.2.2.2.2.2.2.2.2.2.2.2.2.2.2.2.2.2.2.2 (by rw [getD_set_ne _ (by decide)] at h; exact h)), HA.out, (fun h => HBW.out (by rw [getD_set_ne _ (by decide)] at h; exact h)), ?_, ?_⟩
              · intro h
                rw [getD_set_ne _ (by decide)] at h
                obtain ⟨g, e25, z1⟩ := H25.out h
                exact ⟨g, by simp [e25], fun h => z1 (by rw [getD_set_ne _ (by decide)] at h; exact h)⟩
              · intro h
                rw [getD_set_ne _ (by decide)] at h
                obtain ⟨A6, c6, W1, e26, o1, o2, o3, o4, o5⟩ := H26.out h
                exact ⟨A6, c6, W1, by simp [e26], o1, o2, o3, fun h => o4 (by rw [getD_set_ne _ (by decide)] at h; exact h), fun h => o5 (by rw [getD_set_ne _ (by decide)] at h; exact h)⟩
            · -- operation 20
              cases ho
              have HUN := Lib.hid hun
              have HFF := Lib.hid (And.intro f0 ( And.intro f1 ( And.intro f2 ( And.intro f3 ( And.intro f4 ( And.intro f5 ( And.intro f6 ( And.intro f7 ( And.intro f8 ( And.intro f9 ( And.intro f10 ( And.intro f11 ( And.intro f12 ( And.intro f13 ( And.intro f14 ( And.intro f15 ( And.intro f16 ( And.intro f17 ( And.intro f18 ( And.intro f19 ( And.intro f20 ( And.intro f21 ( And.intro f22 ( And.intro f23 ( And.intro f24 (f27))))))))))))))))))))))))))
              clear f0 f1 f2 f3 f4 f5 f6 f7 f8 f9 f10 f11 f12 f13 f14 f15 f16 f17 f18 f19 f20 f21 f22 f23 f24 f27 hun
              refine Ri9.wpOp_list rfl ?_
              go_wp2
              refine (HJ3.out _ _ _).2 ⟨fun k => if k = 20 then .int .i64 (j : Int) else v k, by simp [], (fun h => HFF.out.1 (by rw [getD_set_ne _ (by decide)] at h; exact h)), (fun h => HFF.out.2.1 (by rw [getD_set_ne _ (by decide)] at h; exact h)), (fun h => HFF.out.2.2.1 (by rw [getD_set_ne _ (by decide)] at h; exact h)), (fun h => HFF.out.2.2.2.1 (by rw [getD_set_ne _ (by decide)] at h; exact h)), (fun h => HFF.out.2.2.2.2.1 (by rw [getD_set_ne _ (by decide)] at h; exact h)), (fun h => HFF.out.2.2.2.2.2.1 (by rw [getD_set_ne _ (by decide)] at h; exact h)), (fun h => HFF.out.2.2.2.2.2.2.1 (by rw [getD_set_ne _ (by decide)] at h; exact h)), (fun h => HFF.out.2.2.2.2.2.2.2.1 (by rw [getD_set_ne _ (by decide)] at h; exact h)), (fun h => HFF.out.2.2.2.2.2.2.2.2.1 (by rw [getD_set_ne _ (by decide)] at h; exact h)), (fun h => HFF.out.2.2.2.2.2.2.2.2.2.1 (by rw [getD_set_ne _ (by decide)] at h; exact h)), (fun h => HFF.out.2.2.2.2.2.2.2.2.2.2.1 (by rw [getD_set_ne _ (by decide)] at h; exact h)), (fun h => HFF.out.2.2.2.2.2.2.2.2.2.2.2.1 (by rw [getD_set_ne _ (by decide)] at h; exact h)), (fun h => HFF.out.2.2.2.2.2.2.2.2.2.2.2.2.1 (by rw [getD_set_ne _ (by decide)] at h; exact h)), (fun h => HFF.out.2.2.2.2.2.2.2.2.2.2.2.2.2.1 (by rw [getD_set_ne _ (by decide)] at h; exact h)), (fun h => HFF.out.2.2.2.2.2.2.2.2.2.2.2.2.2.2.1 (by rw [getD_set_ne _ (by decide)] at h; exact h)), (fun h => HFF.out.2.2.2.2.2.2.2.2.2.2.2.2.2.2.2.1 (by rw [getD_set_ne _ (by decide)] at h; exact h)), (fun h => HFF.out.2.2.2.2.2.2.2.2.2.2.2.2.2.2.2.2.1 (by rw [getD_set_ne _ (by decide)] at h; exact h)), (fun h => HFF.out.2.2.2.2.2.2.2.2.2.2.2.2.2.2.2.2.2.1 (by rw [getD_set_ne _ (by decide)] at h; exact h)), (fun h => HFF.out.2.2.2.2.2.2.2.2.2.2.2.2.2.2.2.2.2.2.1 (by rw [getD_set_ne _ (by decide)] at h; exact h)), (fun h => HFF.out.2.2.2.2.2.2.2.2.2.2.2.2.2.2.2.2.2.2.2.1 (by rw [getD_set_ne _ (by decide)] at h; exact h)), (fun _ => rfl), (fun h => HFF.out.2.2.2.2.2.2.2.2.2.2.2.2.2.2.2.2.2.2.2.2.2.1 (by rw [getD_set_ne _ (by decide)] at h; exact h)), (fun h => HFF.out.2.2.2.2.2.2.2.2.2.2.2.2.2.2.2.2.2.2.2.2.2.2.1 (by rw [getD_set_ne _ (by decide)] at h; exact h)), (fun h => HFF.out.2.2.2.2.2.2.2.2.2.2.2.2.2.2.2.2.2.2.2.2.2.2.2.1 (by rw [getD_set_ne _ (by decide)] at h; exact h)), (fun h => HFF.out.2.2.2.2.2.2.2.2.2.2.2.2.2.2.2.2.2.2.2.2.2.2.2.2.1 (by rw [getD_set_ne _ (by decide)] at h; exact h)), (fun h => HFF.out.2.2.2.2.2.2.2.2.2.2.2.2.2.2.2.2.2.2.2.2.2.2.2.2.2 (by rw [getD_set_ne _ (by decide)] at h; exact h)), HA.out, (fun h => HBW.out (by rw [getD_set_ne _ (by decide)] at h; exact h)), ?_, ?_⟩
              · intro h
                rw [getD_set_ne _ (by decide)] at h
                obtain ⟨g, e25, z1⟩ := H25.out h
                exact ⟨g, by simp [e25], fun h => z1 (by rw [getD_set_ne _ (by decide)] at h; exact h)⟩
              · intro h
                rw [getD_set_ne _ (by decide)] at h
                obtain ⟨A6, c6, W1, e26, o1, o2, o3, o4, o5⟩ := H26.out h
                exact ⟨A6, c6, W1, by simp [e26], o1, o2, o3, fun h => o4 (by rw [getD_set_ne _ (by decide)] at h; exact h), fun h => o5 (by rw [getD_set_ne _ (by decide)] at h; exact h)⟩
            · -- operation 21
              cases ho
              have e19 := f19 (HAF.out ⟨19, .data⟩ (by simp) rfl)
              have e20 := f20 (HAF.out ⟨20, .data⟩ (by simp) rfl)
              have HUN := Lib.hid hun
              have HFF := Lib.hid (And.intro f0 ( And.intro f1 ( And.intro f2 ( And.intro f3 ( And.intro f4 ( And.intro f5 ( And.intro f6 ( And.intro f7 ( And.intro f8 ( And.intro f9 ( And.intro f10 ( And.intro f11 ( And.intro f12 ( And.intro f13 ( And.intro f14 ( And.intro f15 ( And.intro f16 ( And.intro f17 ( And.intro f18 ( And.intro f19 ( And.intro f20 ( And.intro f21 ( And.intro f22 ( And.intro f23 ( And.intro f24 (f27))))))))))))))))))))))))))
              clear f0 f1 f2 f3 f4 f5 f6 f7 f8 f9 f10 f11 f12 f13 f14 f15 f16 f17 f18 f19 f20 f21 f22 f23 f24 f27 hun
              refine Ri9.wpOp_list rfl ?_
              go_wp2
              refine (HJ3.out _ _ _).2 ⟨fun k => if k = 21 then .pointer (some ⟨hy, j, none⟩) else v k, by simp [e19, e20], (fun h => HFF.out.1 (by rw [getD_set_ne _ (by decide)] at h; exact h)), (fun h => HFF.out.2.1 (by rw [getD_set_ne _ (by decide)] at h; exact h)), (fun h => HFF.out.2.2.1 (by rw [getD_set_ne _ (by decide)] at h; exact h)), (fun h => HFF.out.2.2.2.1 (by rw [getD_set_ne _ (by decide)] at h; exact h)), (fun h => HFF.out.2.2.2.2.1 (by rw [getD_set_ne _ (by decide)] at h; exact h)), (fun h => HFF.out.2.2.2.2.2.1 (by rw [getD_set_ne _ (by decide)] at h; exact h)), (fun h => HFF.out.2.2.2.2.2.2.1 (by rw [getD_set_ne _ (by decide)] at h; exact h)), (fun h => HFF.out.2.2.2.2.2.2.2.1 (by rw [getD_set_ne _ (by decide)] at h; exact h)), (fun h => HFF.out.2.2.2.2.2.2.2.2.1 (by rw [getD_set_ne _ (by decide)] at h; exact h)), (fun h => HFF.out.2.2.2.2.2.2.2.2.2.1 (by rw [getD_set_ne _ (by decide)] at h; exact h)), (fun h => HFF.out.2.2.2.2.2.2.2.2.2.2.1 (by rw [getD_set_ne _ (by decide)] at h; exact h)), (fun h => HFF.out.2.2.2.2.2.2.2.2.2.2.2.1 (by rw [getD_set_ne _ (by decide)] at h; exact h)), (fun h => HFF.out.2.2.2.2.2.2.2.2.2.2.2.2.1 (by rw [getD_set_ne _ (by decide)] at h; exact h)), (fun h => HFF.out.2.2.2.2.2.2.2.2.2.2.2.2.2.1 (by rw [getD_set_ne _ (by decide)] at h; exact h)), (fun h => HFF.out.2.2.2.2.2.2.2.2.2.2.2.2.2.2.1 (by rw [getD_set_ne _ (by decide)] at h; exact h)), (fun h => HFF.out.2.2.2.2.2.2.2.2.2.2.2.2.2.2.2.1 (by rw [getD_set_ne _ (by decide)] at h; exact h)), (fun h => HFF.out.2.2.2.2.2.2.2.2.2.2.2.2.2.2.2.2.1 (by rw [getD_set_ne _ (by decide)] at h; exact h)), (fun h => HFF.out.2.2.2.2.2.2.2.2.2.2.2.2.2.2.2.2.2.1 (by rw [getD_set_ne _ (by decide)] at h; exact h)), (fun h => HFF.out.2.2.2.2.2.2.2.2.2.2.2.2.2.2.2.2.2.2.1 (by rw [getD_set_ne _ (by decide)] at h; exact h)), (fun h => HFF.out.2.2.2.2.2.2.2.2.2.2.2.2.2.2.2.2.2.2.2.1 (by rw [getD_set_ne _ (by decide)] at h; exact h)), (fun h => HFF.out.2.2.2.2.2.2.2.2.2.2.2.2.2.2.2.2.2.2.2.2.1 (by rw [getD_set_ne _ (by decide)] at h; exact h)), (fun _ => rfl), (fun h => HFF.out.2.2.2.2.2.2.2.2.2.2.2.2.2.2.2.2.2.2.2.2.2.2.1 (by rw [getD_set_ne _ (by decide)] at h; exact h)), (fun h => HFF.out.2.2.2.2.2.2.2.2.2.2.2.2.2.2.2.2.2.2.2.2.2.2.2.1 (by rw [getD_set_ne _ (by decide)] at h; exact h)), (fun h => HFF.out.2.2.2.2.2.2.2.2.2.2.2.2.2.2.2.2.2.2.2.2.2.2.2.2.1 (by rw [getD_set_ne _ (by decide)] at h; exact h)), (fun h => HFF.out.2.2.2.2.2.2.2.2.2.2.2.2.2.2.2.2.2.2.2.2.2.2.2.2.2 (by rw [getD_set_ne _ (by decide)] at h; exact h)), HA.out, (fun h => HBW.out (by rw [getD_set_ne _ (by decide)] at h; exact h)), ?_, ?_⟩
              · intro h
                rw [getD_set_ne _ (by decide)] at h
                obtain ⟨g, e25, z1⟩ := H25.out h
                exact ⟨g, by simp [e25], fun h => z1 (by rw [getD_set_ne _ (by decide)] at h; exact h)⟩
              · intro h
                rw [getD_set_ne _ (by decide)] at h
                obtain ⟨A6, c6, W1, e26, o1, o2, o3, o4, o5⟩ := H26.out h
                exact ⟨A6, c6, W1, by simp [e26], o1, o2, o3, fun h => o4 (by rw [getD_set_ne _ (by decide)] at h; exact h), fun h => o5 (by rw [getD_set_ne _ (by decide)] at h; exact h)⟩
            · -- operation 22
              cases ho
              have e21 := f21 (HAF.out ⟨21, .data⟩ (by simp) rfl)
              have HUN := Lib.hid hun
              have cc := (H2.out.bel (Bel.ch HB.out HA.out (by rw [HHH.out]; exact Nat.le_refl h))).at j hjm
              rw [HXY.out.2] at cc
              have HFF := Lib.hid (And.intro f0 ( And.intro f1 ( And.intro f2 ( And.intro f3 ( And.intro f4 ( And.intro f5 ( And.intro f6 ( And.intro f7 ( And.intro f8 ( And.intro f9 ( And.intro f10 ( And.intro f11 ( And.intro f12 ( And.intro f13 ( And.intro f14 ( And.intro f15 ( And.intro f16 ( And.intro f17 ( And.intro f18 ( And.intro f19 ( And.intro f20 ( And.intro f21 ( And.intro f22 ( And.intro f23 ( And.intro f24 (f27))))))))))))))))))))))))))
              clear f0 f1 f2 f3 f4 f5 f6 f7 f8 f9 f10 f11 f12 f13 f14 f15 f16 f17 f18 f19 f20 f21 f22 f23 f24 f27 hun
              refine Ri9.wpOp_list rfl ?_
              go_wp2
              refine (HJ3.out _ _ _).2 ⟨fun k => if k = 22 then .int .i64 y else v k, by simp [e21], (fun h => HFF.out.1 (by rw [getD_set_ne _ (by decide)] at h; exact h)), (fun h => HFF.out.2.1 (by rw [getD_set_ne _ (by decide)] at h; exact h)), (fun h => HFF.out.2.2.1 (by rw [getD_set_ne _ (by decide)] at h; exact h)), (fun h => HFF.out.2.2.2.1 (by rw [getD_set_ne _ (by decide)] at h; exact h)), (fun h => HFF.out.2.2.2.2.1 (by rw [getD_set_ne _ (by decide)] at h; exact h)), (fun h => HFF.out.2.2.2.2.2.1 (by rw [getD_set_ne _ (by decide)] at h; exact h)), (fun h => HFF.out.2.2.2.2.2.2.1 (by rw [getD_set_ne _ (by decide)] at h; exact h)), (fun h => HFF.out.2.2.2.2.2.2.2.1 (by rw [getD_set_ne _ (by decide)] at h; exact h)), (fun h => HFF.out.2.2.2.2.2.2.2.2.1 (by rw [getD_set_ne _ (by decide)] at h; exact h)), (fun h => HFF.out.2.2.2.2.2.2.2.2.2.1 (by rw [getD_set_ne _ (by decide)] at h; exact h)), (fun h => HFF.out.2.2.2.2.2.2.2.2.2.2.1 (by rw [getD_set_ne _ (by decide)] at h; exact h)), (fun h => HFF.out.2.2.2.2.2.2.2.2.2.2.2.1 (by rw [getD_set_ne _ (by decide)] at h; exact h)), (fun h => HFF.out.2.2.2.2.2.2.2.2.2.2.2.2.1 (by rw [getD_set_ne _ (by decide)] at h; exact h)), (fun h => HFF.out.2.2.2.2.2.2.2.2.2.2.2.2.2.1 (by rw [getD_set_ne _ (by decide)] at h; exact h)), (fun h => HFF.out.2.2.2.2.2.2.2.2.2.2.2.2.2.2.1 (by rw [getD_set_ne _ (by decide)] at h; exact h)), (fun h => HFF.out.2.2.2.2.2.2.2.2.2.2.2.2.2.2.2.1 (by rw [getD_set_ne _ (by decide)] at h; exact h)), (fun h => HFF.out.2.2.2.2.2.2.2.2.2.2.2.2.2.2.2.2.1 (by rw [getD_set_ne _ (by decide)] at h; exact h)), (fun h => HFF.out.2.2.2.2.2.2.2.2.2.2.2.2.2.2.2.2.2.1 (by rw [getD_set_ne _ (by decide)] at h; exact h)), (fun h => HFF.out.2.2.2.2.2.2.2.2.2.2.2.2.2.2.2.2.2.2.1 (by rw [getD_set_ne _ (by decide)] at h; exact h)), (fun h => HFF.out.2.2.2.2.2.2.2.2.2.2.2.2.2.2.2.2.2.2.2.1 (by rw [getD_set_ne _ (by decide)] at h; exact h)), (fun h => HFF.out.2.2.2.2.2.2.2.2.2.2.2.2.2.2.2.2.2.2.2.2.1 (by rw [getD_set_ne _ (by decide)] at h; exact h)), (fun h => HFF.out.2.2.2.2.2.2.2.2.2.2.2.2.2.2.2.2.2.2.2.2.2.1 (by rw [getD_set_ne _ (by decide)] at h; exact h)), (fun _ => rfl), (fun h => HFF.out.2.2.2.2.2.2.2.2.2.2.2.2.2.2.2.2.2.2.2.2.2.2.2.1 (by rw [getD_set_ne _ (by decide)] at h; exact h)), (fun h => HFF.out.2.2.2.2.2.2.2.2.2.2.2.2.2.2.2.2.2.2.2.2.2.2.2.2.1 (by rw [getD_set_ne _ (by decide)] at h; exact h)), (fun h => HFF.out.2.2.2.2.2.2.2.2.2.2.2.2.2.2.2.2.2.2.2.2.2.2.2.2.2 (by rw [getD_set_ne _ (by decide)] at h; exact h)), HA.out, (fun h => HBW.out (by rw [getD_set_ne _ (by decide)] at h; exact h)), ?_, ?_⟩
              · intro h
                rw [getD_set_ne _ (by decide)] at h
                obtain ⟨g, e25, z1⟩ := H25.out h
                exact ⟨g, by simp [e25], fun h => z1 (by rw [getD_set_ne _ (by decide)] at h; exact h)⟩
              · intro h
                rw [getD_set_ne _ (by decide)] at h
                obtain ⟨A6, c6, W1, e26, o1, o2, o3, o4, o5⟩ := H26.out h
                exact ⟨A6, c6, W1, by simp [e26], o1, o2, o3, fun h => o4 (by rw [getD_set_ne _ (by decide)] at h; exact h), fun h => o5 (by rw [getD_set_ne _ (by decide)] at h; exact h)⟩
            · -- operation 23
              cases ho
              have e18 := f18 (HAF.out ⟨18, .data⟩ (by simp) rfl)
              have e22 := f22 (HAF.out ⟨22, .data⟩ (by simp) rfl)
              have HUN := Lib.hid hun
              have HFF := Lib.hid (And.intro f0 ( And.intro f1 ( And.intro f2 ( And.intro f3 ( And.intro f4 ( And.intro f5 ( And.intro f6 ( And.intro f7 ( And.intro f8 ( And.intro f9 ( And.intro f10 ( And.intro f11 ( And.intro f12 ( And.intro f13 ( And.intro f14 ( And.intro f15 ( And.intro f16 ( And.intro f17 ( And.intro f18 ( And.intro f19 ( And.intro f20 ( And.intro f21 ( And.intro f22 ( And.intro f23 ( And.intro f24 (f27))))))))))))))))))))))))))
              clear f0 f1 f2 f3 f4 f5 f6 f7 f8 f9 f10 f11 f12 f13 f14 f15 f16 f17 f18 f19 f20 f21 f22 f23 f24 f27 hun
              refine Ri9.wpOp_list rfl ?_
              go_wp2
              refine (HJ3.out _ _ _).2 ⟨fun k => if k = 23 then .int .i64 d else v k, by simp [e18, e22, hd, wd], (fun h => HFF.out.1 (by rw [getD_set_ne _ (by decide)] at h; exact h)), (fun h => HFF.out.2.1 (by rw [getD_set_ne _ (by decide)] at h; exact h)), (fun h => HFF.out.2.2.1 (by rw [getD_set_ne _ (by decide)] at h; exact h)), (fun h => HFF.out.2.2.2.1 (by rw [getD_set_ne _ (by decide)] at h; exact h)), (fun h => HFF.out.2.2.2.2.1 (by rw [getD_set_ne _ (by decide)] at h; exact h)), (fun h => HFF.out.2.2.2.2.2.1 (by rw [getD_set_ne _ (by decide)] at h; exact h)), (fun h => HFF.out.2.2.2.2.2.2.1 (by rw [getD_set_ne _ (by decide)] at h; exact h)), (fun h => HFF.out.2.2.2.2.2.2.2.1 (by rw [getD_set_ne _ (by decide)] at h; exact h)), (fun h => HFF.out.2.2.2.2.2.2.2.2.1 (by rw [getD_set_ne _ (by decide)] at h; exact h)), (fun h => HFF.out.2.2.2.2.2.2.2.2.2.1 (by rw [getD_set_ne _ (by decide)] at h; exact h)), (fun h => HFF.out.2.2.2.2.2.2.2.2.2.2.1 (by rw [getD_set_ne _ (by decide)] at h; exact h)), (fun h => HFF.out.2.2.2.2.2.2.2.2.2.2.2.1 (by rw [getD_set_ne _ (by decide)] at h; exact h)), (fun h => HFF.out.2.2.2.2.2.2.2.2.2.2.2.2.1 (by rw [getD_set_ne _ (by decide)] at h; exact h)), (fun h => HFF.out.2.2.2.2.2.2.2.2.2.2.2.2.2.1 (by rw [getD_set_ne _ (by decide)] at h; exact h)), (fun h => HFF.out.2.2.2.2.2.2.2.2.2.2.2.2.2.2.1 (by rw [getD_set_ne _ (by decide)] at h; exact h)), (fun h => HFF.out.2.2.2.2.2.2.2.2.2.2.2.2.2.2.2.1 (by rw [getD_set_ne _ (by decide)] at h; exact h)), (fun h => HFF.out.2.2.2.2.2.2.2.2.2.2.2.2.2.2.2.2.1 (by rw [getD_set_ne _ (by decide)] at h; exact h)), (fun h => HFF.out.2.2.2.2.2.2.2.2.2.2.2.2.2.2.2.2.2.1 (by rw [getD_set_ne _ (by decide)] at h; exact h)), (fun h => HFF.out.2.2.2.2.2.2.2.2.2.2.2.2.2.2.2.2.2.2.1 (by rw [getD_set_ne _ (by decide)] at h; exact h)), (fun h => HFF.out.2.2.2.2.2.2.2.2.2.2.2.2.2.2.2.2.2.2.2.1 (by rw [getD_set_ne _ (by decide)] at h; exact h)), (fun h => HFF.out.2.2.2.2.2.2.2.2.2.2.2.2.2.2.2.2.2.2.2.2.1 (by rw [getD_set_ne _ (by decide)] at h; exact h)), (fun h => HFF.out.2.2.2.2.2.2.2.2.2.2.2.2.2.2.2.2.2.2.2.2.2.1 (by rw [getD_set_ne _ (by decide)] at h; exact h)), (fun h => HFF.out.2.2.2.2.2.2.2.2.2.2.2.2.2.2.2.2.2.2.2.2.2.2.1 (by rw [getD_set_ne _ (by decide)] at h; exact h)), (fun _ => rfl), (fun h => HFF.out.2.2.2.2.2.2.2.2.2.2.2.2.2.2.2.2.2.2.2.2.2.2.2.2.1 (by rw [getD_set_ne _ (by decide)] at h; exact h)), (fun h => HFF.out.2.2.2.2.2.2.2.2.2.2.2.2.2.2.2.2.2.2.2.2.2.2.2.2.2 (by rw [getD_set_ne _ (by decide)] at h; exact h)), HA.out, (fun h => HBW.out (by rw [getD_set_ne _ (by decide)] at h; exact h)), ?_, ?_⟩
              · intro h
                rw [getD_set_ne _ (by decide)] at h
                obtain ⟨g, e25, z1⟩ := H25.out h
                exact ⟨g, by simp [e25], fun h => z1 (by rw [getD_set_ne _ (by decide)] at h; exact h)⟩
              · intro h
                rw [getD_set_ne _ (by decide)] at h
                obtain ⟨A6, c6, W1, e26, o1, o2, o3, o4, o5⟩ := H26.out h
                exact ⟨A6, c6, W1, by simp [e26], o1, o2, o3, fun h => o4 (by rw [getD_set_ne _ (by decide)] at h; exact h), fun h => o5 (by rw [getD_set_ne _ (by decide)] at h; exact h)⟩
            · -- operation 24
              cases ho
              have e14 := f14 (HAF.out ⟨14, .data⟩ (by simp) rfl)
              have e23 := f23 (HAF.out ⟨23, .data⟩ (by simp) rfl)
              have HUN := Lib.hid hun
              have HFF := Lib.hid (And.intro f0 ( And.intro f1 ( And.intro f2 ( And.intro f3 ( And.intro f4 ( And.intro f5 ( And.intro f6 ( And.intro f7 ( And.intro f8 ( And.intro f9 ( And.intro f10 ( And.intro f11 ( And.intro f12 ( And.intro f13 ( And.intro f14 ( And.intro f15 ( And.intro f16 ( And.intro f17 ( And.intro f18 ( And.intro f19 ( And.intro f20 ( And.intro f21 ( And.intro f22 ( And.intro f23 ( And.intro f24 (f27))))))))))))))))))))))))))
              clear f0 f1 f2 f3 f4 f5 f6 f7 f8 f9 f10 f11 f12 f13 f14 f15 f16 f17 f18 f19 f20 f21 f22 f23 f24 f27 hun
              refine Ri9.wpOp_list rfl ?_
              go_wp2
              refine (HJ3.out _ _ _).2 ⟨fun k => if k = 24 then .int .i64 z else v k, by simp [e14, e23, hz, wz], (fun h => HFF.out.1 (by rw [getD_set_ne _ (by decide)] at h; exact h)), (fun h => HFF.out.2.1 (by rw [getD_set_ne _ (by decide)] at h; exact h)), (fun h => HFF.out.2.2.1 (by rw [getD_set_ne _ (by decide)] at h; exact h)), (fun h => HFF.out.2.2.2.1 (by rw [getD_set_ne _ (by decide)] at h; exact h)), (fun h => HFF.out.2.2.2.2.1 (by rw [getD_set_ne _ (by decide)] at h; exact h)), (fun h => HFF.out.2.2.2.2.2.1 (by rw [getD_set_ne _ (by decide)] at h; exact h)), (fun h => HFF.out.2.2.2.2.2.2.1 (by rw [getD_set_ne _ (by decide)] at h; exact h)), (fun h => HFF.out.2.2.2.2.2.2.2.1 (by rw [getD_set_ne _ (by decide)] at h; exact h)), (fun h => HFF.out.2.2.2.2.2.2.2.2.1 (by rw [getD_set_ne _ (by decide)] at h; exact h)), (fun h => HFF.out.2.2.2.2.2.2.2.2.2.1 (by rw [getD_set_ne _ (by decide)] at h; exact h)), (fun h => HFF.out.2.2.2.2.2.2.2.2.2.2.1 (by rw [getD_set_ne _ (by decide)] at h; exact h)), (fun h => HFF.out.2.2.2.2.2.2.2.2.2.2.2.1 (by rw [getD_set_ne _ (by decide)] at h; exact h)), (fun h => HFF.out.2.2.2.2.2.2.2.2.2.2.2.2.1 (by rw [getD_set_ne _ (by decide)] at h; exact h)), (fun h => HFF.out.2.2.2.2.2.2.2.2.2.2.2.2.2.1 (by rw [getD_set_ne _ (by decide)] at h; exact h)), (fun h => HFF.out.2.2.2.2.2.2.2.2.2.2.2.2.2.2.1 (by rw [getD_set_ne _ (by decide)] at h; exact h)), (fun h => HFF.out.2.2.2.2.2.2.2.2.2.2.2.2.2.2.2.1 (by rw [getD_set_ne _ (by decide)] at h; exact h)), (fun h => HFF.out.2.2.2.2.2.2.2.2.2.2.2.2.2.2.2.2.1 (by rw [getD_set_ne _ (by decide)] at h; exact h)), (fun h => HFF.out.2.2.2.2.2.2.2.2.2.2.2.2.2.2.2.2.2.1 (by rw [getD_set_ne _ (by decide)] at h; exact h)), (fun h => HFF.out.2.2.2.2.2.2.2.2.2.2.2.2.2.2.2.2.2.2.1 (by rw [getD_set_ne _ (by decide)] at h; exact h)), (fun h => HFF.out.2.2.2.2.2.2.2.2.2.2.2.2.2.2.2.2.2.2.2.1 (by rw [getD_set_ne _ (by decide)] at h; exact h)), (fun h => HFF.out.2.2.2.2.2.2.2.2.2.2.2.2.2.2.2.2.2.2.2.2.1 (by rw [getD_set_ne _ (by decide)] at h; exact h)), (fun h => HFF.out.2.2.2.2.2.2.2.2.2.2.2.2.2.2.2.2.2.2.2.2.2.1 (by rw [getD_set_ne _ (by decide)] at h; exact h)), (fun h => HFF.out.2.2.2.2.2.2.2.2.2.2.2.2.2.2.2.2.2.2.2.2.2.2.1 (by rw [getD_set_ne _ (by decide)] at h; exact h)), (fun h => HFF.out.2.2.2.2.2.2.2.2.2.2.2.2.2.2.2.2.2.2.2.2.2.2.2.1 (by rw [getD_set_ne _ (by decide)] at h; exact h)), (fun _ => rfl), (fun h => HFF.out.2.2.2.2.2.2.2.2.2.2.2.2.2.2.2.2.2.2.2.2.2.2.2.2.2 (by rw [getD_set_ne _ (by decide)] at h; exact h)), HA.out, (fun h => HBW.out (by rw [getD_set_ne _ (by decide)] at h; exact h)), ?_, ?_⟩
              · intro h
                rw [getD_set_ne _ (by decide)] at h
                obtain ⟨g, e25, z1⟩ := H25.out h
                exact ⟨g, by simp [e25], fun h => z1 (by rw [getD_set_ne _ (by decide)] at h; exact h)⟩
              · intro h
                rw [getD_set_ne _ (by decide)] at h
                obtain ⟨A6, c6, W1, e26, o1, o2, o3, o4, o5⟩ := H26.out h
                exact ⟨A6, c6, W1, by simp [e26], o1, o2, o3, fun h => o4 (by rw [getD_set_ne _ (by decide)] at h; exact h), fun h => o5 (by rw [getD_set_ne _ (by decide)] at h; exact h)⟩
            · -- operation 25
              cases ho
              have e24 := f24 (HAF.out ⟨24, .data⟩ (by simp) rfl)
              have HUN := Lib.hid hun
              have n26 : li.getD 26 false = false := by
                cases hx : li.getD 26 false
                · rfl
                · have := HC.out 26 _ rfl hx ⟨25, .data⟩ (by simp) rfl
                  rw [get_def this] at hun; cases hun
              have HFF := Lib.hid (And.intro f0 ( And.intro f1 ( And.intro f2 ( And.intro f3 ( And.intro f4 ( And.intro f5 ( And.intro f6 ( And.intro f7 ( And.intro f8 ( And.intro f9 ( And.intro f10 ( And.intro f11 ( And.intro f12 ( And.intro f13 ( And.intro f14 ( And.intro f15 ( And.intro f16 ( And.intro f17 ( And.intro f18 ( And.intro f19 ( And.intro f20 ( And.intro f21 ( And.intro f22 ( And.intro f23 ( And.intro f24 (f27))))))))))))))))))))))))))
              clear f0 f1 f2 f3 f4 f5 f6 f7 f8 f9 f10 f11 f12 f13 f14 f15 f16 f17 f18 f19 f20 f21 f22 f23 f24 f27 hun
              refine Ri9.wpOp_list rfl ?_
              go_wp2
              refine (HJ3.out _ _ _).2 ⟨fun k => if k = 25 then .slice (some ⟨W.heap.size, 0, none⟩) 1 1 else v k, by simp [e24], (fun h => HFF.out.1 (by rw [getD_set_ne _ (by decide)] at h; exact h)), (fun h => HFF.out.2.1 (by rw [getD_set_ne _ (by decide)] at h; exact h)), (fun h => HFF.out.2.2.1 (by rw [getD_set_ne _ (by decide)] at h; exact h)), (fun h => HFF.out.2.2.2.1 (by rw [getD_set_ne _ (by decide)] at h; exact h)), (fun h => HFF.out.2.2.2.2.1 (by rw [getD_set_ne _ (by decide)] at h; exact h)), (fun h => HFF.out.2.2.2.2.2.1 (by rw [getD_set_ne _ (by decide)] at h; exact h)), (fun h => HFF.out.2.2.2.2.2.2.1 (by rw [getD_set_ne _ (by decide)] at h; exact h)), (fun h => HFF.out.2.2.2.2.2.2.2.1 (by rw [getD_set_ne _ (by decide)] at h; exact h)), (fun h => HFF.out.2.2.2.2.2.2.2.2.1 (by rw [getD_set_ne _ (by decide)] at h; exact h)), (fun h => HFF.out.2.2.2.2.2.2.2.2.2.1 (by rw [getD_set_ne _ (by decide)] at h; exact h)), (fun h => HFF.out.2.2.2.2.2.2.2.2.2.2.1 (by rw [getD_set_ne _ (by decide)] at h; exact h)), (fun h => HFF.out.2.2.2.2.2.2.2.2.2.2.2.1 (by rw [getD_set_ne _ (by decide)] at h; exact h)), (fun h => HFF.out.2.2.2.2.2.2.2.2.2.2.2.2.1 (by rw [getD_set_ne _ (by decide)] at h; exact h)), (fun h => HFF.out.2.2.2.2.2.2.2.2.2.2.2.2.2.1 (by rw [getD_set_ne _ (by decide)] at h; exact h)), (fun h => HFF.out.2.2.2.2.2.2.2.2.2.2.2.2.2.2.1 (by rw [getD_set_ne _ (by decide)] at h; exact h)), (fun h => HFF.out.2.2.2.2.2.2.2.2.2.2.2.2.2.2.2.1 (by rw [getD_set_ne _ (by decide)] at h; exact h)), (fun h => HFF.out.2.2.2.2.2.2.2.2.2.2.2.2.2.2.2.2.1 (by rw [getD_set_ne _ (by decide)] at h; exact h)), (fun h => HFF.out.2.2.2.2.2.2.2.2.2.2.2.2.2.2.2.2.2.1 (by rw [getD_set_ne _ (by decide)] at h; exact h)), (fun h => HFF.out.2.2.2.2.2.2.2.2.2.2.2.2.2.2.2.2.2.2.1 (by rw [getD_set_ne _ (by decide)] at h; exact h)), (fun h => HFF.out.2.2.2.2.2.2.2.2.2.2.2.2.2.2.2.2.2.2.2.1 (by rw [getD_set_ne _ (by decide)] at h; exact h)), (fun h => HFF.out.2.2.2.2.2.2.2.2.2.2.2.2.2.2.2.2.2.2.2.2.1 (by rw [getD_set_ne _ (by decide)] at h; exact h)), (fun h => HFF.out.2.2.2.2.2.2.2.2.2.2.2.2.2.2.2.2.2.2.2.2.2.1 (by rw [getD_set_ne _ (by decide)] at h; exact h)), (fun h => HFF.out.2.2.2.2.2.2.2.2.2.2.2.2.2.2.2.2.2.2.2.2.2.2.1 (by rw [getD_set_ne _ (by decide)] at h; exact h)), (fun h => HFF.out.2.2.2.2.2.2.2.2.2.2.2.2.2.2.2.2.2.2.2.2.2.2.2.1 (by rw [getD_set_ne _ (by decide)] at h; exact h)), (fun h => HFF.out.2.2.2.2.2.2.2.2.2.2.2.2.2.2.2.2.2.2.2.2.2.2.2.2.1 (by rw [getD_set_ne _ (by decide)] at h; exact h)), (fun h => HFF.out.2.2.2.2.2.2.2.2.2.2.2.2.2.2.2.2.2.2.2.2.2.2.2.2.2 (by rw [getD_set_ne _ (by decide)] at h; exact h)), HA.out.al _, (fun _ => (HBW.out n26).al _), ?_, ?_⟩
              · intro _; exact ⟨W.heap.size, rfl, fun _ => zi_one (Bk.nw _ _ _)⟩
              · intro h; rw [getD_set_ne _ (by decide), n26] at h; cases h
            · -- operation 26
              cases ho
              have e5 := f5 (HAF.out ⟨5, .data⟩ (by simp) rfl)
              have HUN := Lib.hid hun
              have n26 : li.getD 26 false = false := by
                cases hx : li.getD 26 false
                · rfl
                · rw [get_def hx] at hun; cases hun
              have n28 : li.getD 28 false = false := by
                cases hx : li.getD 28 false
                · rfl
                · have := HC.out 28 _ rfl hx ⟨26, .data⟩ (by simp) rfl
                  rw [get_def this] at hun; cases hun
              obtain ⟨g, e25, zz⟩ := H25.out (HAF.out ⟨25, .data⟩ (by simp) rfl)
              have HZZ := Lib.hid (zz n26)
              clear zz
              have HFF := Lib.hid (And.intro f0 ( And.intro f1 ( And.intro f2 ( And.intro f3 ( And.intro f4 ( And.intro f5 ( And.intro f6 ( And.intro f7 ( And.intro f8 ( And.intro f9 ( And.intro f10 ( And.intro f11 ( And.intro f12 ( And.intro f13 ( And.intro f14 ( And.intro f15 ( And.intro f16 ( And.intro f17 ( And.intro f18 ( And.intro f19 ( And.intro f20 ( And.intro f21 ( And.intro f22 ( And.intro f23 ( And.intro f24 (f27))))))))))))))))))))))))))
              clear f0 f1 f2 f3 f4 f5 f6 f7 f8 f9 f10 f11 f12 f13 f14 f15 f16 f17 f18 f19 f20 f21 f22 f23 f24 f27 hun
              refine Ri9.wpOp_list rfl ?_
              refine list_app _ rfl (.tmp 26) (.tmp 46) rfl wr.heap.size (.slice A5 j c5) j ((crow X Y m i).take j) (show v 5 = _ from e5) (own_bel HOW.out (HBW.out n26)) ⟨g, 0, none⟩ 1 1 [z] (show v 25 = _ from e25) HZZ.out (by omega) HA.out.size ?_
              intro vp wp hop hgp hatp
              obtain ⟨A6, c6, rfl, _⟩ := own_any hop
              have hkp : Bk wp h 22 ds := bk_low (HBK2.out.bel (HBW.out n26)) hgp (fun b e => (HOW.out.lt b e).1) hlth
              have hcp : Ch h wr wp := ch_grown HA.out hgp (fun q e => (HOW.out.lt q e).1)
              have HOP := Lib.hid (And.intro hop (And.intro hkp hcp))
              clear hop hkp hcp hgp hatp
              go_wp2
              refine (HJ3.out _ _ _).2 ⟨fun k => if k = 26 then .slice A6 (j + 1) c6 else v k, by simp [e5, e25], (fun h => HFF.out.1 (by rw [getD_set_ne _ (by decide)] at h; exact h)), (fun h => HFF.out.2.1 (by rw [getD_set_ne _ (by decide)] at h; exact h)), (fun h => HFF.out.2.2.1 (by rw [getD_set_ne _ (by decide)] at h; exact h)), (fun h => HFF.out.2.2.2.1 (by rw [getD_set_ne _ (by decide)] at h; exact h)), (fun h => HFF.out.2.2.2.2.1 (by rw [getD_set_ne _ (by decide)] at h; exact h)), (fun h => HFF.out.2.2.2.2.2.1 (by rw [getD_set_ne _ (by decide)] at h; exact h)), (fun h => HFF.out.2.2.2.2.2.2.1 (by rw [getD_set_ne _ (by decide)] at h; exact h)), (fun h => HFF.out.2.2.2.2.2.2.2.1 (by rw [getD_set_ne _ (by decide)] at h; exact h)), (fun h => HFF.out.2.2.2.2.2.2.2.2.1 (by rw [getD_set_ne _ (by decide)] at h; exact h)), (fun h => HFF.out.2.2.2.2.2.2.2.2.2.1 (by rw [getD_set_ne _ (by decide)] at h; exact h)), (fun h => HFF.out.2.2.2.2.2.2.2.2.2.2.1 (by rw [getD_set_ne _ (by decide)] at h; exact h)), (fun h => HFF.out.2.2.2.2.2.2.2.2.2.2.2.1 (by rw [getD_set_ne _ (by decide)] at h; exact h)), (fun h => HFF.out.2.2.2.2.2.2.2.2.2.2.2.2.1 (by rw [getD_set_ne _ (by decide)] at h; exact h)), (fun h => HFF.out.2.2.2.2.2.2.2.2.2.2.2.2.2.1 (by rw [getD_set_ne _ (by decide)] at h; exact h)), (fun h => HFF.out.2.2.2.2.2.2.2.2.2.2.2.2.2.2.1 (by rw [getD_set_ne _ (by decide)] at h; exact h)), (fun h => HFF.out.2.2.2.2.2.2.2.2.2.2.2.2.2.2.2.1 (by rw [getD_set_ne _ (by decide)] at h; exact h)), (fun h => HFF.out.2.2.2.2.2.2.2.2.2.2.2.2.2.2.2.2.1 (by rw [getD_set_ne _ (by decide)] at h; exact h)), (fun h => HFF.out.2.2.2.2.2.2.2.2.2.2.2.2.2.2.2.2.2.1 (by rw [getD_set_ne _ (by decide)] at h; exact h)), (fun h => HFF.out.2.2.2.2.2.2.2.2.2.2.2.2.2.2.2.2.2.2.1 (by rw [getD_set_ne _ (by decide)] at h; exact h)), (fun h => HFF.out.2.2.2.2.2.2.2.2.2.2.2.2.2.2.2.2.2.2.2.1 (by rw [getD_set_ne _ (by decide)] at h; exact h)), (fun h => HFF.out.2.2.2.2.2.2.2.2.2.2.2.2.2.2.2.2.2.2.2.2.1 (by rw [getD_set_ne _ (by decide)] at h; exact h)), (fun h => HFF.out.2.2.2.2.2.2.2.2.2.2.2.2.2.2.2.2.2.2.2.2.2.1 (by rw [getD_set_ne _ (by decide)] at h; exact h)), (fun h => HFF.out.2.2.2.2.2.2.2.2.2.2.2.2.2.2.2.2.2.2.2.2.2.2.1 (by rw [getD_set_ne _ (by decide)] at h; exact h)), (fun h => HFF.out.2.2.2.2.2.2.2.2.2.2.2.2.2.2.2.2.2.2.2.2.2.2.2.1 (by rw [getD_set_ne _ (by decide)] at h; exact h)), (fun h => HFF.out.2.2.2.2.2.2.2.2.2.2.2.2.2.2.2.2.2.2.2.2.2.2.2.2.1 (by rw [getD_set_ne _ (by decide)] at h; exact h)), (fun h => HFF.out.2.2.2.2.2.2.2.2.2.2.2.2.2.2.2.2.2.2.2.2.2.2.2.2.2 (by rw [getD_set_ne _ (by decide)] at h; exact h)), HOP.out.2.2, (fun h => by rw [get_set HUN.out] at h; cases h), ?_, ?_⟩
              · intro _; exact ⟨g, by simp [e25], fun h => by rw [get_set HUN.out] at h; cases h⟩
              · intro _; exact ⟨A6, c6, wp, rfl, HOP.out.1, HOP.out.2.1, HOP.out.2.2, fun _ => rfl, fun h => by rw [getD_set_ne _ (by decide), n28] at h; cases h⟩
            · -- operation 27
              cases ho
              have e0 := f0 (HAF.out ⟨0, .data⟩ (by simp) rfl)
              have e1 := f1 (HAF.out ⟨1, .data⟩ (by simp) rfl)
              have HUN := Lib.hid hun
              have HFF := Lib.hid (And.intro f0 ( And.intro f1 ( And.intro f2 ( And.intro f3 ( And.intro f4 ( And.intro f5 ( And.intro f6 ( And.intro f7 ( And.intro f8 ( And.intro f9 ( And.intro f10 ( And.intro f11 ( And.intro f12 ( And.intro f13 ( And.intro f14 ( And.intro f15 ( And.intro f16 ( And.intro f17 ( And.intro f18 ( And.intro f19 ( And.intro f20 ( And.intro f21 ( And.intro f22 ( And.intro f23 ( And.intro f24 (f27))))))))))))))))))))))))))
              clear f0 f1 f2 f3 f4 f5 f6 f7 f8 f9 f10 f11 f12 f13 f14 f15 f16 f17 f18 f19 f20 f21 f22 f23 f24 f27 hun
              refine Ri9.wpOp_list rfl ?_
              go_wp2
              refine (HJ3.out _ _ _).2 ⟨fun k => if k = 27 then .pointer (some ⟨h, i, none⟩) else v k, by simp [e0, e1], (fun h => HFF.out.1 (by rw [getD_set_ne _ (by decide)] at h; exact h)), (fun h => HFF.out.2.1 (by rw [getD_set_ne _ (by decide)] at h; exact h)), (fun h => HFF.out.2.2.1 (by rw [getD_set_ne _ (by decide)] at h; exact h)), (fun h => HFF.out.2.2.2.1 (by rw [getD_set_ne _ (by decide)] at h; exact h)), (fun h => HFF.out.2.2.2.2.1 (by rw [getD_set_ne _ (by decide)] at h; exact h)), (fun h => HFF.out.2.2.2.2.2.1 (by rw [getD_set_ne _ (by decide)] at h; exact h)), (fun h => HFF.out.2.2.2.2.2.2.1 (by rw [getD_set_ne _ (by decide)] at h; exact h)), (fun h => HFF.out.2.2.2.2.2.2.2.1 (by rw [getD_set_ne _ (by decide)] at h; exact h)), (fun h => HFF.out.2.2.2.2.2.2.2.2.1 (by rw [getD_set_ne _ (by decide)] at h; exact h)), (fun h => HFF.out.2.2.2.2.2.2.2.2.2.1 (by rw [getD_set_ne _ (by decide)] at h; exact h)), (fun h => HFF.out.2.2.2.2.2.2.2.2.2.2.1 (by rw [getD_set_ne _ (by decide)] at h; exact h)), (fun h => HFF.out.2.2.2.2.2.2.2.2.2.2.2.1 (by rw [getD_set_ne _ (by decide)] at h; exact h)), (fun h => HFF.out.2.2.2.2.2.2.2.2.2.2.2.2.1 (by rw [getD_set_ne _ (by decide)] at h; exact h)), (fun h => HFF.out.2.2.2.2.2.2.2.2.2.2.2.2.2.1 (by rw [getD_set_ne _ (by decide)] at h; exact h)), (fun h => HFF.out.2.2.2.2.2.2.2.2.2.2.2.2.2.2.1 (by rw [getD_set_ne _ (by decide)] at h; exact h)), (fun h => HFF.out.2.2.2.2.2.2.2.2.2.2.2.2.2.2.2.1 (by rw [getD_set_ne _ (by decide)] at h; exact h)), (fun h => HFF.out.2.2.2.2.2.2.2.2.2.2.2.2.2.2.2.2.1 (by rw [getD_set_ne _ (by decide)] at h; exact h)), (fun h => HFF.out.2.2.2.2.2.2.2.2.2.2.2.2.2.2.2.2.2.1 (by rw [getD_set_ne _ (by decide)] at h; exact h)), (fun h => HFF.out.2.2.2.2.2.2.2.2.2.2.2.2.2.2.2.2.2.2.1 (by rw [getD_set_ne _ (by decide)] at h; exact h)), (fun h => HFF.out.2.2.2.2.2.2.2.2.2.2.2.2.2.2.2.2.2.2.2.1 (by rw [getD_set_ne _ (by decide)] at h; exact h)), (fun h => HFF.out.2.2.2.2.2.2.2.2.2.2.2.2.2.2.2.2.2.2.2.2.1 (by rw [getD_set_ne _ (by decide)] at h; exact h)), (fun h => HFF.out.2.2.2.2.2.2.2.2.2.2.2.2.2.2.2.2.2.2.2.2.2.1 (by rw [getD_set_ne _ (by decide)] at h; exact h)), (fun h => HFF.out.2.2.2.2.2.2.2.2.2.2.2.2.2.2.2.2.2.2.2.2.2.2.1 (by rw [getD_set_ne _ (by decide)] at h; exact h)), (fun h => HFF.out.2.2.2.2.2.2.2.2.2.2.2.2.2.2.2.2.2.2.2.2.2.2.2.1 (by rw [getD_set_ne _ (by decide)] at h; exact h)), (fun h => HFF.out.2.2.2.2.2.2.2.2.2.2.2.2.2.2.2.2.2.2.2.2.2.2.2.2.1 (by rw [getD_set_ne _ (by decide)] at h; exact h)), (fun _ => rfl), HA.out, (fun h => HBW.out (by rw [getD_set_ne _ (by decide)] at h; exact h)), ?_, ?_⟩
              · intro h
                rw [getD_set_ne _ (by decide)] at h
                obtain ⟨g, e25, z1⟩ := H25.out h
                exact ⟨g, by simp [e25], fun h => z1 (by rw [getD_set_ne _ (by decide)] at h; exact h)⟩
              · intro h
                rw [getD_set_ne _ (by decide)] at h
                obtain ⟨A6, c6, W1, e26, o1, o2, o3, o4, o5⟩ := H26.out h
                exact ⟨A6, c6, W1, by simp [e26], o1, o2, o3, fun h => o4 (by rw [getD_set_ne _ (by decide)] at h; exact h), fun h => o5 (by rw [getD_set_ne _ (by decide)] at h; exact h)⟩
            · -- operation 28
              cases ho
              have e27 := f27 (HAF.out ⟨27, .data⟩ (by simp) rfl)
              have HUN := Lib.hid hun
              have n28 : li.getD 28 false = false := by
                cases hx : li.getD 28 false
                · rfl
                · rw [get_def hx] at hun; cases hun
              have c26 := HAF.out ⟨26, .data⟩ (by simp) rfl
              obtain ⟨A6, c6, W1, e26, o1, o2, o3, o4, o5⟩ := H26.out c26
              obtain rfl := o4 n28
              have y0 := o2.cell i
              rw [HRD.out.2.2.2] at y0
              have y1 := o2.fr i
              have HO := Lib.hid (And.intro o1 (And.intro o2 o3))
              clear o1 o2 o3 o4 o5
              have HFF := Lib.hid (And.intro f0 ( And.intro f1 ( And.intro f2 ( And.intro f3 ( And.intro f4 ( And.intro f5 ( And.intro f6 ( And.intro f7 ( And.intro f8 ( And.intro f9 ( And.intro f10 ( And.intro f11 ( And.intro f12 ( And.intro f13 ( And.intro f14 ( And.intro f15 ( And.intro f16 ( And.intro f17 ( And.intro f18 ( And.intro f19 ( And.intro f20 ( And.intro f21 ( And.intro f22 ( And.intro f23 ( And.intro f24 (f27))))))))))))))))))))))))))
              clear f0 f1 f2 f3 f4 f5 f6 f7 f8 f9 f10 f11 f12 f13 f14 f15 f16 f17 f18 f19 f20 f21 f22 f23 f24 f27 hun
              refine Ri9.wpOp_list rfl ?_
              go_wp2
              refine (HJ3.out _ _ _).2 ⟨v, by simp [e27, e26], (fun h => HFF.out.1 (by rw [getD_set_ne _ (by decide)] at h; exact h)), (fun h => HFF.out.2.1 (by rw [getD_set_ne _ (by decide)] at h; exact h)), (fun h => HFF.out.2.2.1 (by rw [getD_set_ne _ (by decide)] at h; exact h)), (fun h => HFF.out.2.2.2.1 (by rw [getD_set_ne _ (by decide)] at h; exact h)), (fun h => HFF.out.2.2.2.2.1 (by rw [getD_set_ne _ (by decide)] at h; exact h)), (fun h => HFF.out.2.2.2.2.2.1 (by rw [getD_set_ne _ (by decide)] at h; exact h)), (fun h => HFF.out.2.2.2.2.2.2.1 (by rw [getD_set_ne _ (by decide)] at h; exact h)), (fun h => HFF.out.2.2.2.2.2.2.2.1 (by rw [getD_set_ne _ (by decide)] at h; exact h)), (fun h => HFF.out.2.2.2.2.2.2.2.2.1 (by rw [getD_set_ne _ (by decide)] at h; exact h)), (fun h => HFF.out.2.2.2.2.2.2.2.2.2.1 (by rw [getD_set_ne _ (by decide)] at h; exact h)), (fun h => HFF.out.2.2.2.2.2.2.2.2.2.2.1 (by rw [getD_set_ne _ (by decide)] at h; exact h)), (fun h => HFF.out.2.2.2.2.2.2.2.2.2.2.2.1 (by rw [getD_set_ne _ (by decide)] at h; exact h)), (fun h => HFF.out.2.2.2.2.2.2.2.2.2.2.2.2.1 (by rw [getD_set_ne _ (by decide)] at h; exact h)), (fun h => HFF.out.2.2.2.2.2.2.2.2.2.2.2.2.2.1 (by rw [getD_set_ne _ (by decide)] at h; exact h)), (fun h => HFF.out.2.2.2.2.2.2.2.2.2.2.2.2.2.2.1 (by rw [getD_set_ne _ (by decide)] at h; exact h)), (fun h => HFF.out.2.2.2.2.2.2.2.2.2.2.2.2.2.2.2.1 (by rw [getD_set_ne _ (by decide)] at h; exact h)), (fun h => HFF.out.2.2.2.2.2.2.2.2.2.2.2.2.2.2.2.2.1 (by rw [getD_set_ne _ (by decide)] at h; exact h)), (fun h => HFF.out.2.2.2.2.2.2.2.2.2.2.2.2.2.2.2.2.2.1 (by rw [getD_set_ne _ (by decide)] at h; exact h)), (fun h => HFF.out.2.2.2.2.2.2.2.2.2.2.2.2.2.2.2.2.2.2.1 (by rw [getD_set_ne _ (by decide)] at h; exact h)), (fun h => HFF.out.2.2.2.2.2.2.2.2.2.2.2.2.2.2.2.2.2.2.2.1 (by rw [getD_set_ne _ (by decide)] at h; exact h)), (fun h => HFF.out.2.2.2.2.2.2.2.2.2.2.2.2.2.2.2.2.2.2.2.2.1 (by rw [getD_set_ne _ (by decide)] at h; exact h)), (fun h => HFF.out.2.2.2.2.2.2.2.2.2.2.2.2.2.2.2.2.2.2.2.2.2.1 (by rw [getD_set_ne _ (by decide)] at h; exact h)), (fun h => HFF.out.2.2.2.2.2.2.2.2.2.2.2.2.2.2.2.2.2.2.2.2.2.2.1 (by rw [getD_set_ne _ (by decide)] at h; exact h)), (fun h => HFF.out.2.2.2.2.2.2.2.2.2.2.2.2.2.2.2.2.2.2.2.2.2.2.2.1 (by rw [getD_set_ne _ (by decide)] at h; exact h)), (fun h => HFF.out.2.2.2.2.2.2.2.2.2.2.2.2.2.2.2.2.2.2.2.2.2.2.2.2.1 (by rw [getD_set_ne _ (by decide)] at h; exact h)), (fun h => HFF.out.2.2.2.2.2.2.2.2.2.2.2.2.2.2.2.2.2.2.2.2.2.2.2.2.2 (by rw [getD_set_ne _ (by decide)] at h; exact h)), HO.out.2.2.st i _, (fun h => by rw [getD_set_ne _ (by decide), c26] at h; cases h), ?_, ?_⟩
              · intro h
                rw [getD_set_ne _ (by decide)] at h
                obtain ⟨g, e25, z1⟩ := H25.out h
                exact ⟨g, e25, fun h => by rw [getD_set_ne _ (by decide), c26] at h; cases h⟩
              · intro _; exact ⟨A6, c6, _, e26, HO.out.1, HO.out.2.1, HO.out.2.2, (fun h => by rw [get_set HUN.out] at h; cases h), fun _ => rfl⟩
            · exact absurd ho (by simp)
          · intro li a W hJ3 hall
            obtain ⟨v, rfl, f0, f1, f2, f3, f4, f5, f6, f7, f8, f9, f10, f11, f12, f13, f14, f15, f16, f17, f18, f19, f20, f21, f22, f23, f24, f27, hA, hB, h25, h26⟩ := (HJ3.out _ _ _).1 hJ3
            obtain ⟨A6, c6, W1, e26, o1, o2, o3, o4, o5⟩ := h26 (hall 26 (by show 26 < 29; omega))
            obtain rfl := o5 (hall 28 (by show 28 < 29; omega))
            clear o4 o5 hA hB h25 h26 hall hJ3 f0 f1 f2 f3 f4 f5 f6 f7 f8 f9 f10 f11 f12 f13 f14 f15 f16 f17 f18 f19 f20 f21 f22 f23 f24 f27
            have HO := Lib.hid (And.intro o1 (And.intro o2 o3))
            clear o1 o2 o3
            go_wp2
            go_roundw
            case rel =>
              refine ⟨j + 1, ds.setIfInBounds i _, _, _, rfl, by omega, by go_num, HO.out.2.1.st i _, by simpa using HRD.out.1, HRD.out.2.1.set _, fun p h1 h2 => by rw [Array.getElem?_setIfInBounds_ne (by omega)]; exact HRD.out.2.2.1 p h1 h2, by rw [Array.getElem?_setIfInBounds_self_of_lt (by rw [HRD.out.1]; exact hin)], ?_, HO.out.2.2.st i _⟩
              rw [HN.out]
              exact ownsRow_setCell_below HO.out.1 (a := ⟨h, i, none⟩) hlth _
            case measure => simp [intOf]; omega
        · obtain rfl : j = m := by omega
          have ho := HOW.out
          rw [List.take_of_length_le (by rw [crow_len]; exact Nat.le_refl _)] at ho
          obtain ⟨r, cc, rfl, hcc, hrr⟩ := row_form ho (by omega)
          have zr := own_zi ho (crow_len X Y j i)
          have HBW := Lib.hid hbw
          have HF : Hid (RC wq h j (i + 1) ds (crow X Y j)) := fun p hp => by
            rcases Nat.lt_or_ge p i with h1 | h1
            · exact (HRD.out.2.1.ch HCH.out) p h1
            · obtain rfl : p = i := by omega
              exact ⟨r, cc, HRD.out.2.2.2, by omega, zr⟩
          clear hbk hds hrc hnil hu hown hch hbw ho zr
          go_wp2
          go_roundw
          case rel => exact ⟨i + 1, ds, _, rfl, by omega, by go_num, HBK2.out, HRD.out.1, HF.out, fun p h1 h2 => HRD.out.2.2.1 p (by omega) h2, HBW.out⟩
          case measure => simp [intOf]; omega
    · obtain rfl : i = n := by omega
      go_wp2
      go_ret
      refine ⟨h, rfl, ⟨hlth, fun p hp => ?_⟩, HB.out⟩
      obtain ⟨r, c, e1, e2, e3⟩ := HRC.out.2.1 p hp
      exact ⟨r, c, by rw [HBK.out.cell p]; exact e1, e3⟩
end Go.Proofs.Ythmdponfigepjaa.R14
