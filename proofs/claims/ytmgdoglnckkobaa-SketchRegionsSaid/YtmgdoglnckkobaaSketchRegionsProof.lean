/- That the law SketchRegions returns true for every input that can be read, and leaves its arguments as they were; no further condition. -/
import Derived.Test.YtmgdoglnckkobaaRows
import Derived.WalkKit
import Derived.ProofKit
import Derived.OpenShut
import Derived.Test.YtmgdoglnckkobaaGs1
import Derived.Test.YtmgdoglnckkobaaGs2
import Derived.Test.YtmgdoglnckkobaaGs3
import Derived.Test.YtmgdoglnckkobaaGs4
import Derived.Test.YtmgdoglnckkobaaGs5
import Derived.Test.YtmgdoglnckkobaaGs6
import Derived.Test.YtmgdoglnckkobaaGs7
import Derived.ShutString
import Derived.ChangeOld
import Derived.Below
namespace Go.Proofs.Ytmgdoglnckkobaa.sketchRegions
open Go.ChangeShapes Go.WideShapes Go.ChangeAt Go.RowKit Wo
open Go.ChangeMaps (open_string shut_string)
set_option linter.unusedVariables false

theorem own : ownKnob Try.prog.godebug = none := by kernel_rfl
theorem laidOut : laidOutB Try.prog = true := by kernel_rfl

/-- WHAT THE WALK IS TOLD OF A SLICE OF INTEGERS THAT CAME IN: it is nil; or it leads to a row of 'cap' cells, the numbers 'zs' (the first 'len' are its elements, the rest its spare room), each fitting its kind. -/
def IsRow (k : IntKind) (w : World) (a : Option Addr) (len cap : Nat) (zs : List Int) : Prop :=
  (a = none ∧ len = 0 ∧ cap = 0 ∧ zs = []) ∨
  ∃ x, a = some x ∧ len ≤ cap ∧ cap ≤ maxLen ∧ zs.length = cap ∧ (∀ i, i < zs.length → w.cell? (x.add i) = some (.int k (zs.getD i 0))) ∧ ∀ n ∈ zs, (Lit.int k n).wf = true

open Go.Proofs.Ytmgdoglnckkobaa.Wd (Rp rgn rgn_len sys sys_len sys_wv Wv Us Sv Sx Wx SomeOf SomeUp zi_ch0) in
open Go.Proofs.Ytmgdoglnckkobaa.Sk Go.Proofs.Ytmgdoglnckkobaa.Nr Go.Proofs.Ytmgdoglnckkobaa.Pc Go.Proofs.Ytmgdoglnckkobaa.Wi Go.Proofs.Ytmgdoglnckkobaa.Wo Go.Proofs.Ytmgdoglnckkobaa.Sr Go.Proofs.Ytmgdoglnckkobaa.Ra Go.Proofs.Ytmgdoglnckkobaa.Ch in
set_option maxHeartbeats 16000000 in
set_option maxRecDepth 100000 in
set_option linter.unusedSimpArgs false in
theorem walk (a0 : Option Addr) (len0 cap0 : Nat) (z0 : List Int) (w : World) (w0 : IsRow .i64 w a0 len0 cap0 z0) :
    Calls Try.prog 5 #[.slice a0 len0 cap0] w fun e w' => e = .returned (.bool true) ∧ Below w.heap.size w w' := by
  have AW : Hid (∀ W, Calls Try.prog 44 #[] W fun e w' => e = .returned (.bool true) ∧ Bel W w') := awake_any
  go_enter Try.func5, Try.ntmps5
  go_wp2_with fail
  go_at_call 7
  refine (new_any a0 len0 cap0 z0 w w0).mono ?_
  rintro e v1 ⟨g, rfl, hg, ho1, hb1⟩
  have HO1 := Lib.hid ho1
  have HB1 := Lib.hid hb1
  clear ho1 hb1 w0
  go_wp2_with fail
  go_at_call 34
  refine (normal_any g _ (HO1.out.bel (by repeat (first | exact Bel.rf | (with_reducible refine Bel.drwN ?_ _) | (with_reducible refine Bel.drw ?_) | (with_reducible refine Bel.al ?_ _))))).mono ?_
  rintro e v2 ⟨m, n, A, nc, cc, C, rfl, hs, hz, hf, ho2, hc2⟩
  have HS := Lib.hid hs
  have HO2 := Lib.hid ho2
  have HZC := Lib.hid hz
  have HBW : Hid (Bel w v2) := Bel.ch HB1.out ((Ch.of_bel (by repeat (first | exact Bel.rf | (with_reducible refine Bel.drwN ?_ _) | (with_reducible refine Bel.drw ?_) | (with_reducible refine Bel.al ?_ _)))).tr hc2) hg
  have HNA : Hid (∀ ad, A = some ad → 0 < nc → ad.block ≠ g) := fun ad e h0 => by have := hf h0 ad e; have := HO1.out.lt; (try simp at this); omega
  have n1 := hs.n1
  have n8 := hs.n8
  have m2 := hs.m2
  have m32 := hs.m32
  have nm := hs.nm
  have HG := Lib.hid hg
  have HGL : Hid (g < v2.heap.size) := ho2.lt
  clear hs hz hf ho2 hc2 hg
  have HX2 : Hid (Bk (v2.alloc (.cells #[.int .i64 3, .int .i64 0, .int .i64 0, .int .i64 (m : Int), .int .i64 (n : Int), .slice A nc cc] 56)) v2.heap.size 56 #[.int .i64 3, .int .i64 0, .int .i64 0, .int .i64 (m : Int), .int .i64 (n : Int), .slice A nc cc]) := Bk.nw _ _ _
  have HB2 : Hid (Bel v2 (v2.alloc (.cells #[.int .i64 3, .int .i64 0, .int .i64 0, .int .i64 (m : Int), .int .i64 (n : Int), .slice A nc cc] 56))) := Bel.rf.al _
  have nq2 : v2.heap.size ≠ g := by have := HGL.out; omega
  unfold Go.Proofs.Ytmgdoglnckkobaa.Wd.Sx
  have k3 := HX2.out.cell 3
  simp only [List.getElem?_toArray, List.getElem?_cons_zero, List.getElem?_cons_succ] at k3
  go_wp2_with fail
  go_at_call 9
  refine (list_any g m (by omega) _ (HO2.out.bel (by repeat (first | exact Bel.rf | (with_reducible refine Bel.drwN ?_ _) | (with_reducible refine Bel.drw ?_) | (with_reducible refine Bel.al ?_ _))))).mono ?_
  rintro e v3 ⟨vq, Q, rfl, hoq, hlq, hsq, ho3, hc3⟩
  obtain ⟨hq, cq, rfl, mcq, hbq⟩ := row_form hoq (by omega)
  have HC3 : Hid (Ch g v2 v3) := (Ch.of_bel (by repeat (first | exact Bel.rf | (with_reducible refine Bel.drwN ?_ _) | (with_reducible refine Bel.drw ?_) | (with_reducible refine Bel.al ?_ _)))).tr hc3
  have HX3 : Hid (Bk v3 v2.heap.size 56 #[.int .i64 3, .int .i64 0, .int .i64 0, .int .i64 (m : Int), .int .i64 (n : Int), .slice A nc cc]) := hc3.bk (by repeat (first | exact HX2.out | (with_reducible refine Bk.drwN ?_ _) | (with_reducible refine Bk.drw ?_) | (with_reducible refine Bk.al ?_ _))) nq2
  have HZQ3 : Hid (Zi v3 (some ⟨hq, 0, none⟩) m Q) := own_zi hoq hlq
  have HNQ : Hid (∀ ad, (some (⟨hq, 0, none⟩ : Addr)) = some ad → ad.block ≠ g) := fun ad e => by cases e; have := HGL.out; (try simp at hbq); show hq ≠ g; omega
  have HSQ : Hid (Sam Q ∧ Q.length = m ∧ m ≤ cq) := ⟨hsq, hlq, mcq⟩
  have HO3 := Lib.hid ho3
  clear hoq hlq hsq ho3 hc3 mcq hbq k3
  go_wp2_with fail
  go_at_call 35
  refine (near_any g (some ⟨hq, 0, none⟩) cq m Q (by omega) (by omega) HSQ.out.1 _ (HO3.out.bel (by repeat (first | exact Bel.rf | (with_reducible refine Bel.drwN ?_ _) | (with_reducible refine Bel.drw ?_) | (with_reducible refine Bel.al ?_ _)))) (HZQ3.out.bel (by repeat (first | exact Bel.rf | (with_reducible refine Bel.drwN ?_ _) | (with_reducible refine Bel.drw ?_) | (with_reducible refine Bel.al ?_ _)))) HNQ.out).mono ?_
  rintro e v4 ⟨vx, X, rfl, hox, hlx, hsx, ho4, hc4⟩
  obtain ⟨hx, cx, rfl, mcx, hbx⟩ := row_form hox (by omega)
  have HC4 : Hid (Ch g v2 v4) := HC3.out.tr ((Ch.of_bel (by repeat (first | exact Bel.rf | (with_reducible refine Bel.drwN ?_ _) | (with_reducible refine Bel.drw ?_) | (with_reducible refine Bel.al ?_ _)))).tr hc4)
  have HZX4 : Hid (Zi v4 (some ⟨hx, 0, none⟩) m X) := own_zi hox hlx
  have HNX : Hid (g < hx) := by have h1 := HGL.out; have h2 := HC3.out.sz; show g < hx; (try simp at hbx); omega
  have HSX : Hid (Sam X ∧ X.length = m ∧ m ≤ cx) := ⟨hsx, hlx, mcx⟩
  have hc34 : Ch g v3 v4 := (Ch.of_bel (by repeat (first | exact Bel.rf | (with_reducible refine Bel.drwN ?_ _) | (with_reducible refine Bel.drw ?_) | (with_reducible refine Bel.al ?_ _)))).tr hc4
  have HX4 : Hid (Bk v4 v2.heap.size 56 #[.int .i64 3, .int .i64 0, .int .i64 0, .int .i64 (m : Int), .int .i64 (n : Int), .slice A nc cc]) := hc34.bk HX3.out nq2
  have HZQ4 : Hid (Zi v4 (some ⟨hq, 0, none⟩) m Q) := HZQ3.out.ch hc34 HNQ.out
  have HO4 := Lib.hid ho4
  clear hox hlx hsx ho4 hc4 mcx hbx hc34
  go_wp2_with fail
  go_at_call 10
  refine (n_any g 3 (by decide) (by decide) _ (HO4.out.bel (by repeat (first | exact Bel.rf | (with_reducible refine Bel.drwN ?_ _) | (with_reducible refine Bel.drw ?_) | (with_reducible refine Bel.al ?_ _))))).mono ?_
  rintro e v5 ⟨y, rfl, y0, y3, ho5, hc5⟩
  have hc45 : Ch g v4 v5 := (Ch.of_bel (by repeat (first | exact Bel.rf | (with_reducible refine Bel.drwN ?_ _) | (with_reducible refine Bel.drw ?_) | (with_reducible refine Bel.al ?_ _)))).tr hc5
  have HC5 : Hid (Ch g v2 v5) := HC4.out.tr hc45
  have HZX5 : Hid (Zi v5 (some ⟨hx, 0, none⟩) m X) := HZX4.out.ch hc45 (fun ad e => by cases e; have := HNX.out; show hx ≠ g; omega)
  have HX5 : Hid (Bk v5 v2.heap.size 56 #[.int .i64 3, .int .i64 0, .int .i64 0, .int .i64 (m : Int), .int .i64 (n : Int), .slice A nc cc]) := hc45.bk HX4.out nq2
  have HZQ5 : Hid (Zi v5 (some ⟨hq, 0, none⟩) m Q) := HZQ4.out.ch hc45 HNQ.out
  have HO5 := Lib.hid ho5
  clear ho5 hc5 hc45
  have k3 := HX5.out.cell 3
  simp only [List.getElem?_toArray, List.getElem?_cons_zero, List.getElem?_cons_succ] at k3
  obtain ⟨cb, hcb⟩ : ∃ cb, (y == (0 : Int)) = cb := ⟨_, rfl⟩
  go_upto_if 30 with fail
  go_cut [6] (fun s6 wx => ∃ (h6 c6 : Nat) (X6 : List Int) (V : World), V = wx ∧ s6 = .slice (some ⟨h6, 0, none⟩) m c6 ∧ (Sam X6 ∧ X6.length = m ∧ m ≤ c6) ∧ g < h6 ∧ Zi wx (some ⟨h6, 0, none⟩) m X6 ∧ Ok wx g ∧ Ch g v5 wx)
  case first =>
    cases cb
    · go_wp2_with fail
      go_meet
      case rel => exact ⟨hx, cx, X, _, rfl, rfl, HSX.out, HNX.out, HZX5.out.bel (by repeat (first | exact Bel.rf | (with_reducible refine Bel.drwN ?_ _) | (with_reducible refine Bel.drw ?_) | (with_reducible refine Bel.al ?_ _))), HO5.out.bel (by repeat (first | exact Bel.rf | (with_reducible refine Bel.drwN ?_ _) | (with_reducible refine Bel.drw ?_) | (with_reducible refine Bel.al ?_ _))), Ch.of_bel (by repeat (first | exact Bel.rf | (with_reducible refine Bel.drwN ?_ _) | (with_reducible refine Bel.drw ?_) | (with_reducible refine Bel.al ?_ _)))⟩
    · go_wp2_with fail
      go_at_call 9
      refine (list_any g m (by omega) _ (HO5.out.bel (by repeat (first | exact Bel.rf | (with_reducible refine Bel.drwN ?_ _) | (with_reducible refine Bel.drw ?_) | (with_reducible refine Bel.al ?_ _))))).mono ?_
      rintro e v6 ⟨vz, Z, rfl, hoz, hlz, hsz, ho6, hc6⟩
      obtain ⟨hz, cz, rfl, mcz, hbz⟩ := row_form hoz (by omega)
      have HZZ : Hid (Zi v6 (some ⟨hz, 0, none⟩) m Z) := own_zi hoz hlz
      have HSZ : Hid ((Sam Z ∧ Z.length = m ∧ m ≤ cz) ∧ g < hz) := ⟨⟨hsz, hlz, mcz⟩, by have h1 := HGL.out; have h2 := HC5.out.sz; (try simp at hbz); omega⟩
      have HO6 := Lib.hid ho6
      have HC6 : Hid (Ch g v5 v6) := (Ch.of_bel (by repeat (first | exact Bel.rf | (with_reducible refine Bel.drwN ?_ _) | (with_reducible refine Bel.drw ?_) | (with_reducible refine Bel.al ?_ _)))).tr hc6
      clear hoz hlz hsz ho6 hc6 mcz hbz
      go_wp2_with fail
      go_meet
      case rel => exact ⟨hz, cz, Z, _, rfl, rfl, HSZ.out.1, HSZ.out.2, HZZ.out.bel (by repeat (first | exact Bel.rf | (with_reducible refine Bel.drwN ?_ _) | (with_reducible refine Bel.drw ?_) | (with_reducible refine Bel.al ?_ _))), HO6.out.bel (by repeat (first | exact Bel.rf | (with_reducible refine Bel.drwN ?_ _) | (with_reducible refine Bel.drw ?_) | (with_reducible refine Bel.al ?_ _))), HC6.out.tr (Ch.of_bel (by repeat (first | exact Bel.rf | (with_reducible refine Bel.drwN ?_ _) | (with_reducible refine Bel.drw ?_) | (with_reducible refine Bel.al ?_ _))))⟩
  case rest =>
  obtain ⟨h6, c6, X6, v6, hv6, rfl, hsx6, hg6, hzx6, ho6, hc6⟩ := hcut
  subst hv6
  have HC6 : Hid (Ch g v2 v6) := HC5.out.tr hc6
  have HX6 : Hid (Bk v6 v2.heap.size 56 #[.int .i64 3, .int .i64 0, .int .i64 0, .int .i64 (m : Int), .int .i64 (n : Int), .slice A nc cc]) := hc6.bk HX5.out nq2
  have HZX := Lib.hid hzx6
  have HSX6 := Lib.hid hsx6
  have HG6 := Lib.hid hg6
  have HO6 := Lib.hid ho6
  have HZQ6 : Hid (Zi v6 (some ⟨hq, 0, none⟩) m Q) := HZQ5.out.ch hc6 HNQ.out
  clear hsx6 hg6 hzx6 ho6 hc6 k3
  have HZC6 : Hid (Zi v6 A nc C) := zi_ch0 HZC.out HC6.out HNA.out
  have OF : Hid (∀ W, Zi W A nc C → Zi W (some ⟨h6, 0, none⟩) m X6 → Calls Try.prog 36 #[.agg #[.int .i64 3, .int .i64 0, .int .i64 0, .int .i64 (m : Int), .int .i64 (n : Int), .slice A nc cc], .slice (some ⟨h6, 0, none⟩) m c6] W (SomeOf n (Go.Proofs.Ytmgdoglnckkobaa.Wd.sys 3 C X6 m n) W)) := fun W h1 h2 => Wd.rof_ok 3 0 0 m n A nc cc C h6 c6 X6 HS.out HSX6.out.1 W h1 h2
  have RGN : Hid (∀ S B uA vA uc vc W, Wv n S B → Zi W A nc C → Zi W uA n S → Zi W vA n B → Calls Try.prog 37 #[.agg #[.int .i64 3, .int .i64 0, .int .i64 0, .int .i64 (m : Int), .int .i64 (n : Int), .slice A nc cc], .agg #[.slice uA n uc, .slice vA n vc]] W fun e w' => ∃ h c, e = .returned (.tuple #[.slice (some ⟨h, 0, none⟩) n c, .int .i64 0]) ∧ Zv w' h n (rgn n C S B) ∧ W.heap.size ≤ h ∧ Bel W w') := fun S B uA vA uc vc W h0 h1 h2 h3 => Wd.rregion_ok 3 0 0 m n A uA vA nc cc uc vc C S B HS.out h0 W h1 h2 h3
  have HF16 : Hid (∀ p, p < n → 0 ≤ (Go.Proofs.Ytmgdoglnckkobaa.Wd.sys 3 C X6 m n).getD p 0 ∧ (Go.Proofs.Ytmgdoglnckkobaa.Wd.sys 3 C X6 m n).getD p 0 < 16) := fun p hp => by
    rw [Wd.sys_at _ _ _ _ _ _ hp]; have := Wd.sym_le C (Wd.cdl 3 X6 m n p); have := HS.out.cv.1; omega
  have j0 := HX6.out.cell 0
  have j1 := HX6.out.cell 1
  have j2 := HX6.out.cell 2
  have j3 := HX6.out.cell 3
  have j4 := HX6.out.cell 4
  have j5 := HX6.out.cell 5
  have jl := HX6.out.lt
  simp only [List.getElem?_toArray, List.getElem?_cons_zero, List.getElem?_cons_succ] at j0 j1 j2 j3 j4 j5
  go_wp2_with fail
  go_at_call 36
  refine (OF.out _ (HZC6.out.bel (by repeat (first | exact Bel.rf | (with_reducible refine Bel.drwN ?_ _) | (with_reducible refine Bel.drw ?_) | (with_reducible refine Bel.al ?_ _)))) (HZX.out.bel (by repeat (first | exact Bel.rf | (with_reducible refine Bel.drwN ?_ _) | (with_reducible refine Bel.drw ?_) | (with_reducible refine Bel.al ?_ _))))).mono ?_
  rintro e v7 ⟨sA, bA, sc, bc, rfl, hzs, hzb, hb7, hfs, hfb⟩
  have hb67 : Bel v6 v7 := Bel.tr (by repeat (first | exact Bel.rf | (with_reducible refine Bel.drwN ?_ _) | (with_reducible refine Bel.drw ?_) | (with_reducible refine Bel.al ?_ _))) hb7
  have HX7 : Hid (Bk v7 v2.heap.size 56 #[.int .i64 3, .int .i64 0, .int .i64 0, .int .i64 (m : Int), .int .i64 (n : Int), .slice A nc cc]) := HX6.out.bel hb67
  have HC7 : Hid (Ch g v2 v7) := HC6.out.tr (Ch.of_bel hb67)
  have HZC7 : Hid (Zi v7 A nc C) := HZC6.out.bel hb67
  have HZQ7 : Hid (Zi v7 (some ⟨hq, 0, none⟩) m Q) := HZQ6.out.bel hb67
  have HZX7 : Hid (Zi v7 (some ⟨h6, 0, none⟩) m X6) := HZX.out.bel hb67
  have HO7 : Hid (Ok v7 g) := HO6.out.bel hb67
  have HZS7 := Lib.hid hzs
  have HGL7 : Hid (g < v7.heap.size) := HO7.out.lt
  have UP : Hid (∀ W, Ok W g → Zi W sA n (Go.Proofs.Ytmgdoglnckkobaa.Wd.sys 3 C X6 m n) → Calls Try.prog 38 #[.pointer (some ⟨g, 0, none⟩), .agg #[.slice sA n sc, .slice bA n bc]] W (SomeUp g n (Go.Proofs.Ytmgdoglnckkobaa.Wd.sys 3 C X6 m n) W)) := fun W h1 h2 => Wd.upper_any g n n1 n8 sA bA sc bc _ HF16.out W h1 h2 (fun ad e => by have h1 := hfs n1 ad e; have h2 := HO6.out.lt; (try simp at h1); omega)
  have HKW : Hid (Bk (v7.alloc (.cells #[.slice sA n sc, .slice bA n bc] 59)) v7.heap.size 59 #[.slice sA n sc, .slice bA n bc]) := Bk.nw _ _ _
  clear j0 j1 j2 j3 j4 j5 jl hzs hzb hb7 hfb hb67
  unfold Go.Proofs.Ytmgdoglnckkobaa.Wd.Wx
  go_upto_region 8 with fail
  refine wp_region_noPanic ?_
  refine wp_region_held_drew (S := fun W => Bk W v2.heap.size 56 #[.int .i64 3, .int .i64 0, .int .i64 0, .int .i64 (m : Int), .int .i64 (n : Int), .slice A nc cc] ∧ Bk W v7.heap.size 59 #[.slice sA n sc, .slice bA n bc]) (by kernel_rfl) ?_ (fun hH0 => ?_)
  · (try dsimp only); first | exact ⟨HX9.out.1.bel (by repeat (first | exact Bel.rf | (with_reducible refine Bel.drwN ?_ _) | (with_reducible refine Bel.drw ?_) | (with_reducible refine Bel.al ?_ _))), HX9.out.2.bel (by repeat (first | exact Bel.rf | (with_reducible refine Bel.drwN ?_ _) | (with_reducible refine Bel.drw ?_) | (with_reducible refine Bel.al ?_ _)))⟩ | exact ⟨HX8.out.1.bel (by repeat (first | exact Bel.rf | (with_reducible refine Bel.drwN ?_ _) | (with_reducible refine Bel.drw ?_) | (with_reducible refine Bel.al ?_ _))), HX8.out.2.bel (by repeat (first | exact Bel.rf | (with_reducible refine Bel.drwN ?_ _) | (with_reducible refine Bel.drw ?_) | (with_reducible refine Bel.al ?_ _)))⟩ | exact ⟨HX7.out.bel (by repeat (first | exact Bel.rf | (with_reducible refine Bel.drwN ?_ _) | (with_reducible refine Bel.drw ?_) | (with_reducible refine Bel.al ?_ _))), (by repeat (first | exact HKW.out | (with_reducible refine Bk.drwN ?_ _) | (with_reducible refine Bk.drw ?_) | (with_reducible refine Bk.al ?_ _)))⟩
  refine wpAnyH_take (i := 0) (oi := ⟨some 42, .load 56 (.tmp 4), 56, "law.go:110", #[], none⟩) (v := ?_) rfl (by kernel_rfl) (by kernel_rfl) (by kernel_rfl) (fun _ _ _ h => h) (Or.inl ⟨by first | kernel_rfl | rfl, ?_⟩) (by assumption) ?_
  rotate_left
  · (intro w hSw; (try dsimp only at hSw); obtain ⟨d1, d2⟩ := hSw; have e0 := d1.cell 0; have e1 := d1.cell 1; have e2 := d1.cell 2; have e3 := d1.cell 3; have e4 := d1.cell 4; have e5 := d1.cell 5; have f0 := d2.cell 0; have f1 := d2.cell 1; have l1 := d1.lt; have l2 := d2.lt; simp only [List.getElem?_toArray, List.getElem?_cons_zero, List.getElem?_cons_succ] at e0 e1 e2 e3 e4 e5 f0 f1; go_simp; try with_reducible rfl)
  try simp only [Act.put, List.setIfInBounds_toArray, List.set_cons_zero, List.set_cons_succ]
  refine wpAnyH_take (i := 1) (oi := ⟨some 43, .move (.tmp 3), 24, "law.go:110", #[], none⟩) (v := ?_) rfl (by kernel_rfl) (by kernel_rfl) (by kernel_rfl) (fun _ _ _ h => h) (Or.inl ⟨by first | kernel_rfl | rfl, ?_⟩) (by assumption) ?_
  rotate_left
  · (intro w hSw; (try dsimp only at hSw); obtain ⟨d1, d2⟩ := hSw; have e0 := d1.cell 0; have e1 := d1.cell 1; have e2 := d1.cell 2; have e3 := d1.cell 3; have e4 := d1.cell 4; have e5 := d1.cell 5; have f0 := d2.cell 0; have f1 := d2.cell 1; have l1 := d1.lt; have l2 := d2.lt; simp only [List.getElem?_toArray, List.getElem?_cons_zero, List.getElem?_cons_succ] at e0 e1 e2 e3 e4 e5 f0 f1; go_simp; try with_reducible rfl)
  try simp only [Act.put, List.setIfInBounds_toArray, List.set_cons_zero, List.set_cons_succ]
  refine wpAnyH_take (i := 2) (oi := ⟨some 44, .load 59 (.tmp 7), 59, "law.go:110", #[], none⟩) (v := ?_) rfl (by kernel_rfl) (by kernel_rfl) (by kernel_rfl) (fun _ _ _ h => h) (Or.inl ⟨by first | kernel_rfl | rfl, ?_⟩) (by assumption) ?_
  rotate_left
  · (intro w hSw; (try dsimp only at hSw); obtain ⟨d1, d2⟩ := hSw; have e0 := d1.cell 0; have e1 := d1.cell 1; have e2 := d1.cell 2; have e3 := d1.cell 3; have e4 := d1.cell 4; have e5 := d1.cell 5; have f0 := d2.cell 0; have f1 := d2.cell 1; have l1 := d1.lt; have l2 := d2.lt; simp only [List.getElem?_toArray, List.getElem?_cons_zero, List.getElem?_cons_succ] at e0 e1 e2 e3 e4 e5 f0 f1; go_simp; try with_reducible rfl)
  try simp only [Act.put, List.setIfInBounds_toArray, List.set_cons_zero, List.set_cons_succ]
  refine wpAnyH_ready (rs := [3]) (by kernel_rfl) (by simp) ?_
  refine AllReadyH.cons (o := ⟨some 45, .call { callee := Callee.value (.func 38), args := #[.tmp 43, .tmp 44], argTypes := #[24, 59] }, 59, "law.go:110", #[⟨1, .data⟩, ⟨2, .data⟩], none⟩) rfl (fun K hK => ?_) AllReadyH.nil
  go_simp
  go_at_call 38; refine (UP.out _ (HO7.out.bel (by repeat (first | exact Bel.rf | (with_reducible refine Bel.drwN ?_ _) | (with_reducible refine Bel.drw ?_) | (with_reducible refine Bel.al ?_ _)))) (HZS7.out.bel (by repeat (first | exact Bel.rf | (with_reducible refine Bel.drwN ?_ _) | (with_reducible refine Bel.drw ?_) | (with_reducible refine Bel.al ?_ _))))).mono ?_; rintro e x8 ⟨uA, vA, uc, vc, S, B, rfl, hwv, hus, hzu, hzv, ho8, hc8, hfu, hfv⟩; have hc78 : Ch g v7 x8 := (Ch.of_bel (by repeat (first | exact Bel.rf | (with_reducible refine Bel.drwN ?_ _) | (with_reducible refine Bel.drw ?_) | (with_reducible refine Bel.al ?_ _)))).tr hc8; have HC8 : Hid (Ch g v2 x8) := HC7.out.tr hc78; have HX8 : Hid (Bk x8 v2.heap.size 56 #[.int .i64 3, .int .i64 0, .int .i64 0, .int .i64 (m : Int), .int .i64 (n : Int), .slice A nc cc] ∧ Bk x8 v7.heap.size 59 #[.slice sA n sc, .slice bA n bc]) := ⟨hc78.bk HX7.out nq2, hc8.bk (by repeat (first | exact HKW.out | (with_reducible refine Bk.drwN ?_ _) | (with_reducible refine Bk.drw ?_) | (with_reducible refine Bk.al ?_ _))) (by have := HGL7.out; omega)⟩; have HUV : Hid (Wv n S B ∧ Us n (Go.Proofs.Ytmgdoglnckkobaa.Wd.sys 3 C X6 m n) S B ∧ Zi x8 uA n S ∧ Zi x8 vA n B) := ⟨hwv, hus, hzu, hzv⟩; have HZQ8 : Hid (Zi x8 (some ⟨hq, 0, none⟩) m Q) := HZQ7.out.ch hc78 HNQ.out; have HZX8 : Hid (Zi x8 (some ⟨h6, 0, none⟩) m X6) := HZX7.out.ch hc78 (fun ad e => by cases e; have := HG6.out; show h6 ≠ g; omega); have HZC8 : Hid (Zi x8 A nc C) := zi_ch0 HZC7.out hc78 HNA.out; clear hwv hus hzu hzv ho8 hc8 hfu hfv hc78
  try go_wp2_with fail
  refine hK.out _ _ ?_ (fun hH1 => ?_)
  · (try dsimp only); first | exact ⟨HX9.out.1.bel (by repeat (first | exact Bel.rf | (with_reducible refine Bel.drwN ?_ _) | (with_reducible refine Bel.drw ?_) | (with_reducible refine Bel.al ?_ _))), HX9.out.2.bel (by repeat (first | exact Bel.rf | (with_reducible refine Bel.drwN ?_ _) | (with_reducible refine Bel.drw ?_) | (with_reducible refine Bel.al ?_ _)))⟩ | exact ⟨HX8.out.1.bel (by repeat (first | exact Bel.rf | (with_reducible refine Bel.drwN ?_ _) | (with_reducible refine Bel.drw ?_) | (with_reducible refine Bel.al ?_ _))), HX8.out.2.bel (by repeat (first | exact Bel.rf | (with_reducible refine Bel.drwN ?_ _) | (with_reducible refine Bel.drw ?_) | (with_reducible refine Bel.al ?_ _)))⟩ | exact ⟨HX7.out.bel (by repeat (first | exact Bel.rf | (with_reducible refine Bel.drwN ?_ _) | (with_reducible refine Bel.drw ?_) | (with_reducible refine Bel.al ?_ _))), (by repeat (first | exact HKW.out | (with_reducible refine Bk.drwN ?_ _) | (with_reducible refine Bk.drw ?_) | (with_reducible refine Bk.al ?_ _)))⟩
  clear hK K hH0
  try simp only [Act.put, List.setIfInBounds_toArray, List.set_cons_zero, List.set_cons_succ]
  refine wpAnyH_ready (rs := [4]) (by kernel_rfl) (by simp) ?_
  refine AllReadyH.cons (o := ⟨some 46, .call { callee := Callee.value (.func 37), args := #[.tmp 42, .tmp 45], argTypes := #[56, 59] }, 63, "law.go:110", #[⟨0, .data⟩, ⟨3, .data⟩, ⟨3, .chain⟩], none⟩) rfl (fun K hK => ?_) AllReadyH.nil
  go_simp
  go_at_call 37; refine (RGN.out S B uA vA uc vc _ HUV.out.1 (HZC8.out.bel (by repeat (first | exact Bel.rf | (with_reducible refine Bel.drwN ?_ _) | (with_reducible refine Bel.drw ?_) | (with_reducible refine Bel.al ?_ _)))) (HUV.out.2.2.1.bel (by repeat (first | exact Bel.rf | (with_reducible refine Bel.drwN ?_ _) | (with_reducible refine Bel.drw ?_) | (with_reducible refine Bel.al ?_ _)))) (HUV.out.2.2.2.bel (by repeat (first | exact Bel.rf | (with_reducible refine Bel.drwN ?_ _) | (with_reducible refine Bel.drw ?_) | (with_reducible refine Bel.al ?_ _))))).mono ?_; rintro e x9 ⟨hr, cr, rfl, hzr, hsr, hb9⟩; have hb89 : Bel x8 x9 := Bel.tr (by repeat (first | exact Bel.rf | (with_reducible refine Bel.drwN ?_ _) | (with_reducible refine Bel.drw ?_) | (with_reducible refine Bel.al ?_ _))) hb9; have HC9 : Hid (Ch g v2 x9) := HC8.out.tr (Ch.of_bel hb89); have HX9 : Hid (Bk x9 v2.heap.size 56 #[.int .i64 3, .int .i64 0, .int .i64 0, .int .i64 (m : Int), .int .i64 (n : Int), .slice A nc cc] ∧ Bk x9 v7.heap.size 59 #[.slice sA n sc, .slice bA n bc]) := ⟨HX8.out.1.bel hb89, HX8.out.2.bel hb89⟩; have HZR9 := Lib.hid hzr; have HZQ9 : Hid (Zi x9 (some ⟨hq, 0, none⟩) m Q) := HZQ8.out.bel hb89; have HZX9 : Hid (Zi x9 (some ⟨h6, 0, none⟩) m X6) := HZX8.out.bel hb89; clear hzr hsr hb9 hb89
  try go_wp2_with fail
  refine hK.out _ _ ?_ (fun hH2 => ?_)
  · (try dsimp only); first | exact ⟨HX9.out.1.bel (by repeat (first | exact Bel.rf | (with_reducible refine Bel.drwN ?_ _) | (with_reducible refine Bel.drw ?_) | (with_reducible refine Bel.al ?_ _))), HX9.out.2.bel (by repeat (first | exact Bel.rf | (with_reducible refine Bel.drwN ?_ _) | (with_reducible refine Bel.drw ?_) | (with_reducible refine Bel.al ?_ _)))⟩ | exact ⟨HX8.out.1.bel (by repeat (first | exact Bel.rf | (with_reducible refine Bel.drwN ?_ _) | (with_reducible refine Bel.drw ?_) | (with_reducible refine Bel.al ?_ _))), HX8.out.2.bel (by repeat (first | exact Bel.rf | (with_reducible refine Bel.drwN ?_ _) | (with_reducible refine Bel.drw ?_) | (with_reducible refine Bel.al ?_ _)))⟩ | exact ⟨HX7.out.bel (by repeat (first | exact Bel.rf | (with_reducible refine Bel.drwN ?_ _) | (with_reducible refine Bel.drw ?_) | (with_reducible refine Bel.al ?_ _))), (by repeat (first | exact HKW.out | (with_reducible refine Bk.drwN ?_ _) | (with_reducible refine Bk.drw ?_) | (with_reducible refine Bk.al ?_ _)))⟩
  clear hK K hH1
  try simp only [Act.put, List.setIfInBounds_toArray, List.set_cons_zero, List.set_cons_succ]
  refine wpAnyH_take (i := 5) (oi := ⟨some 41, .move (.tmp 46), 63, "law.go:110", #[⟨4, .data⟩], none⟩) (v := ?_) rfl (by kernel_rfl) (by kernel_rfl) (by kernel_rfl) (fun _ _ _ h => h) (Or.inl ⟨by first | kernel_rfl | rfl, ?_⟩) (by assumption) ?_
  rotate_left
  · (intro w hSw; (try dsimp only at hSw); obtain ⟨d1, d2⟩ := hSw; have e0 := d1.cell 0; have e1 := d1.cell 1; have e2 := d1.cell 2; have e3 := d1.cell 3; have e4 := d1.cell 4; have e5 := d1.cell 5; have f0 := d2.cell 0; have f1 := d2.cell 1; have l1 := d1.lt; have l2 := d2.lt; simp only [List.getElem?_toArray, List.getElem?_cons_zero, List.getElem?_cons_succ] at e0 e1 e2 e3 e4 e5 f0 f1; go_simp; try with_reducible rfl)
  try simp only [Act.put, List.setIfInBounds_toArray, List.set_cons_zero, List.set_cons_succ]
  refine wpAnyH_take (i := 6) (oi := ⟨some 47, .extract (.tmp 41) 0, 62, "law.go:110", #[⟨5, .data⟩], none⟩) (v := ?_) rfl (by kernel_rfl) (by kernel_rfl) (by kernel_rfl) (fun _ _ _ h => h) (Or.inl ⟨by first | kernel_rfl | rfl, ?_⟩) (by assumption) ?_
  rotate_left
  · (intro w hSw; (try dsimp only at hSw); obtain ⟨d1, d2⟩ := hSw; have e0 := d1.cell 0; have e1 := d1.cell 1; have e2 := d1.cell 2; have e3 := d1.cell 3; have e4 := d1.cell 4; have e5 := d1.cell 5; have f0 := d2.cell 0; have f1 := d2.cell 1; have l1 := d1.lt; have l2 := d2.lt; simp only [List.getElem?_toArray, List.getElem?_cons_zero, List.getElem?_cons_succ] at e0 e1 e2 e3 e4 e5 f0 f1; go_simp; try with_reducible rfl)
  try simp only [Act.put, List.setIfInBounds_toArray, List.set_cons_zero, List.set_cons_succ]
  refine wpAnyH_take (i := 7) (oi := ⟨some 48, .extract (.tmp 41) 1, 33, "law.go:110", #[⟨5, .data⟩, ⟨8, .gcOnly Departure.lateStores⟩], none⟩) (v := ?_) rfl (by kernel_rfl) (by kernel_rfl) (by kernel_rfl) (fun _ _ _ h => h) (Or.inl ⟨by first | kernel_rfl | rfl, ?_⟩) (by assumption) ?_
  rotate_left
  · (intro w hSw; (try dsimp only at hSw); obtain ⟨d1, d2⟩ := hSw; have e0 := d1.cell 0; have e1 := d1.cell 1; have e2 := d1.cell 2; have e3 := d1.cell 3; have e4 := d1.cell 4; have e5 := d1.cell 5; have f0 := d2.cell 0; have f1 := d2.cell 1; have l1 := d1.lt; have l2 := d2.lt; simp only [List.getElem?_toArray, List.getElem?_cons_zero, List.getElem?_cons_succ] at e0 e1 e2 e3 e4 e5 f0 f1; go_simp; try with_reducible rfl)
  try simp only [Act.put, List.setIfInBounds_toArray, List.set_cons_zero, List.set_cons_succ]
  refine wpAnyH_take (i := 8) (oi := ⟨some 9, .assign (.tmp 47), 62, "law.go:110", #[⟨6, .data⟩, ⟨4, .chain⟩, ⟨0, .phase⟩, ⟨1, .phase⟩, ⟨2, .phase⟩, ⟨3, .phase⟩, ⟨4, .phase⟩, ⟨5, .phase⟩, ⟨6, .phase⟩, ⟨7, .textOnly Departure.lateStores⟩], none⟩) (v := ?_) rfl (by kernel_rfl) (by kernel_rfl) (by kernel_rfl) (fun _ _ _ h => h) (Or.inl ⟨by first | kernel_rfl | rfl, ?_⟩) (by assumption) ?_
  rotate_left
  · (intro w hSw; (try dsimp only at hSw); obtain ⟨d1, d2⟩ := hSw; have e0 := d1.cell 0; have e1 := d1.cell 1; have e2 := d1.cell 2; have e3 := d1.cell 3; have e4 := d1.cell 4; have e5 := d1.cell 5; have f0 := d2.cell 0; have f1 := d2.cell 1; have l1 := d1.lt; have l2 := d2.lt; simp only [List.getElem?_toArray, List.getElem?_cons_zero, List.getElem?_cons_succ] at e0 e1 e2 e3 e4 e5 f0 f1; go_simp; try with_reducible rfl)
  try simp only [Act.put, List.setIfInBounds_toArray, List.set_cons_zero, List.set_cons_succ]
  refine wpAnyH_take (i := 9) (oi := ⟨some 10, .assign (.tmp 48), 33, "law.go:110", #[⟨7, .data⟩, ⟨8, .chain⟩, ⟨0, .phase⟩, ⟨1, .phase⟩, ⟨2, .phase⟩, ⟨3, .phase⟩, ⟨4, .phase⟩, ⟨5, .phase⟩, ⟨6, .phase⟩, ⟨7, .phase⟩, ⟨8, .phase⟩], none⟩) (v := ?_) rfl (by kernel_rfl) (by kernel_rfl) (by kernel_rfl) (fun _ _ _ h => h) (Or.inl ⟨by first | kernel_rfl | rfl, ?_⟩) (by assumption) ?_
  rotate_left
  · (intro w hSw; (try dsimp only at hSw); obtain ⟨d1, d2⟩ := hSw; have e0 := d1.cell 0; have e1 := d1.cell 1; have e2 := d1.cell 2; have e3 := d1.cell 3; have e4 := d1.cell 4; have e5 := d1.cell 5; have f0 := d2.cell 0; have f1 := d2.cell 1; have l1 := d1.lt; have l2 := d2.lt; simp only [List.getElem?_toArray, List.getElem?_cons_zero, List.getElem?_cons_succ] at e0 e1 e2 e3 e4 e5 f0 f1; go_simp; try with_reducible rfl)
  try simp only [Act.put, List.setIfInBounds_toArray, List.set_cons_zero, List.set_cons_succ]
  refine wpAnyH_done (by kernel_rfl) ?_ _
  refine NoPanic.normal ?_
  have k4 := HX9.out.1.cell 4
  simp only [List.getElem?_toArray, List.getElem?_cons_zero, List.getElem?_cons_succ] at k4
  have OQ : Hid (∀ W, Zi W (some ⟨hq, 0, none⟩) m Q → Calls Try.prog 39 #[.slice (some ⟨hq, 0, none⟩) m cq, .int .i64 (n : Int)] W fun e w' => ∃ h c', e = .returned (.tuple #[.agg #[.int .i64 (m : Int), .slice (some ⟨h, 0, none⟩) n c', .int .i64 ((m : Int) * vr Q)], .int .i64 0]) ∧ Skz w' h n m Q ∧ Bel W w') := fun W hW => (Of_ok hq cq m n Q m2 m32 n1 n8 nm HSQ.out.2.2 HSQ.out.1 W hW).mono fun _ _ ⟨h, c', e, _, _, z, b⟩ => ⟨h, c', e, z, b⟩
  have hrg := Wd.rgn_us HS.out.cv HUV.out.1 HUV.out.2.1 HSX6.out.1 HSX6.out.2.1 m2 m32 n1 nm
  have hrb := Wd.rgn_bd HS.out.cv n S B
  have hrn := Wd.rgn_nor HS.out.cv HUV.out.1 HUV.out.2.1 HSX6.out.1 HSX6.out.2.1 m2 m32 n1 nm
  have hgp := rT_gap m2 m32 n1 nm HSQ.out.2.1 HSX6.out.2.1 HSQ.out.1 HSX6.out.1 hrn
  have hrC := rC_pos (m := m) (n := n) (X := Q) m32 n1 nm
  have v := vr_le HSQ.out.1 (by have := HSQ.out.2.1; omega)
  have u := vr_le HSX6.out.1 (by have := HSX6.out.2.1; omega)
  have cs := pr_cs (X := Q) (Y := X6) (by rw [HSQ.out.2.1, HSX6.out.2.1])
  have rl := r_vl (c := pr Q X6) v.1 u.1 v.2 u.2 cs
  have gi := gap_in v.1 u.1 v.2 u.2 cs
  have HRLE : Hid (∀ p, p < n → ((rgn n C S B).getD p (0, 0)).1 ≤ ((rgn n C S B).getD p (0, 0)).2) := fun p hp => Int.le_trans (hrg p hp).1 (hrg p hp).2
  have HRBD := Lib.hid hrb
  obtain ⟨L, hL⟩ : ∃ L, rgn n C S B = L := ⟨_, rfl⟩
  have HZR9' : Hid (Zv x9 hr n L) := by show Zv _ _ _ _; rw [← hL]; exact HZR9.out
  rw [hL] at HRLE HRBD hgp
  have SR : Hid (∀ h c W, Skz W h n m Q → Zv W hr n L → Calls Try.prog 40 #[.agg #[.int .i64 (m : Int), .slice (some ⟨h, 0, none⟩) n c, .int .i64 ((m : Int) * vr Q)], .slice (some ⟨hr, 0, none⟩) n cr] W fun e w' => (∃ t u, e = .returned (.tuple #[.agg #[.int .i64 t, .int .i64 u], .int .i64 0]) ∧ Vl t u (rT m n Q L) (rC m n Q)) ∧ Bel W w') := fun h c W h1 h2 => sreg_ok h c m n hr cr Q L m2 m32 n1 n8 nm HSQ.out.1 HSQ.out.2.1 HRBD.out HRLE.out W h1 h2
  have RG : Hid (∀ W, Zi W (some ⟨hq, 0, none⟩) m Q → Zi W (some ⟨h6, 0, none⟩) m X6 → Calls Try.prog 41 #[.slice (some ⟨hq, 0, none⟩) m cq, .slice (some ⟨h6, 0, none⟩) m c6] W fun e w' => e = .returned (.tuple #[.agg #[.int .i64 (rN (vr Q) (vr X6) (pr Q X6)), .int .i64 (rD (vr Q) (vr X6) (pr Q X6))], .int .i64 0]) ∧ Bel W w') := fun W h1 h2 => rGap_ok (some ⟨hq, 0, none⟩) (some ⟨h6, 0, none⟩) cq c6 m Q X6 m2 m32 HSQ.out.1 HSX6.out.1 W h1 h2
  have CM : Hid (∀ t u W, Vl t u (rT m n Q L) (rC m n Q) → Calls Try.prog 43 #[.agg #[.int .i64 t, .int .i64 u], .agg #[.int .i64 (rN (vr Q) (vr X6) (pr Q X6)), .int .i64 (rD (vr Q) (vr X6) (pr Q X6))]] W fun e w' => ∃ c, e = .returned (.int .i64 c) ∧ c ≤ 0 ∧ Bel W w') := fun t u W h => by
    have h1 := vl_scale (k := gD (vr Q) (vr X6)) h
    have h2 := vl_scale (k := rC m n Q) rl
    rw [Int.mul_comm (gD (vr Q) (vr X6)) (rC m n Q)] at h2
    exact cmp_le (by have := Int.mul_le_mul hrC gi.2.2.1 (by decide) (by omega); omega) h1 h2 hgp W
  obtain ⟨E, hE⟩ : ∃ E, (m : Int) * vr Q = E := ⟨_, rfl⟩
  obtain ⟨r1, hr1⟩ : ∃ c, rN (vr Q) (vr X6) (pr Q X6) = c := ⟨_, rfl⟩
  obtain ⟨r2, hr2⟩ : ∃ c, rD (vr Q) (vr X6) (pr Q X6) = c := ⟨_, rfl⟩
  rw [hE] at OQ SR
  rw [hr1, hr2] at RG CM
  clear hrg hrb hrn hgp hrC v u cs rl gi hL hE hr1 hr2
  go_wp2_with fail
  go_at_call 39
  refine (OQ.out _ (HZQ9.out.bel (by repeat (first | exact Bel.rf | (with_reducible refine Bel.drwN ?_ _) | (with_reducible refine Bel.drw ?_) | (with_reducible refine Bel.al ?_ _))))).mono ?_
  rintro e v10 ⟨hs1, ks1, rfl, hz1, hb⟩
  have hb9 : Bel x9 v10 := Bel.tr (by repeat (first | exact Bel.rf | (with_reducible refine Bel.drwN ?_ _) | (with_reducible refine Bel.drw ?_) | (with_reducible refine Bel.al ?_ _))) hb
  have HBA : Hid (Bel x9 (v10.alloc (.cells #[.int .i64 (m : Int), .slice (some ⟨hs1, 0, none⟩) n ks1, .int .i64 E] 67))) := hb9.al _
  have HKA : Hid (Bk (v10.alloc (.cells #[.int .i64 (m : Int), .slice (some ⟨hs1, 0, none⟩) n ks1, .int .i64 E] 67)) v10.heap.size 67 #[.int .i64 (m : Int), .slice (some ⟨hs1, 0, none⟩) n ks1, .int .i64 E]) := Bk.nw _ _ _
  have HZA : Hid (Skz v10 hs1 n m Q) := hz1
  clear hb hb9 hz1 k4
  go_wp2_with fail
  go_at_call 40
  refine (SR.out hs1 ks1 _ (HZA.out.bel (by repeat (first | exact Bel.rf | (with_reducible refine Bel.drwN ?_ _) | (with_reducible refine Bel.drw ?_) | (with_reducible refine Bel.al ?_ _)))) (HZR9'.out.bel ((by repeat (first | exact HBA.out | (with_reducible refine Bel.drwN ?_ _) | (with_reducible refine Bel.drw ?_) | (with_reducible refine Bel.al ?_ _)))))).mono ?_
  rintro e v11 ⟨⟨t, u, rfl, hvl⟩, hb⟩
  have HBB : Hid (Bel x9 v11) := HBA.out.tr (Bel.tr (by repeat (first | exact Bel.rf | (with_reducible refine Bel.drwN ?_ _) | (with_reducible refine Bel.drw ?_) | (with_reducible refine Bel.al ?_ _))) hb)
  have HVL := Lib.hid hvl
  have VT : Hid (∀ W, _) := fun W => Go.Proofs.Ytmgdoglnckkobaa.Ra.rvalid_ok t u hvl.1 W
  clear hb hvl
  have HKV : Hid (Bk (v11.alloc (.cells #[.int .i64 t, .int .i64 u] 37)) v11.heap.size 37 #[.int .i64 t, .int .i64 u]) := Bk.nw _ _ _
  go_wp2_with fail
  go_at_call 41
  refine (RG.out _ (HZQ9.out.bel ((by repeat (first | exact HBB.out | (with_reducible refine Bel.drwN ?_ _) | (with_reducible refine Bel.drw ?_) | (with_reducible refine Bel.al ?_ _))))) (HZX9.out.bel ((by repeat (first | exact HBB.out | (with_reducible refine Bel.drwN ?_ _) | (with_reducible refine Bel.drw ?_) | (with_reducible refine Bel.al ?_ _)))))).mono ?_
  rintro e v12 ⟨rfl, hb⟩
  have HBC : Hid (Bel x9 v12) := HBB.out.tr (Bel.tr (by repeat (first | exact Bel.rf | (with_reducible refine Bel.drwN ?_ _) | (with_reducible refine Bel.drw ?_) | (with_reducible refine Bel.al ?_ _))) hb)
  have KV := (HKV.out).bel (Bel.tr (by repeat (first | exact Bel.rf | (with_reducible refine Bel.drwN ?_ _) | (with_reducible refine Bel.drw ?_) | (with_reducible refine Bel.al ?_ _))) hb)
  have x0 : v12.cell? ⟨v11.heap.size, 0, none⟩ = some (.int .i64 t) := KV.cell 0
  have x1 : v12.cell? ⟨v11.heap.size, 1, none⟩ = some (.int .i64 u) := KV.cell 1
  have lx := KV.lt
  have HKV2 := Lib.hid KV
  have HKG : Hid (Bk (v12.alloc (.cells #[.int .i64 r1, .int .i64 r2] 37)) v12.heap.size 37 #[.int .i64 r1, .int .i64 r2]) := Bk.nw _ _ _
  clear hb KV
  go_wp2_with fail
  go_at_call 42
  refine (VT.out _).mono ?_
  rintro e v13 ⟨rfl, hb⟩
  have hbx : Bel (v12.alloc (.cells #[.int .i64 r1, .int .i64 r2] 37)) v13 := Bel.tr (by repeat (first | exact Bel.rf | (with_reducible refine Bel.drwN ?_ _) | (with_reducible refine Bel.drw ?_) | (with_reducible refine Bel.al ?_ _))) hb
  have HBD : Hid (Bel x9 v13) := (HBC.out.al _).tr hbx
  have KV := (HKV2.out.al _).bel hbx
  have KG := HKG.out.bel hbx
  have y0 : v13.cell? ⟨v11.heap.size, 0, none⟩ = some (.int .i64 t) := KV.cell 0
  have y1 : v13.cell? ⟨v11.heap.size, 1, none⟩ = some (.int .i64 u) := KV.cell 1
  have z0 : v13.cell? ⟨v12.heap.size, 0, none⟩ = some (.int .i64 r1) := KG.cell 0
  have z1 : v13.cell? ⟨v12.heap.size, 1, none⟩ = some (.int .i64 r2) := KG.cell 1
  have ly := KV.lt
  have lz := KG.lt
  clear hb hbx KV KG x0 x1 lx
  go_wp2_with fail
  go_at_call 43
  refine (CM.out t u _ HVL.out).mono ?_
  rintro e v14 ⟨kk, rfl, hkk, hb⟩
  have HBE : Hid (Bel x9 v14) := HBD.out.tr (Bel.tr (by repeat (first | exact Bel.rf | (with_reducible refine Bel.drwN ?_ _) | (with_reducible refine Bel.drw ?_) | (with_reducible refine Bel.al ?_ _))) hb)
  have dk : decide (kk ≤ 0) = true := decide_eq_true hkk
  clear hb
  go_wp2_with (go_at_call 44; refine (AW.out _).mono ?_; rintro e v15 ⟨rfl, h15⟩)
  go_ret
  exact ⟨rfl, (Bel.ch HBW.out (HC9.out.tr (Ch.of_bel (HBE.out.tr (Bel.tr (by repeat (first | exact Bel.rf | (with_reducible refine Bel.drwN ?_ _) | (with_reducible refine Bel.drw ?_) | (with_reducible refine Bel.al ?_ _))) h15)))) HG.out).bl⟩

set_option maxRecDepth 100000 in
theorem lifted (os : Os) (started : os.Started) (H : Type) (enc : TypeId × Value → H) :
    ReturnsInHanded {} Try.checked os 5 .any (Rows.sketchRegionsSpec.pre6 enc Try.prog Try.f5 Rows.sketchRegionsRow.domain false) (Rows.sketchRegionsSpec.post enc Try.prog Try.f5 false true false false) := by
  refine returnsInHanded_of_change (C := Try.checked) own started (by kernel_rfl) Try.func5
    (ChangeSpec.witness6 (enc := enc) (C := Try.checked) false ⟨#[], #[.slice none 0 0], []⟩ 8 (by kernel_rfl) (by kernel_rfl) (by kernel_rfl) (by kernel_rfl)) ?_
  intro W base args ds gs before hval0 hW hcnd _
  have hval : ∀ (j : Nat) t v, Try.f5.params[j]? = some t → args[j]? = some v → Value.okWide Try.prog W .any base t v := hval0
  have hW' := hW
  obtain ⟨p, q, hA0, hV, rfl, hfz, hnd⟩ := hW
  have hA : DataW.TrodAll enc Try.prog W 0 (fun _ => true) true Try.f5.params.toList args.toList ds p := hA0
  rw [Try.params5] at hA hval
  obtain ⟨v0, vs0, d0, ds0, p0, q0, hargs, rfl, rfl, h0, r0⟩ := trodAll_cons hA
  obtain ⟨rfl, rfl, rfl⟩ := trodAll_nil r0
  obtain rfl : args = #[v0] := by cases args; simp_all
  obtain ⟨rfl, rfl⟩ := trodVars_none hV
  obtain ⟨a0, len0, cap0, rfl⟩ := okWide_slice Try.underlying22 (hval 0 22 v0 rfl rfl)
  have k0 := h0
  have lt0 : ∀ x ∈ p0, x.block < W.heap.size := by obtain ⟨m, hm⟩ := k0; exact DataW.trod_lt m _ _ _ hm
  obtain ⟨z0, w0⟩ : ∃ zs, IsRow .i64 W a0 len0 cap0 zs := by
    obtain ⟨fuel, hf⟩ := h0
    rcases open_ints Try.underlying22 Try.underlying3 (by kernel_rfl) hf with ⟨hcs, _⟩ | ⟨x, l, c, zs, hcs, _, hl, hm, hz, _, hcell, hwz⟩
    · simp [Value.cells] at hcs
      obtain ⟨rfl, rfl, rfl⟩ := hcs
      exact ⟨[], .inl ⟨rfl, rfl, rfl, rfl⟩⟩
    · simp [Value.cells] at hcs
      obtain ⟨rfl, rfl, rfl⟩ := hcs
      exact ⟨zs, .inr ⟨_, rfl, hl, hm, by simpa using hz, hcell, hwz⟩⟩
  clear hA0 hval0
  refine (walk a0 len0 cap0 z0 W w0).mono fun e W' ⟨he, bel⟩ => ?_
  subst he
  exact ⟨_, rfl, _, _, _, [], _, [], hW', trodAll_mk1 (shut_bool Try.underlying4 _), (trodAll_cons_mk (Below.trod laidOut (by kernel_rfl) (of_decide_eq_true (by kernel_rfl)) k0 bel lt0) trodAll_mk0), rfl, bel.frame _, fun h => by cases h⟩

theorem over : Rows.sketchRegionsRow.holds Try.pinned (OpenSpec.ofChange Rows.sketchRegionsSpec) :=
  OpenClaim.holds_of_wide 5 Try.f5 rfl rfl rfl rfl rfl rfl rfl ⟨rfl, rfl, rfl, rfl, rfl⟩ rfl rfl rfl rfl rfl (by kernel_rfl) Try.func5 (by kernel_rfl)
    (of_decide_eq_true (by kernel_rfl)) (by unfold Func.isWrapper; first | (rw [if_pos (by decide +kernel)]; kernel_rfl) | (rw [if_neg (by decide +kernel)]; exact ⟨rfl, rfl⟩))
    (fun os started H enc _ => lifted os started H enc)

theorem proved : Rows.SketchRegionsSaid := over
end Go.Proofs.Ytmgdoglnckkobaa.sketchRegions
