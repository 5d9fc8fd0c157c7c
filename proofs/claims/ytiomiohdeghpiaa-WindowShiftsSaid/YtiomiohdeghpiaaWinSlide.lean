/- The contract of window.Slide over samples. -/
import Derived.Test.YtiomiohdeghpiaaWinVar
import Derived.Deep.Onto
namespace Go.Proofs.Ytiomiohdeghpiaa.Wi
open Go.ChangeShapes Go.WideShapes Go.RowKit Wo Sr
set_option linter.unusedVariables false
theorem info_stats : (Try.prog.info? 26).map (fun i => (i.zero, i.size, i.bytes)) = some (some (.agg #[.int .i64 0, .int .i64 0, .int .i64 0]), 3, 24) := by kernel_rfl
theorem length_ok (m : Int) (h0 : 2 ≤ m) (h1 : m ≤ 32) (w : World) : Calls Try.prog 36 #[.int .i64 m] w fun e w' => e = .returned (.bool true) ∧ w = w' := by
  go_enter Try.func36, Try.ntmps36
  go_wp2
  go_ret
  exact ⟨rfl, rfl⟩
theorem own_bel {w w' : World} {base : Nat} {e : TypeId} {size : Nat} {v : Value} {n : Nat} {xs : List Value} (h : w.ownsRow base e size v n xs) (hb : Bel w w') : w'.ownsRow base e size v n xs := by
  refine ⟨h.1, ?_⟩
  rcases h.2 with hn | ⟨g, cap, cur, rfl, hbb, hg, rest⟩
  · exact .inl hn
  · exact .inr ⟨g, cap, cur, rfl, hbb, (Below.block hb g (Array.getElem?_eq_some_iff.1 hg).1).trans hg, rest⟩
/-- the stats of one window, as cells -/
def stc (m : Nat) (L : List Int) (i : Nat) : List Value := [.int .i64 (m : Int), .int .i64 (su ix ((L.drop i).take m)), .int .i64 (su sq ((L.drop i).take m))]
def sts (m : Nat) (L : List Int) (k : Nat) : List Value := (List.range k).flatMap (stc m L)
theorem sts_len (m : Nat) (L : List Int) (k : Nat) : (sts m L k).length = k * 3 := by
  induction k with
  | zero => rfl
  | succ k ih => unfold sts at *; rw [List.range_succ, List.flatMap_append, List.length_append, ih]; simp [stc]; omega
theorem sts_next (m : Nat) (L : List Int) (k : Nat) : sts m L k ++ stc m L k = sts m L (k + 1) := by
  unfold sts
  rw [List.range_succ, List.flatMap_append]
  simp
theorem sts_at (m : Nat) (L : List Int) (k i j : Nat) (hi : i < k) (hj : j < 3) : (sts m L k)[i * 3 + j]? = (stc m L i)[j]? := by
  induction k with
  | zero => omega
  | succ k ih =>
    rw [← sts_next]
    rcases Nat.lt_or_ge i k with h | h
    · rw [List.getElem?_append_left (by rw [sts_len]; omega)]
      exact ih h
    · obtain rfl : i = k := by omega
      rw [List.getElem?_append_right (by rw [sts_len]; omega), sts_len]
      congr 1
      omega
/-- k windows have been appended -/
def TI (m : Nat) (L : List Int) (N base b : Nat) (cs : Array Value) (w : World) (s8 s27 : Value) (wr : World) : Prop := ∃ (k : Nat) (V : World) (u : Value), V = wr ∧ u = s8 ∧ k ≤ N ∧ s27 = .int .i64 (k : Int) ∧
  wr.ownsRow base 26 3 s8 k (sts m L k) ∧ Bel w wr ∧ base ≤ wr.heap.size ∧ Bk wr b 24 cs
theorem ti_step {m N base b k h cap : Nat} {cs : Array Value} {L : List Int} {w wr w1 w2 : World} {s8 : Value} (hk : k < N) (hwb : w.heap.size ≤ b) (hbb : b < base)
    (hown : wr.ownsRow base 26 3 s8 k (sts m L k)) (hb : Bel w wr) (hbase : base ≤ wr.heap.size) (hbk : Bk wr b 24 cs) (h1 : Bel wr w1)
    (hown2 : w2.ownsRow base 26 3 (.slice (some ⟨h, 0, none⟩) (k + 1) cap) (k + 1) (sts m L k ++ stc m L k)) (hgr : (w1.alloc (.cells (stc m L k).toArray 26)).grownBy w2 s8.ownBlock) :
    TI m L N base b cs w (.slice (some ⟨h, 0, none⟩) (k + 1) cap) (.int .i64 ((k : Int) + 1)) w2 := by
  have hrow : ∀ q, s8.ownBlock = some q → base ≤ q := fun q e => (hown.lt q e).1
  have h2 : Bel w (w1.alloc (.cells (stc m L k).toArray 26)) := (hb.tr h1).al _
  have hk2 : Bk (w1.alloc (.cells (stc m L k).toArray 26)) b 24 cs := (hbk.bel h1).al _
  refine ⟨k + 1, _, _, rfl, rfl, by omega, by congr 1, ?_, ?_, ?_, ?_⟩
  · rw [← sts_next]; exact hown2
  · exact Below.grown h2 hgr h2.size (fun q e => by have := hrow q e; omega)
  · have := hgr.size
    have := h1.size
    simp at *
    omega
  · exact (hgr.block b hk2.lt (fun e => by have := hrow _ e.symm; omega)).trans hk2
set_option maxHeartbeats 8000000 in
set_option maxRecDepth 100000 in
theorem slide_ok (A : Option Addr) (c n m N : Nat) (L : List Int) (hN : n + 1 - m = N) (m0 : 2 ≤ m) (m1 : m ≤ 32) (hn : n ≤ 2000) (hs : Sam L) (w : World) (h : Zi w A n L) :
    Calls Try.prog 18 #[.slice A n c, .int .i64 (m : Int)] w fun e w' =>
      ∃ v, e = .returned (.tuple #[v, .int .i64 0]) ∧ w'.ownsRow w.heap.size 26 3 v N (sts m L N) ∧ Bel w w' := by
  obtain ⟨i0, hi0, hz0, hz1, hz2⟩ := info_parts info_stats
  have HI := Lib.hid (And.intro hi0 (And.intro hz0 (And.intro hz1 hz2)))
  clear hi0 hz0 hz1 hz2
  have H1 := Lib.hid h
  have HS := Lib.hid hs
  have hl := h.1
  have ni : (n : Int) ≤ 2000 := by omega
  have mi0 : 2 ≤ (m : Int) := by omega
  have mi1 : (m : Int) ≤ 32 := by omega
  have hmx : max (0 : Int) ((n : Int) - (m : Int) + 1) = (N : Int) := by omega
  have hNi : (N : Int) ≤ 2001 := by omega
  clear h hs
  go_enter Try.func18, Try.ntmps18
  go_wp2_with fail
  go_at_call 14
  refine (of_ok A c n L hn HS.out _ H1.out).mono ?_
  rintro e w1 ⟨g1, c1, g2, c2, rfl, hz1, hz2, hb1⟩
  have HZ1 := Lib.hid hz1
  have HZ2 := Lib.hid hz2
  have HB1 := Lib.hid hb1
  have HR0 : Hid (TI m L N (w1.heap.size + 1) w1.heap.size #[.slice (some ⟨g1, 0, none⟩) (n + 1) c1, .slice (some ⟨g2, 0, none⟩) (n + 1) c2] w1 (.slice none 0 0) (.int .i64 0) (w1.alloc (.cells #[.slice (some ⟨g1, 0, none⟩) (n + 1) c1, .slice (some ⟨g2, 0, none⟩) (n + 1) c2] 24))) :=
    ⟨0, _, _, rfl, rfl, by omega, rfl, World.ownsRow_nil _ _ _ _, Bel.rf.al _, by simp, Bk.nw _ _ _⟩
  clear hz1 hz2 hb1
  go_wp2_with (go_at_call 36; refine (length_ok (m : Int) mi0 mi1 _).mono ?_; rintro e w' ⟨rfl, rfl⟩)
  go_loopw [8, 27] (fun s8 s27 wr => TI m L N (w1.heap.size + 1) w1.heap.size #[.slice (some ⟨g1, 0, none⟩) (n + 1) c1, .slice (some ⟨g2, 0, none⟩) (n + 1) c2] w1 s8 s27 wr) (fun _ s27 _ => N - (intOf s27).toNat)
  case atStart => exact HR0.out
  case round =>
    clear HR0
    obtain ⟨k, wr, u8, hwr, hu8, hk, rfl, hown, hb, hbase, hbk⟩ := hrel
    subst hwr hu8
    have HO := Lib.hid hown
    have HB := Lib.hid hb
    have HK := Lib.hid hbk
    rcases Nat.lt_or_ge k N with hlt | hge
    · have l0 : wr.cell? ⟨w1.heap.size, 0, none⟩ = some (.slice (some ⟨g1, 0, none⟩) (n + 1) c1) := hbk.cell 0
      have l1 : wr.cell? ⟨w1.heap.size, 1, none⟩ = some (.slice (some ⟨g2, 0, none⟩) (n + 1) c2) := hbk.cell 1
      have hw1 : Bel w1 wr := hb
      have ki : (k : Int) < (N : Int) := by omega
      have HST2 := Lib.hid (stats_in g1 c1 g2 c2 n k m L hn hl (by omega) HS.out wr (HZ1.out.bel hw1) (HZ2.out.bel hw1))
      clear hown hb hbk hw1
      go_wp2_with fail
      go_at_call 37
      refine HST2.out.mono ?_
      rintro e w2 ⟨rfl, hb2⟩
      have hown1 := own_bel HO.out hb2
      have hsz := hb2.size
      have HOW := Lib.hid hown1
      have HB2 := Lib.hid hb2
      clear hown1 hb2
      go_wp2_with (at_builtin; refine wpList_append_lies _ (by rfl) _ _ 39 (by rfl) (w1.heap.size + 1) 26 i0 _ 3 24 Try.underlying39 HI.out.1 HI.out.2.1 HI.out.2.2.1 HI.out.2.2.2 (by rfl) (by omega) u8 k (sts m L k) (by rfl) (HOW.out.alloc _) ⟨w2.heap.size, 0, none⟩ 1 1 (stc m L k) (by rfl) (by rfl) (World.news_of_block (cs := (stc m L k).toArray) (t := 26) (fr := (0, 0)) (heap_alloc_new w2 _)) (by simp [stc, Value.oneCell']) (by omega) (by unfold maxLen; omega) (by omega) (by simp; omega) (w2.heap.size + 1) (by simp) ?_; intro h cap w5 hown4 hgrow hat hlt4)
      have hstep := ti_step hlt (Nat.le_refl _) (Nat.lt_succ_self _) HO.out HB.out hbase HK.out HB2.out hown4 hgrow
      have HST := Lib.hid hstep
      clear hstep hown4 hgrow hat
      go_wp2
      go_roundw
      case rel => exact HST.out
      case measure => simp [intOf]; omega
    · obtain rfl : k = N := by omega
      clear hown hb hbk
      go_wp2
      go_ret2
      exact ⟨_, rfl, HO.out.mono (by have := HB1.out.size; omega), HB1.out.tr HB.out⟩
end Go.Proofs.Ytiomiohdeghpiaa.Wi
