/- The contracts of edit.Distance, and of Align at the example of the chapter. -/
import Derived.Test.YtabmpnmhjdbdmaaGreatDoorEdit2
namespace Go.Proofs.YtabmpnmhjdbdmaaGreatDoor.Ed
open Go.ChangeShapes Go.WideShapes Go.RowKit Wo Sr Wi
set_option linter.unusedVariables false
set_option maxHeartbeats 8000000 in
set_option maxRecDepth 100000 in
theorem distance_ok (A A' : Option Addr) (c c' n m : Nat) (L M : List Int) (g : Int) (n1 : 2 ≤ n) (n2 : n ≤ 32) (m1 : 2 ≤ m) (m2 : m ≤ 32) (g0 : -1000 ≤ g) (g1 : g ≤ 1000) (hs : Sam L) (ht : Sam M) (w : World) (h1 : Zi w A n L) (h2 : Zi w A' m M) :
    Calls Tryz.prog 37 #[.slice A n c, .slice A' m c', .int .i64 g] w fun e w' => e = .returned (.tuple #[.int .i64 (et L M g n m), .int .i64 0]) ∧ Bel w w' := by
  have HC := Lib.hid (check_ok A A' c c' n m L M g n1 n2 m1 m2 g0 g1 hs ht w h1 h2)
  have HF : Hid (∀ W, Bel w W → _) := fun W hW => fill_ok A A' c c' n m L M g n1 n2 m1 m2 g0 g1 hs ht W (h1.bel hW) (h2.bel hW)
  have i1 : (n : Int) < 33 := by omega
  have i2 : (m : Int) < 33 := by omega
  have i3 : n < 33 := by omega
  have i4 : m < 33 := by omega
  have i5 : n ≤ 32 := n2
  have i6 : m ≤ 32 := m2
  obtain ⟨D, hD⟩ : ∃ D, et L M g n m = D := ⟨_, rfl⟩
  rw [hD]
  have HD := Lib.hid hD
  clear h1 h2 hs ht hD
  go_enter Tryz.func37, Tryz.ntmps37
  go_wp2_with fail
  go_at_call 54
  refine HC.out.mono ?_
  rintro e w1 ⟨rfl, hb1⟩
  have HB1 := Lib.hid hb1
  clear hb1
  go_wp2_with fail
  go_at_call 55
  refine (HF.out _ HB1.out).mono ?_
  rintro e w2 ⟨cs, rfl, hfu, hb2⟩
  have HB2 := Lib.hid (HB1.out.tr hb2)
  have HTB : Hid (Tb cs) := hfu.1
  have HFC : Hid (cs[n * 33 + m]? = some (.int .i64 D)) := by rw [← HD.out]; exact hfu.2 n m n2 m2 ⟨Nat.le_refl _, Nat.le_refl _⟩
  have hcs : cs.size = zc.size := by rw [zc_size]; exact hfu.1.1
  have HCS := Lib.hid hcs
  have hcs2 : (Tryz.prog.info? 79).map (·.size) = some cs.size := by rw [size_tab, hfu.1.1]
  have HC2 := Lib.hid hcs2
  clear hfu hb2 hcs hcs2
  go_wp2_with (first
    | (refine wpList_alloc_big _ rfl 79 rfl zc zero_tab ?_)
    | (refine wpList_store_big rfl 79 _ _ rfl w2.heap.size cs zc 79 rfl rfl (Bk.nw _ _ _) HCS.out HC2.out HTB.out.one ?_; intro W HBK HBE; have kc : W.cell? ⟨w2.heap.size, n * 33 + m, none⟩ = some (.int .i64 D) := (HBK.out.cell _).trans HFC.out))
  go_ret2
  exact ⟨rfl, HBE.out w (HB2.out.al _) HB2.out.size⟩
theorem sam_l {L : List Int} (h : (L.all fun x => decide (-1000 ≤ x) && decide (x ≤ 1000)) = true) : Sam L := fun x hx => by
  have := List.all_eq_true.1 h x hx
  simpa using this
theorem tab2 : et [0, 3] [3, 0] 0 2 2 = 0 ∧ et [0, 3] [3, 0] 0 1 1 = 3 ∧ et [0, 3] [3, 0] 0 1 2 = 3 ∧ et [0, 3] [3, 0] 0 2 1 = 0 ∧ et [0, 3] [3, 0] 0 1 0 = 0 ∧ et [0, 3] [3, 0] 0 0 0 = 0 := by
  refine ⟨?_, ?_, ?_, ?_, ?_, ?_⟩ <;> simp [et, mn3, mn, ab]
/-- so far: the steps, from the last one on -/
def Al2 (w : World) (T : Nat) (cs : Array Value) (wr : World) (s10 s11 s12 : Value) : Prop := ∃ (V : World) (u : Value) (S : List Int), V = wr ∧ u = s10 ∧
  ((s11 = .int .i64 2 ∧ s12 = .int .i64 2 ∧ S = []) ∨ (s11 = .int .i64 2 ∧ s12 = .int .i64 1 ∧ S = [3]) ∨ (s11 = .int .i64 1 ∧ s12 = .int .i64 0 ∧ S = [3, 1]) ∨ (s11 = .int .i64 0 ∧ s12 = .int .i64 0 ∧ S = [3, 1, 2])) ∧
  wr.ownsRow (T + 1) 3 1 s10 S.length (zs S) ∧ Bel w wr ∧ Bk wr T 79 cs ∧ T + 1 ≤ wr.heap.size
theorem al2_step {base T k : Nat} {w0 wr wq w5 : World} {u : Value} {S : List Int} {cs : Array Value} {t : TypeId} (hb : Bel w0 wr) (hbk : Bk wr T t cs) (hT : T < base) (h0 : w0.heap.size ≤ T) (hbase : base ≤ wr.heap.size)
    (hown : wr.ownsRow base 3 1 u k (zs S)) (hq : Bel wr wq) (hgr : wq.grownBy w5 u.ownBlock) : Bel w0 w5 ∧ Bk w5 T t cs ∧ base ≤ w5.heap.size := by
  have hrow : ∀ b, u.ownBlock = some b → base ≤ b := fun b e => (hown.lt b e).1
  have h2 : Bel w0 wq := hb.tr hq
  have h3 : Bk wq T t cs := hbk.bel hq
  have hs := hq.size
  refine ⟨Below.grown h2 hgr h2.size (fun b e => by have := hrow b e; omega), (hgr.block T h3.lt (fun e => by have := hrow T e.symm; omega)).trans h3, ?_⟩
  have := hgr.size
  omega
end Go.Proofs.YtabmpnmhjdbdmaaGreatDoor.Ed
