/- The contract of warp.Distance. -/
import Derived.Test.YtabmpnmhjdbdmaaGreatDoorWarp3
namespace Go.Proofs.YtabmpnmhjdbdmaaGreatDoor.Wa
open Go.ChangeShapes Go.WideShapes Go.RowKit Wo Sr Wi Ed
set_option linter.unusedVariables false
theorem shown_d (A' : Option Addr) (c' m gy gd q : Nat) (v0 : Int) (Z : List Int) (hm : m ≤ 1000) (W : World) (hgy : Bk W gy 22 #[.slice A' m c']) (hgd : Bk W gd 3 #[.int .i64 v0]) (hq : Bk W q 3 (zs Z).toArray) (hl : Z.length = m + 1) (hne : q ≠ gd) (hne2 : gy ≠ gd) :
    Calls Tryz.prog 53 #[.slice (some ⟨q, 0, none⟩) (m + 1) (m + 1), .pointer (some ⟨gy, 0, none⟩), .pointer (some ⟨gd, 0, none⟩)] W fun e W' => e = .returned (.tuple #[]) ∧ Bk W' gd 3 #[.int .i64 (Z.getD m 0)] ∧ Ch gd W W' := by
  have c1 := hgy.cell 0
  have c2 := hgd.cell 0
  have c3 := bk_sz hq hl (t := m) (Nat.le_refl _)
  have fd := hgd.fr 0
  have mi : (m : Int) < (m : Int) + 1 := by omega
  have mi2 : (m : Int) < ((m + 1 : Nat) : Int) := by omega
  have mk : m < m + 1 := by omega
  obtain ⟨x, hx⟩ : ∃ x, Z.getD m 0 = x := ⟨_, rfl⟩
  rw [hx] at c3
  rw [hx]
  simp at c1 c2
  have HS := Lib.hid (And.intro (hgd.st 0 (.int .i64 x)) (Ch.rf.st (a := W) (g := gd) 0 (.int .i64 x)))
  clear hgy hgd hq hx
  go_enter Tryz.func53, Tryz.ntmps53
  go_wp2
  go_end0
  exact ⟨rfl, HS.out.1, HS.out.2⟩
/-- what stands while Distance's search goes on -/
def JD (w0 : World) (gy gd : Nat) (A' : Option Addr) (c' m : Nat) (L M : List Int) (b : Int) (p q i : Nat) (W : World) : Prop :=
  Bel w0 W ∧ gy ≠ gd ∧ w0.heap.size ≤ gd ∧ (w0.heap.size ≤ p ∧ p ≠ gy ∧ p ≠ gd) ∧ (w0.heap.size ≤ q ∧ q ≠ gy ∧ q ≠ gd) ∧ Bk W gy 22 #[.slice A' m c'] ∧ ∃ v, Bk W gd 3 #[.int .i64 v] ∧ (0 < i → v = wt L M b i m)
theorem shows_d (w0 : World) (gy gd : Nat) (A A' : Option Addr) (c' n m : Nat) (hm : m ≤ 1000) (L M : List Int) (b : Int) (h1 : Zi w0 A n L) (h2 : Zi w0 A' m M) :
    Shows A A' n m L M b 53 #[.pointer (some ⟨gy, 0, none⟩), .pointer (some ⟨gd, 0, none⟩)] (JD w0 gy gd A' c' m L M b) where
  zi h := ⟨h1.bel h.1, h2.bel h.1⟩
  sw := by
    rintro p q i W ⟨a1, a2, a3, a4, a5, a6⟩
    exact ⟨a1, a2, a3, a5, a4, a6⟩
  st := by
    rintro p q i W j u ⟨a1, a2, a3, a4, a5, a6, v, a7, a8⟩
    exact ⟨a1.st a5.1 _, a2, a3, a4, a5, a6.far (fun e => a5.2.1 e.symm) _, v, a7.far (fun e => a5.2.2 e.symm) _, a8⟩
  dr := by
    rintro p q i W ⟨a1, a2, a3, a4, a5, a6, v, a7, a8⟩
    exact ⟨a1.drw, a2, a3, a4, a5, a6.drw, v, a7.drw, a8⟩
  dn := by
    rintro p q i W k ⟨a1, a2, a3, a4, a5, a6, v, a7, a8⟩
    exact ⟨a1.drwN _, a2, a3, a4, a5, a6.drwN _, v, a7.drwN _, a8⟩
  call := by
    rintro p q i W Zp Zq hi ⟨a1, a2, a3, a4, a5, a6, v, a7, a8⟩ hpq hp hq hr
    refine (shown_d A' c' m gy gd q v Zq hm W a6 a7 hq hr.1 a5.2.2 a2).mono ?_
    rintro e W' ⟨rfl, h3, h4⟩
    exact ⟨rfl, ⟨Bel.ch a1 h4 a3, a2, a3, a4, a5, h4.bk a6 a2, _, h3, fun _ => hr.2 m (Nat.le_refl _)⟩, h4.bk hp a4.2.2, h4.bk hq a5.2.2⟩
theorem enters_d : ∀ args w, (callFunc 53 args).run Tryz.prog w = .ok (.enter 53 args) w := enters_of Tryz.func53 (by kernel_rfl) rfl
set_option maxHeartbeats 4000000 in
theorem distance_ok (A A' : Option Addr) (c c' n m : Nat) (L M : List Int) (b : Int) (n1 : 2 ≤ n) (n2 : n ≤ 32) (m1 : 2 ≤ m) (m2 : m ≤ 32) (b0 : 0 ≤ b) (b32 : b ≤ 32) (b1 : (n : Int) - (m : Int) ≤ b) (b2 : (m : Int) - (n : Int) ≤ b) (hs : Sam L) (ht : Sam M) (w : World) (h1 : Zi w A n L) (h2 : Zi w A' m M) :
    Calls Tryz.prog 35 #[.slice A n c, .slice A' m c', .int .i64 b] w fun e w' => e = .returned (.tuple #[.int .i64 (wt L M b n m), .int .i64 0]) ∧ Bel w w' := by
  have hmf : ∀ (fn : Fn) (first cap : Array Value) (w : World), (Instr.makeFunc fn first cap).run Tryz.prog w = .ok (.func fn first cap) w := fun _ _ _ _ => rfl
  have HW : Hid (∀ W, Bel w W → Calls Tryz.prog 51 #[.slice A n c, .slice A' m c', .int .i64 b] W fun e w' => e = .returned (.int .i64 0) ∧ Bel W w') := fun W hW => warped_ok A A' c c' n m L M b n1 n2 m1 m2 b0 b32 b1 b2 hs ht W (h1.bel hW) (h2.bel hW)
  have HB : Hid (Bk (w.alloc (.cells #[.slice A' m c'] 22)) w.heap.size 22 #[.slice A' m c']) := Bk.nw _ _ _
  have HS : Hid (∀ w2 : World, Bel (w.alloc (.cells #[.slice A' m c'] 22)) w2 → Calls Tryz.prog 52 #[.slice A n c, .slice A' m c', .int .i64 b, .func (.func 53) #[] #[.pointer (some ⟨w.heap.size, 0, none⟩), .pointer (some ⟨w2.heap.size, 0, none⟩)]] (w2.alloc (.cells #[.int .i64 0] 3)) fun e w' => e = .returned (.tuple #[]) ∧ Bel w w' ∧ Bk w' w2.heap.size 3 #[.int .i64 (wt L M b n m)]) := fun w2 hb2 => by
    have hz := hb2.size
    have hz2 : w.heap.size < w2.heap.size := by simp at hz; omega
    have hbw : Bel w w2 := (Bel.rf.al _).tr hb2
    refine (search_any A A' c c' n m L M b (by omega) (by omega) (by omega) (by omega) b0 b32 hs ht 53 _ (JD w w.heap.size w2.heap.size A' c' m L M b) enters_d (shows_d w w.heap.size w2.heap.size A A' c' n m (by omega) L M b h1 h2) _ (fun p q W hW hp hq => ?_) ((h2.bel hbw).bel (Bel.rf.al _))).mono ?_
    · simp at hp hq
      exact ⟨hbw.tr ((Bel.rf.al _).tr hW), by omega, by omega, ⟨by omega, by omega, by omega⟩, ⟨by omega, by omega, by omega⟩, (((Bk.nw _ _ _).bel hb2).al _).bel hW, 0, (Bk.nw _ _ _).bel hW, fun h => by omega⟩
    · rintro e w' ⟨rfl, p, q, a1, _, _, _, _, _, v, a7, a8⟩
      refine ⟨rfl, a1, ?_⟩
      rw [← a8 (by omega)]
      exact a7
  clear h1 h2 hs ht
  go_enter Tryz.func35, Tryz.ntmps35
  go_wp2_with fail
  go_at_call 51
  refine (HW.out _ (Bel.rf.al _)).mono ?_
  rintro e w2 ⟨rfl, hb2⟩
  have HB2 := Lib.hid hb2
  have c1 := (HB.out.bel hb2).cell 0
  simp at c1
  have c1x : ∀ o, (w2.alloc o).cell? ⟨w.heap.size, 0, none⟩ = some (.slice A' m c') := kp_al c1
  clear hb2
  go_wp2_with fail
  go_at_call 52
  refine (HS.out w2 HB2.out).mono ?_
  rintro e w3 ⟨rfl, hb3, hk3⟩
  have HB3 := Lib.hid hb3
  have c3 := hk3.cell 0
  simp at c3
  clear hb3 hk3 c1x
  go_wp2
  go_ret2
  exact ⟨rfl, HB3.out⟩
end Go.Proofs.YtabmpnmhjdbdmaaGreatDoor.Wa
