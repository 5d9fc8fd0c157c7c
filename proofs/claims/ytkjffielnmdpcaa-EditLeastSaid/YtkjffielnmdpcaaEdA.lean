/- The contract of shapesearchlaw15.alignment: some alignment. -/
import Derived.Test.YtkjffielnmdpcaaEdM
namespace Go.Proofs.Ytkjffielnmdpcaa.Ed
open Go.ChangeShapes Go.WideShapes Go.RowKit Wo Sr Wi
set_option linter.unusedVariables false
def Am (n m q : Nat) (w : World) (s1 s2 s7 : Value) (wr : World) : Prop := ∃ (a b : Nat) (S : List Int) (V : World) (u : Value), V = wr ∧ u = s7 ∧ a ≤ n ∧ b ≤ m ∧ s1 = .int .i64 (a : Int) ∧ s2 = .int .i64 (b : Int) ∧
  wr.ownsRow w.heap.size 3 1 s7 S.length (zs S) ∧ (∀ X Y g, ∃ K, Al X Y g S (n - a) (m - b) K) ∧ Ok wr q ∧ Ch q w wr ∧ w.heap.size ≤ wr.heap.size
theorem am_step {n m q a' b' : Nat} {w wr w1 w5 : World} {s7 v' : Value} {S : List Int} {y : Int} (ha : a' ≤ n) (hb : b' ≤ m) (hq : q < w.heap.size)
    (hown : wr.ownsRow w.heap.size 3 1 s7 S.length (zs S)) (hal : ∀ X Y g, ∃ K, Al X Y g (S ++ [y]) (n - a') (m - b') K) (ho1 : Ok w1 q) (hc1 : Ch q wr w1) (hc : Ch q w wr) (hbase : w.heap.size ≤ wr.heap.size)
    (h5 : w5.ownsRow w.heap.size 3 1 v' (S.length + 1) (zs (S ++ [y]))) (hgr : (w1.alloc (.cells #[.int .i64 y] 3)).grownBy w5 s7.ownBlock) :
    Am n m q w (.int .i64 (a' : Int)) (.int .i64 (b' : Int)) v' w5 := by
  have hrow : ∀ b, s7.ownBlock = some b → w.heap.size ≤ b := fun b e => (hown.lt b e).1
  refine ⟨a', b', S ++ [y], _, _, rfl, rfl, ha, hb, rfl, rfl, by rw [List.length_append]; exact h5, hal, ?_, ?_, ?_⟩
  · exact ok_grown (ho1.bel (Bel.rf.al _)) hgr (fun b e => by have := hrow b e; omega)
  · exact ch_grown ((hc.tr hc1).al _) hgr hrow
  · have := hgr.size
    have := hc1.sz
    simp at *
    omega
def SomeAl (q n m : Nat) (w : World) (e : Ending) (w' : World) : Prop := ∃ (v : Value) (S : List Int), e = .returned v ∧ w'.ownsRow w.heap.size 3 1 v S.length (zs S) ∧ (∀ X Y g, ∃ K, Al X Y g S n m K) ∧ Ok w' q ∧ Ch q w w'
set_option maxHeartbeats 16000000 in
set_option maxRecDepth 100000 in
theorem alignment_any (q n m : Nat) (n2 : n ≤ 32) (m2 : m ≤ 32) (w : World) (h : Ok w q) :
    Calls Try.prog 29 #[.pointer (some ⟨q, 0, none⟩), .int .i64 (n : Int), .int .i64 (m : Int)] w (SomeAl q n m w) := by
  have HGB := Lib.hid h.lt
  have HR0 : Hid (Am n m q w (.int .i64 (n : Int)) (.int .i64 (m : Int)) (.slice none 0 0) w) := ⟨n, m, [], _, _, rfl, rfl, Nat.le_refl _, Nat.le_refl _, rfl, rfl, World.ownsRow_nil _ _ _ _, fun X Y g => ⟨0, by rw [Nat.sub_self, Nat.sub_self]; exact Al.nil⟩, h, Ch.rf, Nat.le_refl _⟩
  have i2 : (n : Int) ≤ 32 := by omega
  have i4 : (m : Int) ≤ 32 := by omega
  clear h
  go_enter Try.func29, Try.ntmps29
  go_wp2
  go_loopw [1, 2, 7] (fun s1 s2 s7 wr => Am n m q w s1 s2 s7 wr) (fun s1 s2 _ _ => (intOf s1).toNat + (intOf s2).toNat)
  case atStart => exact HR0.out
  case round =>
    clear HR0
    obtain ⟨a, b, S, wr, u, hwr, hu, ha, hb, rfl, rfl, hown, hal, hok, hch, hbase⟩ := hrel
    subst hwr hu
    have HO := Lib.hid hown
    have HAL := Lib.hid hal
    have HOK := Lib.hid hok
    have HCH := Lib.hid hch
    have hlen : S.length ≤ 64 := by
      obtain ⟨K, hK⟩ := hal [] [] 0
      have := (al_cnt hK).2.2.2
      omega
    have ai : (a : Int) ≤ 32 := by omega
    have bi : (b : Int) ≤ 32 := by omega
    clear hown hal hok hch
    rcases Nat.eq_zero_or_pos (a + b) with h0 | h0
    · obtain rfl : a = 0 := by omega
      obtain rfl : b = 0 := by omega
      go_wp2
      go_ret
      exact ⟨_, S, rfl, HO.out, by have := HAL.out; simpa using this, HOK.out, HCH.out⟩
    · have hab : 0 < (a : Int) + (b : Int) := by omega
      go_wp2_with fail
      go_at_call 24
      refine (range_any q 1 3 (by decide) (by decide) (by decide) _ HOK.out).mono ?_
      rintro e w1 ⟨st, rfl, st0, st1, ho, hc⟩
      have HO1 := Lib.hid ho
      have HC1 := Lib.hid hc
      have HOW := Lib.hid (own_ch HO.out hc HGB.out)
      have hsz := hc.sz
      clear ho hc
      rcases Nat.eq_zero_or_pos a with ha0 | ha0
      · subst ha0
        have b0 : 0 < b := by omega
        have bn : ¬ ((b : Int) = 0) := by omega
        go_wp2_with (at_builtin; refine list_app _ rfl _ _ rfl w.heap.size u S.length S rfl (HOW.out.alloc _) ⟨w1.heap.size, 0, none⟩ 1 1 [3] rfl (zi_one (Bk.nw _ _ _)) (by omega) (by simp; omega) ?_; intro v' w5 hown4 hgrow hat)
        have hst := am_step (n := n) (m := m) (a' := 0) (b' := b - 1) (by omega) (by omega) HGB.out HO.out (fun X Y g => by
          obtain ⟨K, hK⟩ := HAL.out X Y g
          have h := Al.right hK
          rw [show m - b + 1 = m - (b - 1) by omega] at h
          exact ⟨_, h⟩) HO1.out HC1.out HCH.out hbase hown4 hgrow
        have HST := Lib.hid hst
        clear hst hown4 hgrow hat
        go_wp2
        go_roundw
        case rel => first | exact HST.out | (have h := HST.out; simpa using h) | (have h := HST.out; rwa [show ((b - 1 : Nat) : Int) = (b : Int) - 1 by omega] at h)
        case measure => simp [intOf]; omega
      · have an : ¬ ((a : Int) = 0) := by omega
        have an2 : ((a : Int) == 0) = false := by simp; omega
        rcases Nat.eq_zero_or_pos b with hb0 | hb0
        · subst hb0
          go_wp2_with (at_builtin; refine list_app _ rfl _ _ rfl w.heap.size u S.length S rfl (HOW.out.alloc _) ⟨w1.heap.size, 0, none⟩ 1 1 [2] rfl (zi_one (Bk.nw _ _ _)) (by omega) (by simp; omega) ?_; intro v' w5 hown4 hgrow hat)
          have hst := am_step (n := n) (m := m) (a' := a - 1) (b' := 0) (by omega) (by omega) HGB.out HO.out (fun X Y g => by
            obtain ⟨K, hK⟩ := HAL.out X Y g
            have h := Al.left hK
            rw [show n - a + 1 = n - (a - 1) by omega] at h
            exact ⟨_, h⟩) HO1.out HC1.out HCH.out hbase hown4 hgrow
          have HST := Lib.hid hst
          clear hst hown4 hgrow hat
          go_wp2
          go_roundw
          case rel => first | exact HST.out | (have h := HST.out; simpa using h) | (have h := HST.out; rwa [show ((a - 1 : Nat) : Int) = (a : Int) - 1 by omega] at h)
          case measure => simp [intOf]; omega
        · have bn : ¬ ((b : Int) = 0) := by omega
          have bn2 : ((b : Int) == 0) = false := by simp; omega
          rcases (show st = 1 ∨ st = 2 ∨ st = 3 by omega) with rfl | rfl | rfl
          · go_wp2_with (at_builtin; refine list_app _ rfl _ _ rfl w.heap.size u S.length S rfl (HOW.out.alloc _) ⟨w1.heap.size, 0, none⟩ 1 1 [1] rfl (zi_one (Bk.nw _ _ _)) (by omega) (by simp; omega) ?_; intro v' w5 hown4 hgrow hat)
            have hst := am_step (n := n) (m := m) (a' := a - 1) (b' := b - 1) (by omega) (by omega) HGB.out HO.out (fun X Y g => by
              obtain ⟨K, hK⟩ := HAL.out X Y g
              have h := Al.both hK
              rw [show n - a + 1 = n - (a - 1) by omega, show m - b + 1 = m - (b - 1) by omega] at h
              exact ⟨_, h⟩) HO1.out HC1.out HCH.out hbase hown4 hgrow
            have HST := Lib.hid hst
            clear hst hown4 hgrow hat
            go_wp2
            go_roundw
            case rel => first | exact HST.out | (have h := HST.out; simpa using h) | (have h := HST.out; rwa [show ((a - 1 : Nat) : Int) = (a : Int) - 1 by omega, show ((b - 1 : Nat) : Int) = (b : Int) - 1 by omega] at h)
            case measure => simp [intOf]; omega
          · go_wp2_with (at_builtin; refine list_app _ rfl _ _ rfl w.heap.size u S.length S rfl (HOW.out.alloc _) ⟨w1.heap.size, 0, none⟩ 1 1 [2] rfl (zi_one (Bk.nw _ _ _)) (by omega) (by simp; omega) ?_; intro v' w5 hown4 hgrow hat)
            have hst := am_step (n := n) (m := m) (a' := a - 1) (b' := b) (by omega) (by omega) HGB.out HO.out (fun X Y g => by
              obtain ⟨K, hK⟩ := HAL.out X Y g
              have h := Al.left hK
              rw [show n - a + 1 = n - (a - 1) by omega] at h
              exact ⟨_, h⟩) HO1.out HC1.out HCH.out hbase hown4 hgrow
            have HST := Lib.hid hst
            clear hst hown4 hgrow hat
            go_wp2
            go_roundw
            case rel => first | exact HST.out | (have h := HST.out; simpa using h) | (have h := HST.out; rwa [show ((a - 1 : Nat) : Int) = (a : Int) - 1 by omega] at h)
            case measure => simp [intOf]; omega
          · go_wp2_with (at_builtin; refine list_app _ rfl _ _ rfl w.heap.size u S.length S rfl (HOW.out.alloc _) ⟨w1.heap.size, 0, none⟩ 1 1 [3] rfl (zi_one (Bk.nw _ _ _)) (by omega) (by simp; omega) ?_; intro v' w5 hown4 hgrow hat)
            have hst := am_step (n := n) (m := m) (a' := a) (b' := b - 1) (by omega) (by omega) HGB.out HO.out (fun X Y g => by
              obtain ⟨K, hK⟩ := HAL.out X Y g
              have h := Al.right hK
              rw [show m - b + 1 = m - (b - 1) by omega] at h
              exact ⟨_, h⟩) HO1.out HC1.out HCH.out hbase hown4 hgrow
            have HST := Lib.hid hst
            clear hst hown4 hgrow hat
            go_wp2
            go_roundw
            case rel => first | exact HST.out | (have h := HST.out; simpa using h) | (have h := HST.out; rwa [show ((b - 1 : Nat) : Int) = (b : Int) - 1 by omega] at h)
            case measure => simp [intOf]; omega
end Go.Proofs.Ytkjffielnmdpcaa.Ed
