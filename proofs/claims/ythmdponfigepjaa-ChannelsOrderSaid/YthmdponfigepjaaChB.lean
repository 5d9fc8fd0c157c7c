/- Bundles: channels.even, channels.check, channels.checkBand of bundles that fit. -/
import Derived.Test.YthmdponfigepjaaChA
namespace Go.Proofs.Ythmdponfigepjaa.Ch
open Go.ChangeShapes Go.WideShapes Go.RowKit Wo Sr Wi
set_option linter.unusedVariables false
/-- a bundle: q channels of n samples each -/
def Bun (w : World) (g q n : Nat) (As : Nat → Option Addr) (cs : Nat → Nat) (Ls : Nat → List Int) : Prop :=
  g < w.heap.size ∧ ∀ j, j < q → w.cell? ⟨g, j, none⟩ = some (.slice (As j) n (cs j)) ∧ Zi w (As j) n (Ls j) ∧ Sam (Ls j)
theorem Bun.bel {w w' : World} {g q n : Nat} {As : Nat → Option Addr} {cs : Nat → Nat} {Ls : Nat → List Int} (h : Bun w g q n As cs Ls) (hb : Bel w w') : Bun w' g q n As cs Ls :=
  ⟨by have := hb.size; have := h.1; omega, fun j hj => ⟨hb.kp (h.2 j hj).1, (h.2 j hj).2.1.bel hb, (h.2 j hj).2.2⟩⟩
theorem Bun.le {w : World} {g q r n : Nat} {As : Nat → Option Addr} {cs : Nat → Nat} {Ls : Nat → List Int} (h : Bun w g q n As cs Ls) (hr : r ≤ q) : Bun w g r n As cs Ls := ⟨h.1, fun j hj => h.2 j (by omega)⟩
theorem even1_ok (b g : Nat) (q c n : Nat) (A A0 : Option Addr) (c1 c0 : Nat) (w : World) (hq : 1 ≤ q) (k0 : w.cell? ⟨b, 0, none⟩ = some (.slice (some ⟨g, 0, none⟩) q c)) (k1 : w.cell? ⟨g, 0, none⟩ = some (.slice A0 n c0)) :
    Calls Try.prog 79 #[.slice A n c1, .pointer (some ⟨b, 0, none⟩)] w fun e w' => e = .returned (.bool false) ∧ w = w' := by
  have i0 : (0 : Int) < (q : Int) := by omega
  go_enter Try.func79, Try.ntmps79
  go_wp2
  go_ret
  exact ⟨rfl, rfl⟩
set_option maxHeartbeats 2000000 in
theorem index_ok (b g : Nat) (q c n : Nat) (As : Nat → Option Addr) (cs : Nat → Nat) (Ls : Nat → List Int) (hq : 1 ≤ q) (hq4 : q ≤ 100) (w : World) (k0 : w.cell? ⟨b, 0, none⟩ = some (.slice (some ⟨g, 0, none⟩) q c)) (hB : Bun w g q n As cs Ls) :
    Calls Try.prog 86 #[.slice (some ⟨g, 0, none⟩) q c, .func (.func 79) #[] #[.pointer (some ⟨b, 0, none⟩)]] w fun e w' => e = .returned (.int .i64 (-1)) ∧ Bel w w' := by
  have HB := Lib.hid hB
  have HK := Lib.hid k0
  have i0 : (q : Int) ≤ 100 := by omega
  clear hB k0
  go_enter Try.func86, Try.ntmps86
  go_wp2
  go_loopw [8] (fun s8 wr => ∃ (t : Nat) (V : World), V = wr ∧ t ≤ q ∧ s8 = .int .i64 (t : Int) ∧ Bel w wr) (fun s8 _ => q - (intOf s8).toNat)
  case atStart => exact ⟨0, _, rfl, by omega, rfl, Bel.rf⟩
  case round =>
    obtain ⟨t, wr, hwr, ht, rfl, hb⟩ := hrel
    subst hwr
    have HBB := Lib.hid hb
    rcases Nat.lt_or_ge t q with hlt | hge
    · have c1 := hb.kp (HB.out.2 t hlt).1
      have E1 : Hid (∀ W, Bel w W → Calls Try.prog 79 #[.slice (As t) n (cs t), .pointer (some ⟨b, 0, none⟩)] W fun e w' => e = .returned (.bool false) ∧ W = w') := fun W hW =>
        even1_ok b g q c n (As t) (As 0) (cs t) (cs 0) W hq (hW.kp HK.out) (hW.kp (HB.out.2 0 (by omega)).1)
      have ti : (t : Int) < (q : Int) := by omega
      clear hb
      go_wp2_with (go_at_call 79; refine (E1.out _ (by repeat (first | exact HBB.out | (with_reducible refine Bel.drwN ?_ _) | (with_reducible refine Bel.drw ?_)))).mono ?_; rintro e w4 ⟨rfl, rfl⟩)
      go_roundw
      case rel => exact ⟨t + 1, _, rfl, by omega, by go_num, by first | exact HBB.out | exact HBB.out.drw | exact HBB.out.drwN _⟩
      case measure => simp [intOf]; omega
    · obtain rfl : t = q := by omega
      clear hb
      go_wp2
      go_ret
      exact ⟨rfl, HBB.out⟩
theorem contains_ok (b g : Nat) (q c n : Nat) (As : Nat → Option Addr) (cs : Nat → Nat) (Ls : Nat → List Int) (hq : 1 ≤ q) (hq4 : q ≤ 100) (w : World) (k0 : w.cell? ⟨b, 0, none⟩ = some (.slice (some ⟨g, 0, none⟩) q c)) (hB : Bun w g q n As cs Ls) :
    Calls Try.prog 78 #[.slice (some ⟨g, 0, none⟩) q c, .func (.func 79) #[] #[.pointer (some ⟨b, 0, none⟩)]] w fun e w' => e = .returned (.bool false) ∧ Bel w w' := by
  have HI := Lib.hid (index_ok b g q c n As cs Ls hq hq4 w k0 hB)
  clear k0 hB
  go_enter Try.func78, Try.ntmps78
  go_wp2_with fail
  go_at_call 86
  refine HI.out.mono ?_
  rintro e w1 ⟨rfl, hb⟩
  go_wp2
  go_ret
  exact ⟨rfl, hb⟩
theorem even_ok (g : Nat) (q c n : Nat) (As : Nat → Option Addr) (cs : Nat → Nat) (Ls : Nat → List Int) (hq : 1 ≤ q) (hq4 : q ≤ 100) (w : World) (hB : Bun w g q n As cs Ls) :
    Calls Try.prog 68 #[.slice (some ⟨g, 0, none⟩) q c] w fun e w' => e = .returned (.bool true) ∧ Bel w w' := by
  have HI : Hid (∀ W, Bel w W → ∀ b, W.cell? ⟨b, 0, none⟩ = some (.slice (some ⟨g, 0, none⟩) q c) → Calls Try.prog 78 #[.slice (some ⟨g, 0, none⟩) q c, .func (.func 79) #[] #[.pointer (some ⟨b, 0, none⟩)]] W fun e w' => e = .returned (.bool false) ∧ Bel W w') :=
    fun W hW b k0 => contains_ok b g q c n As cs Ls hq hq4 W k0 (hB.bel hW)
  clear hB
  go_enter Try.func68, Try.ntmps68
  go_wp2_with fail
  go_at_call 78
  refine (HI.out _ (Bel.rf.al _) _ ((Bk.nw _ _ _).cell 0)).mono ?_
  rintro e w1 ⟨rfl, hb⟩
  go_wp2
  go_ret
  exact ⟨rfl, (Bel.rf.al _).tr hb⟩
end Go.Proofs.Ythmdponfigepjaa.Ch
