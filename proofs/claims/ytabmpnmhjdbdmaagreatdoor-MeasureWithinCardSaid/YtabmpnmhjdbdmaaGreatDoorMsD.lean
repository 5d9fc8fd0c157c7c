/- The function literals of measure.distances. -/
import Derived.Test.YtabmpnmhjdbdmaaGreatDoorMsC
namespace Go.Proofs.YtabmpnmhjdbdmaaGreatDoor.Ms
open Go.ChangeShapes Go.WideShapes Go.RowKit Wo Sr Wi Ra
set_option linter.unusedVariables false
theorem kp2 {W : World} {a i : Nat} {x u v : Value} (h : W.cell? ⟨a, i, none⟩ = some x) : ((W.setCell ⟨a + 1, 0, none⟩ u).setCell ⟨a + 1, 1, none⟩ v).cell? ⟨a, i, none⟩ = some x := by
  have o : ∀ (V : World) (k : Nat) (y : Value), V.cell? ⟨a, i, none⟩ = some x → (V.setCell ⟨a + 1, k, none⟩ y).cell? ⟨a, i, none⟩ = some x := fun V k y hV => (World.cell?_setCell_other _ _ _ _ (fun e => by have := congrArg Addr.block e; simp at this)).trans hV
  exact o _ _ _ (o _ _ _ h)
theorem kp3 {W : World} {a : Nat} {x y z u v : Value} (h : W.cell? ⟨a, 0, none⟩ = some x ∧ W.cell? ⟨a, 1, none⟩ = some y ∧ W.cell? ⟨a, 2, none⟩ = some z) :
    ((W.setCell ⟨a + 1, 0, none⟩ u).setCell ⟨a + 1, 1, none⟩ v).cell? ⟨a, 0, none⟩ = some x ∧ ((W.setCell ⟨a + 1, 0, none⟩ u).setCell ⟨a + 1, 1, none⟩ v).cell? ⟨a, 1, none⟩ = some y ∧ ((W.setCell ⟨a + 1, 0, none⟩ u).setCell ⟨a + 1, 1, none⟩ v).cell? ⟨a, 2, none⟩ = some z := ⟨kp2 h.1, kp2 h.2.1, kp2 h.2.2⟩
set_option maxHeartbeats 2000000 in
set_option maxRecDepth 100000 in
theorem clos1 (A A' : Option Addr) (c c' n m : Nat) (L N : List Int) (v : Int) (w : World) (h1 : Zi w A n L) (h2 : Zi w A' m N)
    (hD : ∀ W, Bel w W → Calls Tryz.prog 31 #[.slice A n c, .slice A' m c'] W fun e w' => e = .returned (.tuple #[.int .i64 v, .int .i64 0]) ∧ Bel W w') (v0 : 0 ≤ v) (v1 : v ≤ 2305843009213693952) :
    Calls Tryz.prog 29 #[.slice A n c, .slice A' m c'] w fun e w' => e = .returned (.tuple #[.agg #[.int .i64 v, .int .i64 1], .int .i64 0]) ∧ Bel w w' := by
  have DD := Lib.hid hD
  have IN : Hid (∀ W, _) := fun W => integer_ok v v0 v1 W
  clear h1 h2 hD v0 v1
  go_enter Tryz.func29, Tryz.ntmps29
  go_wp2_with fail
  go_at_call 31
  refine (DD.out _ (Bel.rf.al _)).mono ?_
  rintro e w1 ⟨rfl, hb1⟩
  have HB1 : Hid (Bel w w1) := (Bel.rf.al _).tr hb1
  have HK1 : Hid (Bk w1 w.heap.size 31 #[.int .i64 0, .int .i64 0]) := (Bk.nw _ _ _).bel hb1
  clear hb1
  go_wp2_with fail
  go_at_call 30
  refine (IN.out _).mono ?_
  rintro e w2 ⟨rfl, hb2⟩
  have K4 := HK1.out.bel hb2
  have l0 : w2.cell? ⟨w.heap.size, 0, none⟩ = some (.int .i64 0) := K4.cell 0
  have l1 : w2.cell? ⟨w.heap.size, 1, none⟩ = some (.int .i64 0) := K4.cell 1
  have j0 := K4.fr 0
  have j1 := K4.fr 1
  have HF : Hid (Bel w w2) := HB1.out.tr hb2
  clear hb2 K4
  go_wp2
  refine bodyPost_ret (v := .tuple #[.agg #[.int .i64 v, .int .i64 1], .int .i64 0]) (by simp [results, Tryz.results29, go_sem, l0, l1]) rfl ⟨rfl, ?_⟩
  exact (HF.out.st (Nat.le_refl _) _).st (Nat.le_refl _) _
set_option maxHeartbeats 2000000 in
set_option maxRecDepth 100000 in
theorem clos2 (A A' : Option Addr) (c c' n m : Nat) (L N : List Int) (v : Int) (gc : Nat) (k b g : Int) (w : World) (hc : Bk w gc 26 #[.int .i64 k, .int .i64 b, .int .i64 g]) (h1 : Zi w A n L) (h2 : Zi w A' m N)
    (hD : ∀ W, Bel w W → Calls Tryz.prog 35 #[.slice A n c, .slice A' m c', .int .i64 b] W fun e w' => e = .returned (.tuple #[.int .i64 v, .int .i64 0]) ∧ Bel W w') (v0 : 0 ≤ v) (v1 : v ≤ 2305843009213693952) :
    Calls Tryz.prog 34 #[.slice A n c, .slice A' m c', .pointer (some ⟨gc, 0, none⟩)] w fun e w' => e = .returned (.tuple #[.agg #[.int .i64 v, .int .i64 1], .int .i64 0]) ∧ Bel w w' := by
  have DD := Lib.hid hD
  have IN : Hid (∀ W, _) := fun W => integer_ok v v0 v1 W
  clear h1 h2 hD v0 v1
  have HC := Lib.hid hc
  have l0 : (w.alloc (.cells #[.int .i64 0, .int .i64 0] 31)).cell? ⟨gc, 0, none⟩ = some (.int .i64 k) := (hc.al _).cell 0
  have l1 : (w.alloc (.cells #[.int .i64 0, .int .i64 0] 31)).cell? ⟨gc, 1, none⟩ = some (.int .i64 b) := (hc.al _).cell 1
  have l2 : (w.alloc (.cells #[.int .i64 0, .int .i64 0] 31)).cell? ⟨gc, 2, none⟩ = some (.int .i64 g) := (hc.al _).cell 2
  have lt := hc.lt
  clear hc
  go_enter Tryz.func34, Tryz.ntmps34
  go_wp2_with fail
  go_at_call 35
  refine (DD.out _ (Bel.rf.al _)).mono ?_
  rintro e w1 ⟨rfl, hb1⟩
  have HB1 : Hid (Bel w w1) := (Bel.rf.al _).tr hb1
  have HK1 : Hid (Bk w1 w.heap.size 31 #[.int .i64 0, .int .i64 0]) := (Bk.nw _ _ _).bel hb1
  clear hb1
  go_wp2_with fail
  go_at_call 30
  refine (IN.out _).mono ?_
  rintro e w2 ⟨rfl, hb2⟩
  have K4 := HK1.out.bel hb2
  have l0 : w2.cell? ⟨w.heap.size, 0, none⟩ = some (.int .i64 0) := K4.cell 0
  have l1 : w2.cell? ⟨w.heap.size, 1, none⟩ = some (.int .i64 0) := K4.cell 1
  have j0 := K4.fr 0
  have j1 := K4.fr 1
  have HF : Hid (Bel w w2) := HB1.out.tr hb2
  clear hb2 K4
  go_wp2
  refine bodyPost_ret (v := .tuple #[.agg #[.int .i64 v, .int .i64 1], .int .i64 0]) (by simp [results, Tryz.results34, go_sem, l0, l1]) rfl ⟨rfl, ?_⟩
  exact (HF.out.st (Nat.le_refl _) _).st (Nat.le_refl _) _
set_option maxHeartbeats 2000000 in
set_option maxRecDepth 100000 in
theorem clos3 (A A' : Option Addr) (c c' n m : Nat) (L N : List Int) (v : Int) (gc : Nat) (k b g : Int) (w : World) (hc : Bk w gc 26 #[.int .i64 k, .int .i64 b, .int .i64 g]) (h1 : Zi w A n L) (h2 : Zi w A' m N)
    (hD : ∀ W, Bel w W → Calls Tryz.prog 37 #[.slice A n c, .slice A' m c', .int .i64 g] W fun e w' => e = .returned (.tuple #[.int .i64 v, .int .i64 0]) ∧ Bel W w') (v0 : 0 ≤ v) (v1 : v ≤ 2305843009213693952) :
    Calls Tryz.prog 36 #[.slice A n c, .slice A' m c', .pointer (some ⟨gc, 0, none⟩)] w fun e w' => e = .returned (.tuple #[.agg #[.int .i64 v, .int .i64 1], .int .i64 0]) ∧ Bel w w' := by
  have DD := Lib.hid hD
  have IN : Hid (∀ W, _) := fun W => integer_ok v v0 v1 W
  clear h1 h2 hD v0 v1
  have HC := Lib.hid hc
  have l0 : (w.alloc (.cells #[.int .i64 0, .int .i64 0] 31)).cell? ⟨gc, 0, none⟩ = some (.int .i64 k) := (hc.al _).cell 0
  have l1 : (w.alloc (.cells #[.int .i64 0, .int .i64 0] 31)).cell? ⟨gc, 1, none⟩ = some (.int .i64 b) := (hc.al _).cell 1
  have l2 : (w.alloc (.cells #[.int .i64 0, .int .i64 0] 31)).cell? ⟨gc, 2, none⟩ = some (.int .i64 g) := (hc.al _).cell 2
  have lt := hc.lt
  clear hc
  go_enter Tryz.func36, Tryz.ntmps36
  go_wp2_with fail
  go_at_call 37
  refine (DD.out _ (Bel.rf.al _)).mono ?_
  rintro e w1 ⟨rfl, hb1⟩
  have HB1 : Hid (Bel w w1) := (Bel.rf.al _).tr hb1
  have HK1 : Hid (Bk w1 w.heap.size 31 #[.int .i64 0, .int .i64 0]) := (Bk.nw _ _ _).bel hb1
  clear hb1
  go_wp2_with fail
  go_at_call 30
  refine (IN.out _).mono ?_
  rintro e w2 ⟨rfl, hb2⟩
  have K4 := HK1.out.bel hb2
  have l0 : w2.cell? ⟨w.heap.size, 0, none⟩ = some (.int .i64 0) := K4.cell 0
  have l1 : w2.cell? ⟨w.heap.size, 1, none⟩ = some (.int .i64 0) := K4.cell 1
  have j0 := K4.fr 0
  have j1 := K4.fr 1
  have HF : Hid (Bel w w2) := HB1.out.tr hb2
  clear hb2 K4
  go_wp2
  refine bodyPost_ret (v := .tuple #[.agg #[.int .i64 v, .int .i64 1], .int .i64 0]) (by simp [results, Tryz.results36, go_sem, l0, l1]) rfl ⟨rfl, ?_⟩
  exact (HF.out.st (Nat.le_refl _) _).st (Nat.le_refl _) _
set_option maxHeartbeats 4000000 in
set_option maxRecDepth 100000 in
theorem dist1 (b g : Int) (A A' : Option Addr) (c c' n m : Nat) (p q : Int) (hm : Mv 1 b g) (w : World)
    (hf : ∀ W gc, Bel w W → Bk W gc 26 #[.int .i64 1, .int .i64 b, .int .i64 g] → Calls Tryz.prog 29 #[.slice A n c, .slice A' m c'] W fun e w' => e = .returned (.tuple #[.agg #[.int .i64 p, .int .i64 q], .int .i64 0]) ∧ Bel W w') :
    Calls Tryz.prog 8 #[.agg #[.int .i64 1, .int .i64 b, .int .i64 g], .slice A n c, .slice A' m c'] w fun e w' => e = .returned (.tuple #[.agg #[.int .i64 p, .int .i64 q], .int .i64 0]) ∧ Bel w w' := by
  have CK : Hid (∀ W, _) := fun W => check_ok 1 b g hm W
  have DS : Hid (∀ W, _) := fun W => dists_ok 1 b g W
  have HF := Lib.hid hf
  have HT := Lib.hid (Tryz.underlying49)
  have HK := Lib.hid (Tryz.underlying3)
  clear hf hm
  go_enter Tryz.func8, Tryz.ntmps8
  go_wp2_with fail
  go_at_call 16
  refine (CK.out _).mono ?_
  rintro e w1 ⟨rfl, hb1⟩
  have HB1 : Hid (Bel w w1) := ((Bel.rf.al _).al _).tr hb1
  have K3 : Bk w1 w.heap.size 26 #[.int .i64 1, .int .i64 b, .int .i64 g] := ((Bk.nw _ _ _).al _).bel hb1
  have K6 : Bk w1 (w.heap.size + 1) 31 #[.int .i64 0, .int .i64 0] := (Bk.nq _ _ _ (by simp)).bel hb1
  have HK3 := Lib.hid K3
  have HK6 := Lib.hid K6
  have a0 := K3.cell 0
  have a1 := K3.cell 1
  have a2 := K3.cell 2
  have KS : Hid (∀ W', Bel w1 W' → ((fun w' => w'.cell? ⟨w.heap.size, 0, none⟩ = some (.int .i64 1) ∧ w'.cell? ⟨w.heap.size, 1, none⟩ = some (.int .i64 b) ∧ w'.cell? ⟨w.heap.size, 2, none⟩ = some (.int .i64 g)) W')) := fun W' h => ⟨h.kp a0, h.kp a1, h.kp a2⟩
  clear hb1 K3 K6 a0 a1 a2
  go_wp2_with fail
  go_region_held3 (fun w' => w'.cell? ⟨w.heap.size, 0, none⟩ = some (.int .i64 1) ∧ w'.cell? ⟨w.heap.size, 1, none⟩ = some (.int .i64 b) ∧ w'.cell? ⟨w.heap.size, 2, none⟩ = some (.int .i64 g))
    (first
      | (refine KS.out _ ?_; (repeat (first | with_reducible exact Bel.rf | (with_reducible refine Bel.drwN ?_ _) | (with_reducible refine Bel.drw ?_) | (refine Bel.tr ?_ (by assumption)))); done)
      | exact kp3 (KS.out s5 (by repeat (first | with_reducible exact Bel.rf | (with_reducible refine Bel.drwN ?_ _) | (with_reducible refine Bel.drw ?_) | (refine Bel.tr ?_ (by assumption))))))
    (first
      | (go_at_call 17; refine (DS.out _).mono ?_; rintro r s4 ⟨mh, gc, rfl, hmh, hgc, _, _, h4⟩; have hl0 := run_look HT.out HK.out s4 mh 5 (fns gc) 1 0 _ hmh rfl; have hl1 : ∀ nn, (Instr.lookup 49 (.map (some mh)) (.int .i64 1) false).run Tryz.prog (s4.drewN nn) = .ok _ (s4.drewN nn) := fun nn => run_look HT.out HK.out (s4.drewN nn) mh 5 (fns gc) 1 0 _ hmh rfl; have hl2 : (Instr.lookup 49 (.map (some mh)) (.int .i64 1) false).run Tryz.prog s4.drew = .ok _ s4.drew := run_look HT.out HK.out s4.drew mh 5 (fns gc) 1 0 _ hmh rfl; have HGC := Lib.hid hgc; clear hmh hgc)
      | (go_at_call 29; refine (HF.out _ gc (Bel.tr HB1.out (by repeat (first | with_reducible exact Bel.rf | (with_reducible refine Bel.drwN ?_ _) | (with_reducible refine Bel.drw ?_) | (refine Bel.tr ?_ (by assumption))))) (HGC.out.bel (by repeat (first | with_reducible exact Bel.rf | (with_reducible refine Bel.drwN ?_ _) | (with_reducible refine Bel.drw ?_) | (refine Bel.tr ?_ (by assumption)))))).mono ?_; rintro r s5 ⟨rfl, h5⟩; have K9 := HK6.out.bel (Bel.tr (by repeat (first | with_reducible exact Bel.rf | (with_reducible refine Bel.drwN ?_ _) | (with_reducible refine Bel.drw ?_) | (refine Bel.tr ?_ (by assumption)))) h5); have l0 : s5.cell? ⟨w.heap.size + 1, 0, none⟩ = some (.int .i64 0) := K9.cell 0; have l1 : s5.cell? ⟨w.heap.size + 1, 1, none⟩ = some (.int .i64 0) := K9.cell 1; have j0 := K9.fr 0; have j1 := K9.fr 1; clear K9))
  all_goals
    have HBB : Hid (Bel w s5) := (HB1.out.tr (by repeat (first | with_reducible exact Bel.rf | (with_reducible refine Bel.drwN ?_ _) | (with_reducible refine Bel.drw ?_) | (refine Bel.tr ?_ (by assumption)))))
    go_wp2
    refine bodyPost_ret (v := .tuple #[.agg #[.int .i64 p, .int .i64 q], .int .i64 0]) (by simp [results, Tryz.results8, go_sem, l0, l1]) rfl ⟨rfl, ?_⟩
    exact (HBB.out.st (Nat.le_succ _) _).st (Nat.le_succ _) _
set_option maxHeartbeats 4000000 in
set_option maxRecDepth 100000 in
theorem dist2 (b g : Int) (A A' : Option Addr) (c c' n m : Nat) (p q : Int) (hm : Mv 2 b g) (w : World)
    (hf : ∀ W gc, Bel w W → Bk W gc 26 #[.int .i64 2, .int .i64 b, .int .i64 g] → Calls Tryz.prog 32 #[.slice A n c, .slice A' m c'] W fun e w' => e = .returned (.tuple #[.agg #[.int .i64 p, .int .i64 q], .int .i64 0]) ∧ Bel W w') :
    Calls Tryz.prog 8 #[.agg #[.int .i64 2, .int .i64 b, .int .i64 g], .slice A n c, .slice A' m c'] w fun e w' => e = .returned (.tuple #[.agg #[.int .i64 p, .int .i64 q], .int .i64 0]) ∧ Bel w w' := by
  have CK : Hid (∀ W, _) := fun W => check_ok 2 b g hm W
  have DS : Hid (∀ W, _) := fun W => dists_ok 2 b g W
  have HF := Lib.hid hf
  have HT := Lib.hid (Tryz.underlying49)
  have HK := Lib.hid (Tryz.underlying3)
  clear hf hm
  go_enter Tryz.func8, Tryz.ntmps8
  go_wp2_with fail
  go_at_call 16
  refine (CK.out _).mono ?_
  rintro e w1 ⟨rfl, hb1⟩
  have HB1 : Hid (Bel w w1) := ((Bel.rf.al _).al _).tr hb1
  have K3 : Bk w1 w.heap.size 26 #[.int .i64 2, .int .i64 b, .int .i64 g] := ((Bk.nw _ _ _).al _).bel hb1
  have K6 : Bk w1 (w.heap.size + 1) 31 #[.int .i64 0, .int .i64 0] := (Bk.nq _ _ _ (by simp)).bel hb1
  have HK3 := Lib.hid K3
  have HK6 := Lib.hid K6
  have a0 := K3.cell 0
  have a1 := K3.cell 1
  have a2 := K3.cell 2
  have KS : Hid (∀ W', Bel w1 W' → ((fun w' => w'.cell? ⟨w.heap.size, 0, none⟩ = some (.int .i64 2) ∧ w'.cell? ⟨w.heap.size, 1, none⟩ = some (.int .i64 b) ∧ w'.cell? ⟨w.heap.size, 2, none⟩ = some (.int .i64 g)) W')) := fun W' h => ⟨h.kp a0, h.kp a1, h.kp a2⟩
  clear hb1 K3 K6 a0 a1 a2
  go_wp2_with fail
  go_region_held3 (fun w' => w'.cell? ⟨w.heap.size, 0, none⟩ = some (.int .i64 2) ∧ w'.cell? ⟨w.heap.size, 1, none⟩ = some (.int .i64 b) ∧ w'.cell? ⟨w.heap.size, 2, none⟩ = some (.int .i64 g))
    (first
      | (refine KS.out _ ?_; (repeat (first | with_reducible exact Bel.rf | (with_reducible refine Bel.drwN ?_ _) | (with_reducible refine Bel.drw ?_) | (refine Bel.tr ?_ (by assumption)))); done)
      | exact kp3 (KS.out s5 (by repeat (first | with_reducible exact Bel.rf | (with_reducible refine Bel.drwN ?_ _) | (with_reducible refine Bel.drw ?_) | (refine Bel.tr ?_ (by assumption))))))
    (first
      | (go_at_call 17; refine (DS.out _).mono ?_; rintro r s4 ⟨mh, gc, rfl, hmh, hgc, _, _, h4⟩; have hl0 := run_look HT.out HK.out s4 mh 5 (fns gc) 2 1 _ hmh rfl; have hl1 : ∀ nn, (Instr.lookup 49 (.map (some mh)) (.int .i64 2) false).run Tryz.prog (s4.drewN nn) = .ok _ (s4.drewN nn) := fun nn => run_look HT.out HK.out (s4.drewN nn) mh 5 (fns gc) 2 1 _ hmh rfl; have hl2 : (Instr.lookup 49 (.map (some mh)) (.int .i64 2) false).run Tryz.prog s4.drew = .ok _ s4.drew := run_look HT.out HK.out s4.drew mh 5 (fns gc) 2 1 _ hmh rfl; have HGC := Lib.hid hgc; clear hmh hgc)
      | (go_at_call 32; refine (HF.out _ gc (Bel.tr HB1.out (by repeat (first | with_reducible exact Bel.rf | (with_reducible refine Bel.drwN ?_ _) | (with_reducible refine Bel.drw ?_) | (refine Bel.tr ?_ (by assumption))))) (HGC.out.bel (by repeat (first | with_reducible exact Bel.rf | (with_reducible refine Bel.drwN ?_ _) | (with_reducible refine Bel.drw ?_) | (refine Bel.tr ?_ (by assumption)))))).mono ?_; rintro r s5 ⟨rfl, h5⟩; have K9 := HK6.out.bel (Bel.tr (by repeat (first | with_reducible exact Bel.rf | (with_reducible refine Bel.drwN ?_ _) | (with_reducible refine Bel.drw ?_) | (refine Bel.tr ?_ (by assumption)))) h5); have l0 : s5.cell? ⟨w.heap.size + 1, 0, none⟩ = some (.int .i64 0) := K9.cell 0; have l1 : s5.cell? ⟨w.heap.size + 1, 1, none⟩ = some (.int .i64 0) := K9.cell 1; have j0 := K9.fr 0; have j1 := K9.fr 1; clear K9))
  all_goals
    have HBB : Hid (Bel w s5) := (HB1.out.tr (by repeat (first | with_reducible exact Bel.rf | (with_reducible refine Bel.drwN ?_ _) | (with_reducible refine Bel.drw ?_) | (refine Bel.tr ?_ (by assumption)))))
    go_wp2
    refine bodyPost_ret (v := .tuple #[.agg #[.int .i64 p, .int .i64 q], .int .i64 0]) (by simp [results, Tryz.results8, go_sem, l0, l1]) rfl ⟨rfl, ?_⟩
    exact (HBB.out.st (Nat.le_succ _) _).st (Nat.le_succ _) _
set_option maxHeartbeats 4000000 in
set_option maxRecDepth 100000 in
theorem dist3 (b g : Int) (A A' : Option Addr) (c c' n m : Nat) (p q : Int) (hm : Mv 3 b g) (w : World)
    (hf : ∀ W gc, Bel w W → Bk W gc 26 #[.int .i64 3, .int .i64 b, .int .i64 g] → Calls Tryz.prog 33 #[.slice A n c, .slice A' m c'] W fun e w' => e = .returned (.tuple #[.agg #[.int .i64 p, .int .i64 q], .int .i64 0]) ∧ Bel W w') :
    Calls Tryz.prog 8 #[.agg #[.int .i64 3, .int .i64 b, .int .i64 g], .slice A n c, .slice A' m c'] w fun e w' => e = .returned (.tuple #[.agg #[.int .i64 p, .int .i64 q], .int .i64 0]) ∧ Bel w w' := by
  have CK : Hid (∀ W, _) := fun W => check_ok 3 b g hm W
  have DS : Hid (∀ W, _) := fun W => dists_ok 3 b g W
  have HF := Lib.hid hf
  have HT := Lib.hid (Tryz.underlying49)
  have HK := Lib.hid (Tryz.underlying3)
  clear hf hm
  go_enter Tryz.func8, Tryz.ntmps8
  go_wp2_with fail
  go_at_call 16
  refine (CK.out _).mono ?_
  rintro e w1 ⟨rfl, hb1⟩
  have HB1 : Hid (Bel w w1) := ((Bel.rf.al _).al _).tr hb1
  have K3 : Bk w1 w.heap.size 26 #[.int .i64 3, .int .i64 b, .int .i64 g] := ((Bk.nw _ _ _).al _).bel hb1
  have K6 : Bk w1 (w.heap.size + 1) 31 #[.int .i64 0, .int .i64 0] := (Bk.nq _ _ _ (by simp)).bel hb1
  have HK3 := Lib.hid K3
  have HK6 := Lib.hid K6
  have a0 := K3.cell 0
  have a1 := K3.cell 1
  have a2 := K3.cell 2
  have KS : Hid (∀ W', Bel w1 W' → ((fun w' => w'.cell? ⟨w.heap.size, 0, none⟩ = some (.int .i64 3) ∧ w'.cell? ⟨w.heap.size, 1, none⟩ = some (.int .i64 b) ∧ w'.cell? ⟨w.heap.size, 2, none⟩ = some (.int .i64 g)) W')) := fun W' h => ⟨h.kp a0, h.kp a1, h.kp a2⟩
  clear hb1 K3 K6 a0 a1 a2
  go_wp2_with fail
  go_region_held3 (fun w' => w'.cell? ⟨w.heap.size, 0, none⟩ = some (.int .i64 3) ∧ w'.cell? ⟨w.heap.size, 1, none⟩ = some (.int .i64 b) ∧ w'.cell? ⟨w.heap.size, 2, none⟩ = some (.int .i64 g))
    (first
      | (refine KS.out _ ?_; (repeat (first | with_reducible exact Bel.rf | (with_reducible refine Bel.drwN ?_ _) | (with_reducible refine Bel.drw ?_) | (refine Bel.tr ?_ (by assumption)))); done)
      | exact kp3 (KS.out s5 (by repeat (first | with_reducible exact Bel.rf | (with_reducible refine Bel.drwN ?_ _) | (with_reducible refine Bel.drw ?_) | (refine Bel.tr ?_ (by assumption))))))
    (first
      | (go_at_call 17; refine (DS.out _).mono ?_; rintro r s4 ⟨mh, gc, rfl, hmh, hgc, _, _, h4⟩; have hl0 := run_look HT.out HK.out s4 mh 5 (fns gc) 3 2 _ hmh rfl; have hl1 : ∀ nn, (Instr.lookup 49 (.map (some mh)) (.int .i64 3) false).run Tryz.prog (s4.drewN nn) = .ok _ (s4.drewN nn) := fun nn => run_look HT.out HK.out (s4.drewN nn) mh 5 (fns gc) 3 2 _ hmh rfl; have hl2 : (Instr.lookup 49 (.map (some mh)) (.int .i64 3) false).run Tryz.prog s4.drew = .ok _ s4.drew := run_look HT.out HK.out s4.drew mh 5 (fns gc) 3 2 _ hmh rfl; have HGC := Lib.hid hgc; clear hmh hgc)
      | (go_at_call 33; refine (HF.out _ gc (Bel.tr HB1.out (by repeat (first | with_reducible exact Bel.rf | (with_reducible refine Bel.drwN ?_ _) | (with_reducible refine Bel.drw ?_) | (refine Bel.tr ?_ (by assumption))))) (HGC.out.bel (by repeat (first | with_reducible exact Bel.rf | (with_reducible refine Bel.drwN ?_ _) | (with_reducible refine Bel.drw ?_) | (refine Bel.tr ?_ (by assumption)))))).mono ?_; rintro r s5 ⟨rfl, h5⟩; have K9 := HK6.out.bel (Bel.tr (by repeat (first | with_reducible exact Bel.rf | (with_reducible refine Bel.drwN ?_ _) | (with_reducible refine Bel.drw ?_) | (refine Bel.tr ?_ (by assumption)))) h5); have l0 : s5.cell? ⟨w.heap.size + 1, 0, none⟩ = some (.int .i64 0) := K9.cell 0; have l1 : s5.cell? ⟨w.heap.size + 1, 1, none⟩ = some (.int .i64 0) := K9.cell 1; have j0 := K9.fr 0; have j1 := K9.fr 1; clear K9))
  all_goals
    have HBB : Hid (Bel w s5) := (HB1.out.tr (by repeat (first | with_reducible exact Bel.rf | (with_reducible refine Bel.drwN ?_ _) | (with_reducible refine Bel.drw ?_) | (refine Bel.tr ?_ (by assumption)))))
    go_wp2
    refine bodyPost_ret (v := .tuple #[.agg #[.int .i64 p, .int .i64 q], .int .i64 0]) (by simp [results, Tryz.results8, go_sem, l0, l1]) rfl ⟨rfl, ?_⟩
    exact (HBB.out.st (Nat.le_succ _) _).st (Nat.le_succ _) _
set_option maxHeartbeats 4000000 in
set_option maxRecDepth 100000 in
theorem dist4 (b g : Int) (A A' : Option Addr) (c c' n m : Nat) (p q : Int) (hm : Mv 4 b g) (w : World)
    (hf : ∀ W gc, Bel w W → Bk W gc 26 #[.int .i64 4, .int .i64 b, .int .i64 g] → Calls Tryz.prog 34 #[.slice A n c, .slice A' m c', .pointer (some ⟨gc, 0, none⟩)] W fun e w' => e = .returned (.tuple #[.agg #[.int .i64 p, .int .i64 q], .int .i64 0]) ∧ Bel W w') :
    Calls Tryz.prog 8 #[.agg #[.int .i64 4, .int .i64 b, .int .i64 g], .slice A n c, .slice A' m c'] w fun e w' => e = .returned (.tuple #[.agg #[.int .i64 p, .int .i64 q], .int .i64 0]) ∧ Bel w w' := by
  have CK : Hid (∀ W, _) := fun W => check_ok 4 b g hm W
  have DS : Hid (∀ W, _) := fun W => dists_ok 4 b g W
  have HF := Lib.hid hf
  have HT := Lib.hid (Tryz.underlying49)
  have HK := Lib.hid (Tryz.underlying3)
  clear hf hm
  go_enter Tryz.func8, Tryz.ntmps8
  go_wp2_with fail
  go_at_call 16
  refine (CK.out _).mono ?_
  rintro e w1 ⟨rfl, hb1⟩
  have HB1 : Hid (Bel w w1) := ((Bel.rf.al _).al _).tr hb1
  have K3 : Bk w1 w.heap.size 26 #[.int .i64 4, .int .i64 b, .int .i64 g] := ((Bk.nw _ _ _).al _).bel hb1
  have K6 : Bk w1 (w.heap.size + 1) 31 #[.int .i64 0, .int .i64 0] := (Bk.nq _ _ _ (by simp)).bel hb1
  have HK3 := Lib.hid K3
  have HK6 := Lib.hid K6
  have a0 := K3.cell 0
  have a1 := K3.cell 1
  have a2 := K3.cell 2
  have KS : Hid (∀ W', Bel w1 W' → ((fun w' => w'.cell? ⟨w.heap.size, 0, none⟩ = some (.int .i64 4) ∧ w'.cell? ⟨w.heap.size, 1, none⟩ = some (.int .i64 b) ∧ w'.cell? ⟨w.heap.size, 2, none⟩ = some (.int .i64 g)) W')) := fun W' h => ⟨h.kp a0, h.kp a1, h.kp a2⟩
  clear hb1 K3 K6 a0 a1 a2
  go_wp2_with fail
  go_region_held3 (fun w' => w'.cell? ⟨w.heap.size, 0, none⟩ = some (.int .i64 4) ∧ w'.cell? ⟨w.heap.size, 1, none⟩ = some (.int .i64 b) ∧ w'.cell? ⟨w.heap.size, 2, none⟩ = some (.int .i64 g))
    (first
      | (refine KS.out _ ?_; (repeat (first | with_reducible exact Bel.rf | (with_reducible refine Bel.drwN ?_ _) | (with_reducible refine Bel.drw ?_) | (refine Bel.tr ?_ (by assumption)))); done)
      | exact kp3 (KS.out s5 (by repeat (first | with_reducible exact Bel.rf | (with_reducible refine Bel.drwN ?_ _) | (with_reducible refine Bel.drw ?_) | (refine Bel.tr ?_ (by assumption))))))
    (first
      | (go_at_call 17; refine (DS.out _).mono ?_; rintro r s4 ⟨mh, gc, rfl, hmh, hgc, _, _, h4⟩; have hl0 := run_look HT.out HK.out s4 mh 5 (fns gc) 4 3 _ hmh rfl; have hl1 : ∀ nn, (Instr.lookup 49 (.map (some mh)) (.int .i64 4) false).run Tryz.prog (s4.drewN nn) = .ok _ (s4.drewN nn) := fun nn => run_look HT.out HK.out (s4.drewN nn) mh 5 (fns gc) 4 3 _ hmh rfl; have hl2 : (Instr.lookup 49 (.map (some mh)) (.int .i64 4) false).run Tryz.prog s4.drew = .ok _ s4.drew := run_look HT.out HK.out s4.drew mh 5 (fns gc) 4 3 _ hmh rfl; have HGC := Lib.hid hgc; clear hmh hgc)
      | (go_at_call 34; refine (HF.out _ gc (Bel.tr HB1.out (by repeat (first | with_reducible exact Bel.rf | (with_reducible refine Bel.drwN ?_ _) | (with_reducible refine Bel.drw ?_) | (refine Bel.tr ?_ (by assumption))))) (HGC.out.bel (by repeat (first | with_reducible exact Bel.rf | (with_reducible refine Bel.drwN ?_ _) | (with_reducible refine Bel.drw ?_) | (refine Bel.tr ?_ (by assumption)))))).mono ?_; rintro r s5 ⟨rfl, h5⟩; have K9 := HK6.out.bel (Bel.tr (by repeat (first | with_reducible exact Bel.rf | (with_reducible refine Bel.drwN ?_ _) | (with_reducible refine Bel.drw ?_) | (refine Bel.tr ?_ (by assumption)))) h5); have l0 : s5.cell? ⟨w.heap.size + 1, 0, none⟩ = some (.int .i64 0) := K9.cell 0; have l1 : s5.cell? ⟨w.heap.size + 1, 1, none⟩ = some (.int .i64 0) := K9.cell 1; have j0 := K9.fr 0; have j1 := K9.fr 1; clear K9))
  all_goals
    have HBB : Hid (Bel w s5) := (HB1.out.tr (by repeat (first | with_reducible exact Bel.rf | (with_reducible refine Bel.drwN ?_ _) | (with_reducible refine Bel.drw ?_) | (refine Bel.tr ?_ (by assumption)))))
    go_wp2
    refine bodyPost_ret (v := .tuple #[.agg #[.int .i64 p, .int .i64 q], .int .i64 0]) (by simp [results, Tryz.results8, go_sem, l0, l1]) rfl ⟨rfl, ?_⟩
    exact (HBB.out.st (Nat.le_succ _) _).st (Nat.le_succ _) _
set_option maxHeartbeats 4000000 in
set_option maxRecDepth 100000 in
theorem dist5 (b g : Int) (A A' : Option Addr) (c c' n m : Nat) (p q : Int) (hm : Mv 5 b g) (w : World)
    (hf : ∀ W gc, Bel w W → Bk W gc 26 #[.int .i64 5, .int .i64 b, .int .i64 g] → Calls Tryz.prog 36 #[.slice A n c, .slice A' m c', .pointer (some ⟨gc, 0, none⟩)] W fun e w' => e = .returned (.tuple #[.agg #[.int .i64 p, .int .i64 q], .int .i64 0]) ∧ Bel W w') :
    Calls Tryz.prog 8 #[.agg #[.int .i64 5, .int .i64 b, .int .i64 g], .slice A n c, .slice A' m c'] w fun e w' => e = .returned (.tuple #[.agg #[.int .i64 p, .int .i64 q], .int .i64 0]) ∧ Bel w w' := by
  have CK : Hid (∀ W, _) := fun W => check_ok 5 b g hm W
  have DS : Hid (∀ W, _) := fun W => dists_ok 5 b g W
  have HF := Lib.hid hf
  have HT := Lib.hid (Tryz.underlying49)
  have HK := Lib.hid (Tryz.underlying3)
  clear hf hm
  go_enter Tryz.func8, Tryz.ntmps8
  go_wp2_with fail
  go_at_call 16
  refine (CK.out _).mono ?_
  rintro e w1 ⟨rfl, hb1⟩
  have HB1 : Hid (Bel w w1) := ((Bel.rf.al _).al _).tr hb1
  have K3 : Bk w1 w.heap.size 26 #[.int .i64 5, .int .i64 b, .int .i64 g] := ((Bk.nw _ _ _).al _).bel hb1
  have K6 : Bk w1 (w.heap.size + 1) 31 #[.int .i64 0, .int .i64 0] := (Bk.nq _ _ _ (by simp)).bel hb1
  have HK3 := Lib.hid K3
  have HK6 := Lib.hid K6
  have a0 := K3.cell 0
  have a1 := K3.cell 1
  have a2 := K3.cell 2
  have KS : Hid (∀ W', Bel w1 W' → ((fun w' => w'.cell? ⟨w.heap.size, 0, none⟩ = some (.int .i64 5) ∧ w'.cell? ⟨w.heap.size, 1, none⟩ = some (.int .i64 b) ∧ w'.cell? ⟨w.heap.size, 2, none⟩ = some (.int .i64 g)) W')) := fun W' h => ⟨h.kp a0, h.kp a1, h.kp a2⟩
  clear hb1 K3 K6 a0 a1 a2
  go_wp2_with fail
  go_region_held3 (fun w' => w'.cell? ⟨w.heap.size, 0, none⟩ = some (.int .i64 5) ∧ w'.cell? ⟨w.heap.size, 1, none⟩ = some (.int .i64 b) ∧ w'.cell? ⟨w.heap.size, 2, none⟩ = some (.int .i64 g))
    (first
      | (refine KS.out _ ?_; (repeat (first | with_reducible exact Bel.rf | (with_reducible refine Bel.drwN ?_ _) | (with_reducible refine Bel.drw ?_) | (refine Bel.tr ?_ (by assumption)))); done)
      | exact kp3 (KS.out s5 (by repeat (first | with_reducible exact Bel.rf | (with_reducible refine Bel.drwN ?_ _) | (with_reducible refine Bel.drw ?_) | (refine Bel.tr ?_ (by assumption))))))
    (first
      | (go_at_call 17; refine (DS.out _).mono ?_; rintro r s4 ⟨mh, gc, rfl, hmh, hgc, _, _, h4⟩; have hl0 := run_look HT.out HK.out s4 mh 5 (fns gc) 5 4 _ hmh rfl; have hl1 : ∀ nn, (Instr.lookup 49 (.map (some mh)) (.int .i64 5) false).run Tryz.prog (s4.drewN nn) = .ok _ (s4.drewN nn) := fun nn => run_look HT.out HK.out (s4.drewN nn) mh 5 (fns gc) 5 4 _ hmh rfl; have hl2 : (Instr.lookup 49 (.map (some mh)) (.int .i64 5) false).run Tryz.prog s4.drew = .ok _ s4.drew := run_look HT.out HK.out s4.drew mh 5 (fns gc) 5 4 _ hmh rfl; have HGC := Lib.hid hgc; clear hmh hgc)
      | (go_at_call 36; refine (HF.out _ gc (Bel.tr HB1.out (by repeat (first | with_reducible exact Bel.rf | (with_reducible refine Bel.drwN ?_ _) | (with_reducible refine Bel.drw ?_) | (refine Bel.tr ?_ (by assumption))))) (HGC.out.bel (by repeat (first | with_reducible exact Bel.rf | (with_reducible refine Bel.drwN ?_ _) | (with_reducible refine Bel.drw ?_) | (refine Bel.tr ?_ (by assumption)))))).mono ?_; rintro r s5 ⟨rfl, h5⟩; have K9 := HK6.out.bel (Bel.tr (by repeat (first | with_reducible exact Bel.rf | (with_reducible refine Bel.drwN ?_ _) | (with_reducible refine Bel.drw ?_) | (refine Bel.tr ?_ (by assumption)))) h5); have l0 : s5.cell? ⟨w.heap.size + 1, 0, none⟩ = some (.int .i64 0) := K9.cell 0; have l1 : s5.cell? ⟨w.heap.size + 1, 1, none⟩ = some (.int .i64 0) := K9.cell 1; have j0 := K9.fr 0; have j1 := K9.fr 1; clear K9))
  all_goals
    have HBB : Hid (Bel w s5) := (HB1.out.tr (by repeat (first | with_reducible exact Bel.rf | (with_reducible refine Bel.drwN ?_ _) | (with_reducible refine Bel.drw ?_) | (refine Bel.tr ?_ (by assumption)))))
    go_wp2
    refine bodyPost_ret (v := .tuple #[.agg #[.int .i64 p, .int .i64 q], .int .i64 0]) (by simp [results, Tryz.results8, go_sem, l0, l1]) rfl ⟨rfl, ?_⟩
    exact (HBB.out.st (Nat.le_succ _) _).st (Nat.le_succ _) _
end Go.Proofs.YtabmpnmhjdbdmaaGreatDoor.Ms
