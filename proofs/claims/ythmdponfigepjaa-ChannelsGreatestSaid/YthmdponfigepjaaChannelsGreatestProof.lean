/- That the law ChannelsGreatest returns true for every input that can be read, and leaves its arguments as they were; no further condition. -/
import Derived.Test.YthmdponfigepjaaRows
import Derived.WalkKit
import Derived.ProofKit
import Derived.OpenShut
import Derived.Test.YthmdponfigepjaaWords
import Derived.Test.YthmdponfigepjaaSrcNew0
import Derived.Test.YthmdponfigepjaaChZ
import Derived.Test.YthmdponfigepjaaChGl
import Derived.ShutString
import Derived.ChangeOld
import Derived.Below
namespace Go.Proofs.Ythmdponfigepjaa.channelsGreatest
open Go.ChangeShapes Go.WideShapes Go.ChangeAt Go.RowKit Wo
open Go.ChangeMaps (open_string shut_string)
set_option linter.unusedVariables false

theorem own : ownKnob Try.prog.godebug = none := by kernel_rfl
theorem laidOut : laidOutB Try.prog = true := by kernel_rfl

/-- WHAT THE WALK IS TOLD OF A SLICE OF INTEGERS THAT CAME IN: it is nil; or it leads to a row of 'cap' cells, the numbers 'zs' (the first 'len' are its elements, the rest its spare room), each fitting its kind. -/
def IsRow (k : IntKind) (w : World) (a : Option Addr) (len cap : Nat) (zs : List Int) : Prop :=
  (a = none ∧ len = 0 ∧ cap = 0 ∧ zs = []) ∨
  ∃ x, a = some x ∧ len ≤ cap ∧ cap ≤ maxLen ∧ zs.length = cap ∧ (∀ i, i < zs.length → w.cell? (x.add i) = some (.int k (zs.getD i 0))) ∧ ∀ n ∈ zs, (Lit.int k n).wf = true

open Go.Proofs.Ythmdponfigepjaa.Ch Go.Proofs.Ythmdponfigepjaa.Wi Go.Proofs.Ythmdponfigepjaa.Wo Go.Proofs.Ythmdponfigepjaa.Sr Go.Proofs.Ythmdponfigepjaa.Ra Go.Proofs.Ythmdponfigepjaa.Nr in
set_option maxHeartbeats 8000000 in
set_option maxRecDepth 100000 in
theorem walk (a0 : Option Addr) (len0 cap0 : Nat) (z0 : List Int) (w : World) (w0 : IsRow .i64 w a0 len0 cap0 z0) :
    Calls Try.prog 7 #[.slice a0 len0 cap0] w fun e w' => e = .returned (.bool true) ∧ Below w.heap.size w w' := by
  have AW : Hid (∀ W, Calls Try.prog 23 #[] W fun e w' => e = .returned (.bool true) ∧ Bel W w') := Ch.awake_any
  go_enter Try.func7, Try.ntmps7
  go_wp2_with fail
  go_at_call 9
  refine (new_any a0 len0 cap0 z0 w w0).mono ?_
  rintro e v1 ⟨q0, rfl, hq, ho1, hb1⟩
  have HO := Lib.hid ho1
  have HBa : Hid (Bel w v1) := hb1
  clear ho1 hb1
  go_wp2_with fail
  go_at_call 10
  refine (pair_any q0 _ HO.out).mono ?_
  rintro e v2 ⟨xa, xb, ya, yb, n, L, M, rfl, n1, n2, hxy, hox, hoy, lL, lM, sL, sM, ho, hc⟩
  have QV : q0 < v1.heap.size := HO.out.lt
  have HNB := Lib.hid (And.intro n1 n2)
  have CX2 : Hid (Cn.ok v2 v1.heap.size n ⟨xa, xb, L⟩) := ⟨hox, lL, sL⟩
  have CY2 : Hid (Cn.ok v2 v1.heap.size n ⟨ya, yb, M⟩) := ⟨hoy, lM, sM⟩
  have HO2 := Lib.hid ho
  have HC2 := Lib.hid hc
  clear hox hoy lL lM sL sM ho hc hxy
  go_wp2_with fail
  go_at_call 25
  refine (near_any q0 _ xb n L (by have := HNB.out; omega) (by have := HNB.out; omega) CX2.out.2.2 _ HO2.out CX2.out.zi (fun ad e => by cases e; exact Nat.ne_of_gt (Nat.lt_of_lt_of_le QV CX2.out.base.1))).mono ?_
  rintro e v3 ⟨zz, xnl, rfl, hown, hl, hs, ho, hc⟩
  obtain ⟨xna, xnb, rfl, hcap, hbs⟩ := row_form hown (by have := HNB.out; omega)
  have Cxn : Hid (Cn.ok v3 v1.heap.size n ⟨xna, xnb, xnl⟩) := ⟨own_low hown HC2.out.sz, hl, hs⟩
  have HOv3 := Lib.hid ho
  have HCv3 := Lib.hid (HC2.out.tr hc)
  have CXv3 := Lib.hid (CX2.out.ch hc QV)
  have CYv3 := Lib.hid (CY2.out.ch hc QV)
  clear hown hl hs ho hc hcap hbs
  go_wp2_with fail
  go_at_call 26
  refine (list_any q0 n (by have := HNB.out; omega) _ HOv3.out).mono ?_
  rintro e v4 ⟨zz, xll, rfl, hown, hl, hs, ho, hc⟩
  obtain ⟨xla, xlb, rfl, hcap, hbs⟩ := row_form hown (by have := HNB.out; omega)
  have Cxl : Hid (Cn.ok v4 v1.heap.size n ⟨xla, xlb, xll⟩) := ⟨own_low hown HCv3.out.sz, hl, hs⟩
  have HOv4 := Lib.hid ho
  have HCv4 := Lib.hid (HCv3.out.tr hc)
  have CXv4 := Lib.hid (CXv3.out.ch hc QV)
  have CYv4 := Lib.hid (CYv3.out.ch hc QV)
  have CNv4 := Lib.hid (Cxn.out.ch hc QV)
  clear hown hl hs ho hc hcap hbs
  obtain ⟨V4, hV4⟩ : ∃ V, V = v4.alloc (.cells #[.slice (some ⟨xa, 0, none⟩) n xb, .slice (some ⟨xna, 0, none⟩) n xnb, .slice (some ⟨xla, 0, none⟩) n xlb] 22) := ⟨_, rfl⟩
  have B4 : Bel v4 V4 := by rw [hV4]; exact Bel.rf.al _
  have HP4 : Hid (Bk V4 v4.heap.size 22 #[.slice (some ⟨xa, 0, none⟩) n xb, .slice (some ⟨xna, 0, none⟩) n xnb, .slice (some ⟨xla, 0, none⟩) n xlb]) := by rw [hV4]; exact Bk.nw _ _ _
  have HO4 := Lib.hid (HOv4.out.bel B4)
  have HC4 := Lib.hid (HCv4.out.tr (Ch.of_bel B4))
  have CX4 := Lib.hid (CXv4.out.bel B4)
  have CY4 := Lib.hid (CYv4.out.bel B4)
  have CN4 := Lib.hid (CNv4.out.bel B4)
  have CL4 := Lib.hid (Cxl.out.bel B4)
  have PQ : v4.heap.size ≠ q0 := by have := HCv4.out.sz; omega
  clear B4
  subst hV4
  go_wp2_with fail
  go_at_call 25
  refine (near_any q0 _ yb n M (by have := HNB.out; omega) (by have := HNB.out; omega) CY4.out.2.2 _ HO4.out CY4.out.zi (fun ad e => by cases e; exact Nat.ne_of_gt (Nat.lt_of_lt_of_le QV CY4.out.base.1))).mono ?_
  rintro e v5 ⟨zz, ynl, rfl, hown, hl, hs, ho, hc⟩
  obtain ⟨yna, ynb, rfl, hcap, hbs⟩ := row_form hown (by have := HNB.out; omega)
  have Cyn : Hid (Cn.ok v5 v1.heap.size n ⟨yna, ynb, ynl⟩) := ⟨own_low hown HC4.out.sz, hl, hs⟩
  have HOv5 := Lib.hid ho
  have HCv5 := Lib.hid (HC4.out.tr hc)
  have CXv5 := Lib.hid (CX4.out.ch hc QV)
  have CYv5 := Lib.hid (CY4.out.ch hc QV)
  have CNv5 := Lib.hid (CN4.out.ch hc QV)
  have CLv5 := Lib.hid (CL4.out.ch hc QV)
  have HPv5 := Lib.hid (hc.bk HP4.out PQ)
  clear hown hl hs ho hc hcap hbs
  go_wp2_with fail
  go_at_call 25
  refine (near_any q0 _ xb n L (by have := HNB.out; omega) (by have := HNB.out; omega) CXv5.out.2.2 _ HOv5.out CXv5.out.zi (fun ad e => by cases e; exact Nat.ne_of_gt (Nat.lt_of_lt_of_le QV CXv5.out.base.1))).mono ?_
  rintro e v6 ⟨zz, yll, rfl, hown, hl, hs, ho, hc⟩
  obtain ⟨yla, ylb, rfl, hcap, hbs⟩ := row_form hown (by have := HNB.out; omega)
  have Cyl : Hid (Cn.ok v6 v1.heap.size n ⟨yla, ylb, yll⟩) := ⟨own_low hown HCv5.out.sz, hl, hs⟩
  have HOv6 := Lib.hid ho
  have HCv6 := Lib.hid (HCv5.out.tr hc)
  have CXv6 := Lib.hid (CXv5.out.ch hc QV)
  have CYv6 := Lib.hid (CYv5.out.ch hc QV)
  have CNv6 := Lib.hid (CNv5.out.ch hc QV)
  have CLv6 := Lib.hid (CLv5.out.ch hc QV)
  have DNv6 := Lib.hid (Cyn.out.ch hc QV)
  have HPv6 := Lib.hid (hc.bk HPv5.out PQ)
  clear hown hl hs ho hc hcap hbs
  obtain ⟨W, hW⟩ : ∃ V, V = v6.alloc (.cells #[.slice (some ⟨ya, 0, none⟩) n yb, .slice (some ⟨yna, 0, none⟩) n ynb, .slice (some ⟨yla, 0, none⟩) n ylb] 22) := ⟨_, rfl⟩
  have BW : Bel v6 W := by rw [hW]; exact Bel.rf.al _
  obtain ⟨Ls, hLs⟩ : ∃ Ls : Nat → List Int, Ls = fun j => (([⟨xa, xb, L⟩, ⟨xna, xnb, xnl⟩, ⟨xla, xlb, xll⟩] : List Cn).getD j ⟨0, 0, []⟩).l := ⟨_, rfl⟩
  obtain ⟨Ms, hMs⟩ : ∃ Ls : Nat → List Int, Ls = fun j => (([⟨ya, yb, M⟩, ⟨yna, ynb, ynl⟩, ⟨yla, ylb, yll⟩] : List Cn).getD j ⟨0, 0, []⟩).l := ⟨_, rfl⟩
  obtain ⟨As, hAs⟩ : ∃ As : Nat → Option Addr, As = fun j => some ⟨(([⟨xa, xb, L⟩, ⟨xna, xnb, xnl⟩, ⟨xla, xlb, xll⟩] : List Cn).getD j ⟨0, 0, []⟩).b, 0, none⟩ := ⟨_, rfl⟩
  obtain ⟨Bs, hBs⟩ : ∃ As : Nat → Option Addr, As = fun j => some ⟨(([⟨ya, yb, M⟩, ⟨yna, ynb, ynl⟩, ⟨yla, ylb, yll⟩] : List Cn).getD j ⟨0, 0, []⟩).b, 0, none⟩ := ⟨_, rfl⟩
  obtain ⟨cs, hcs⟩ : ∃ cs : Nat → Nat, cs = fun j => (([⟨xa, xb, L⟩, ⟨xna, xnb, xnl⟩, ⟨xla, xlb, xll⟩] : List Cn).getD j ⟨0, 0, []⟩).c := ⟨_, rfl⟩
  obtain ⟨ds, hds⟩ : ∃ cs : Nat → Nat, cs = fun j => (([⟨ya, yb, M⟩, ⟨yna, ynb, ynl⟩, ⟨yla, ylb, yll⟩] : List Cn).getD j ⟨0, 0, []⟩).c := ⟨_, rfl⟩
  have BX : Hid (Bun W v4.heap.size 3 n As cs Ls) := by
    rw [hAs, hcs, hLs]
    refine bun_cns (P := [⟨xa, xb, L⟩, ⟨xna, xnb, xnl⟩, ⟨xla, xlb, xll⟩]) (B := v1.heap.size) (HPv6.out.bel BW) rfl (fun u hu => ?_)
    simp only [List.mem_cons, List.not_mem_nil, or_false] at hu
    rcases hu with rfl | rfl | rfl
    · exact CXv6.out.bel BW
    · exact CNv6.out.bel BW
    · exact CLv6.out.bel BW
  have BY : Hid (Bun W v6.heap.size 3 n Bs ds Ms) := by
    rw [hBs, hds, hMs]
    refine bun_cns (P := [⟨ya, yb, M⟩, ⟨yna, ynb, ynl⟩, ⟨yla, ylb, yll⟩]) (B := v1.heap.size) (t := 22) (cs := #[.slice (some ⟨ya, 0, none⟩) n yb, .slice (some ⟨yna, 0, none⟩) n ynb, .slice (some ⟨yla, 0, none⟩) n ylb]) (by rw [hW]; exact Bk.nw _ _ _) rfl (fun u hu => ?_)
    simp only [List.mem_cons, List.not_mem_nil, or_false] at hu
    rcases hu with rfl | rfl | rfl
    · exact CYv6.out.bel BW
    · exact DNv6.out.bel BW
    · exact Cyl.out.bel BW
  have HBb : Hid (Bel w W) := (Bel.ch HBa.out HCv6.out (by have := hq; omega)).tr BW
  clear BW hLs hMs hAs hBs hcs hds
  subst hW
  clear HO2 HC2 CX2 CY2 HOv3 HCv3 Cxn CXv3 CYv3 HOv4 HCv4 Cxl CXv4 CYv4 CNv4 HP4 HO4 HC4 CX4 CY4 CN4 CL4 HOv5 HCv5 Cyn CXv5 CYv5 CNv5 CLv5 HPv5 HOv6 HCv6 Cyl CXv6 CYv6 CNv6 CLv6 DNv6 HPv6
  go_wp2_with fail
  go_at_call 24
  refine (greatest_ok v4.heap.size v6.heap.size 3 n 3 3 As Bs cs ds Ls Ms (by decide) (by decide) HNB.out.1 HNB.out.2 _ BX.out BY.out).mono ?_
  rintro e v7 ⟨rfl, hb7⟩
  have BX7 := Lib.hid (BX.out.bel hb7)
  have BY7 := Lib.hid (BY.out.bel hb7)
  have HB7 : Hid (Bel w v7) := HBb.out.tr hb7
  clear hb7 BX BY HBb
  have PG : Hid (∀ c, c < 3 → RP (gp Ls Ms c)) := fun c hc => gp_rv HNB.out.2 ⟨(BX7.out.2 c hc).2.2, (BY7.out.2 c hc).2.2, (BX7.out.2 c hc).2.1.1, (BY7.out.2 c hc).2.1.1⟩
  have PS : Hid (RP (gs Ls Ms 3)) := gs_rv HNB.out.2 3 (fun c hc => ⟨(BX7.out.2 c hc).2.2, (BY7.out.2 c hc).2.2, (BX7.out.2 c hc).2.1.1, (BY7.out.2 c hc).2.1.1⟩)
  have IS : Hid (∃ j, j < 3 ∧ gp Ls Ms j = gs Ls Ms 3) := gs_is Ls Ms 2 PG.out
  have GE : Hid (∀ j, j < 3 → (gp Ls Ms j).1 * (gs Ls Ms 3).2 ≤ (gs Ls Ms 3).1 * (gp Ls Ms j).2) := gs_ge 3 PG.out
  obtain ⟨G, hG⟩ : ∃ G, gs Ls Ms 3 = G := ⟨_, rfl⟩
  rw [hG] at PS IS GE ⊢
  obtain ⟨G1, G2⟩ := G
  clear hG
  go_wp2
  go_loopw [10, 46] (fun s10 s46 wr => ∃ (t : Nat) (f : Bool) (V : World), V = wr ∧ t ≤ 3 ∧ s10 = .bool f ∧ s46 = .int .i64 (t : Int) ∧ ((∃ j, j < t ∧ gp Ls Ms j = (G1, G2)) → f = true) ∧ Bk wr v7.heap.size 28 #[.int .i64 G1, .int .i64 G2] ∧ Bel v7 wr) (fun _ s46 _ => 3 - (intOf s46).toNat)
  case atStart => exact ⟨0, false, _, rfl, by omega, rfl, rfl, fun ⟨j, hj, _⟩ => absurd hj (by omega), Bk.nw _ _ _, Bel.rf.al _⟩
  case round =>
    obtain ⟨t, f, wr, hwr, ht, rfl, rfl, hf, hg, hb⟩ := hrel
    subst hwr
    have HBwr : Hid (Bel v7 wr) := hb
    have HG := Lib.hid hg
    have HF := Lib.hid hf
    clear hb hg hf
    rcases Nat.lt_or_ge t 3 with hlt | hge
    · have ti : (t : Int) < 3 := by omega
      obtain ⟨k1, z1, s1⟩ := (BX7.out.bel HBwr.out).2 t hlt
      obtain ⟨k2, z2, s2⟩ := (BY7.out.bel HBwr.out).2 t hlt
      obtain ⟨_, z3, _⟩ := BX7.out.2 t hlt
      obtain ⟨_, z4, _⟩ := BY7.out.2 t hlt
      have DI : Hid (∀ W, Bel v7 W → Calls Try.prog 27 #[.slice (As t) n (cs t), .slice (Bs t) n (ds t)] W fun e w' => e = .returned (.tuple #[.agg #[.int .i64 (gp Ls Ms t).1, .int .i64 (gp Ls Ms t).2], .int .i64 0]) ∧ Bel W w') := fun W h =>
        rGap_ok (As t) (Bs t) (cs t) (ds t) n (Ls t) (Ms t) HNB.out.1 HNB.out.2 s1 s2 W (z3.bel h) (z4.bel h)
      have KS : Hid (∀ W', Bel wr W' → ((fun w' => w'.cell? ⟨v4.heap.size, t, none⟩ = some (.slice (As t) n (cs t)) ∧ w'.cell? ⟨v6.heap.size, t, none⟩ = some (.slice (Bs t) n (ds t))) W')) := fun W' h => ⟨h.kp k1, h.kp k2⟩
      have hPt := PG.out t hlt
      have hGt := GE.out t hlt
      have HN : Hid ((∃ j, j < t + 1 ∧ gp Ls Ms j = (G1, G2)) → f = true ∨ gp Ls Ms t = (G1, G2)) := fun ⟨j, hj, e⟩ => by
        rcases Nat.lt_or_ge j t with h | h
        · exact .inl (HF.out ⟨j, h, e⟩)
        · obtain rfl : j = t := by omega
          exact .inr e
      obtain ⟨P, hP⟩ : ∃ G, gp Ls Ms t = G := ⟨_, rfl⟩
      rw [hP] at DI HN hPt hGt
      obtain ⟨P1, P2⟩ := P
      have LS : Hid (∀ W, Calls Try.prog 16 #[.agg #[.int .i64 G1, .int .i64 G2], .agg #[.int .i64 P1, .int .i64 P2]] W fun e w' => e = .returned (.bool false) ∧ Bel W w') := fun W => rless_no G1 G2 P1 P2 PS.out hPt hGt W
      clear k1 k2 z1 z2 z3 z4 s1 s2 hP hPt hGt
      go_upto_region 9 with fail
      go_cut [12, 13] (fun sa sb wx => ∃ (b : Nat) (W : World), W = wx ∧ sa = .pointer (some ⟨b, 0, none⟩) ∧ sb = .int .i64 0 ∧ wr.heap.size ≤ b ∧ Bk wx b 28 #[.int .i64 P1, .int .i64 P2] ∧ Bel wr wx)
      case first =>
        go_region_held3 (fun w' => w'.cell? ⟨v4.heap.size, t, none⟩ = some (.slice (As t) n (cs t)) ∧ w'.cell? ⟨v6.heap.size, t, none⟩ = some (.slice (Bs t) n (ds t)))
          (exact KS.out _ (by repeat (first | with_reducible exact Bel.rf | (with_reducible refine Bel.drwN ?_ _) | (with_reducible refine Bel.drw ?_) | (with_reducible refine Bel.al ?_ _) | ((with_reducible refine Bel.st2 ?_ ?_ _); (first | exact Nat.le_refl _ | exact hz4)) | (refine Bel.tr ?_ (by assumption)))))
          ((go_at_call 27; refine (DI.out _ (Bel.tr HBwr.out (by repeat (first | with_reducible exact Bel.rf | (with_reducible refine Bel.drwN ?_ _) | (with_reducible refine Bel.drw ?_) | (with_reducible refine Bel.al ?_ _) | (refine Bel.tr ?_ (by assumption)))))).mono ?_; rintro r s4 ⟨rfl, h4⟩; have hz4 : wr.heap.size ≤ s4.heap.size := (Bel.tr (by repeat (first | with_reducible exact Bel.rf | (with_reducible refine Bel.drwN ?_ _) | (with_reducible refine Bel.drw ?_) | (with_reducible refine Bel.al ?_ _) | (refine Bel.tr ?_ (by assumption)))) h4).size; first | (have B3 : Bk s4 wr.heap.size 28 #[.int .i64 0, .int .i64 0] := Bk.bel (Bk.nw wr 28 #[.int .i64 0, .int .i64 0]) h4; have q0 : s4.cell? ⟨wr.heap.size, 0, none⟩ = some (.int .i64 0) := B3.cell 0; have q1 : s4.cell? ⟨wr.heap.size, 1, none⟩ = some (.int .i64 0) := B3.cell 1; have q2 := B3.fr 0; have q3 := B3.fr 1; have HB3K := Lib.hid B3; clear B3) | (have B3 : Bk s4 wr.heap.size 28 #[.int .i64 0, .int .i64 0] := Bk.bel (Bk.drw (Bk.nw wr 28 #[.int .i64 0, .int .i64 0])) h4; have q0 : s4.cell? ⟨wr.heap.size, 0, none⟩ = some (.int .i64 0) := B3.cell 0; have q1 : s4.cell? ⟨wr.heap.size, 1, none⟩ = some (.int .i64 0) := B3.cell 1; have q2 := B3.fr 0; have q3 := B3.fr 1; have HB3K := Lib.hid B3; clear B3) | (have B3 : Bk s4 wr.heap.size 28 #[.int .i64 0, .int .i64 0] := Bk.bel (Bk.drwN (Bk.nw wr 28 #[.int .i64 0, .int .i64 0]) _) h4; have q0 : s4.cell? ⟨wr.heap.size, 0, none⟩ = some (.int .i64 0) := B3.cell 0; have q1 : s4.cell? ⟨wr.heap.size, 1, none⟩ = some (.int .i64 0) := B3.cell 1; have q2 := B3.fr 0; have q3 := B3.fr 1; have HB3K := Lib.hid B3; clear B3) | (have B3 : Bk s4 wr.heap.size 28 #[.int .i64 0, .int .i64 0] := Bk.bel (Bk.nw wr.drew 28 #[.int .i64 0, .int .i64 0]) h4; have q0 : s4.cell? ⟨wr.heap.size, 0, none⟩ = some (.int .i64 0) := B3.cell 0; have q1 : s4.cell? ⟨wr.heap.size, 1, none⟩ = some (.int .i64 0) := B3.cell 1; have q2 := B3.fr 0; have q3 := B3.fr 1; have HB3K := Lib.hid B3; clear B3) | (have B3 : Bk s4 wr.heap.size 28 #[.int .i64 0, .int .i64 0] := Bk.bel (Bk.drw (Bk.nw wr.drew 28 #[.int .i64 0, .int .i64 0])) h4; have q0 : s4.cell? ⟨wr.heap.size, 0, none⟩ = some (.int .i64 0) := B3.cell 0; have q1 : s4.cell? ⟨wr.heap.size, 1, none⟩ = some (.int .i64 0) := B3.cell 1; have q2 := B3.fr 0; have q3 := B3.fr 1; have HB3K := Lib.hid B3; clear B3) | (have B3 : Bk s4 wr.heap.size 28 #[.int .i64 0, .int .i64 0] := Bk.bel (Bk.drwN (Bk.nw wr.drew 28 #[.int .i64 0, .int .i64 0]) _) h4; have q0 : s4.cell? ⟨wr.heap.size, 0, none⟩ = some (.int .i64 0) := B3.cell 0; have q1 : s4.cell? ⟨wr.heap.size, 1, none⟩ = some (.int .i64 0) := B3.cell 1; have q2 := B3.fr 0; have q3 := B3.fr 1; have HB3K := Lib.hid B3; clear B3) | (have B3 : Bk s4 wr.heap.size 28 #[.int .i64 0, .int .i64 0] := Bk.bel (Bk.nw (wr.drewN _) 28 #[.int .i64 0, .int .i64 0]) h4; have q0 : s4.cell? ⟨wr.heap.size, 0, none⟩ = some (.int .i64 0) := B3.cell 0; have q1 : s4.cell? ⟨wr.heap.size, 1, none⟩ = some (.int .i64 0) := B3.cell 1; have q2 := B3.fr 0; have q3 := B3.fr 1; have HB3K := Lib.hid B3; clear B3) | (have B3 : Bk s4 wr.heap.size 28 #[.int .i64 0, .int .i64 0] := Bk.bel (Bk.drw (Bk.nw (wr.drewN _) 28 #[.int .i64 0, .int .i64 0])) h4; have q0 : s4.cell? ⟨wr.heap.size, 0, none⟩ = some (.int .i64 0) := B3.cell 0; have q1 : s4.cell? ⟨wr.heap.size, 1, none⟩ = some (.int .i64 0) := B3.cell 1; have q2 := B3.fr 0; have q3 := B3.fr 1; have HB3K := Lib.hid B3; clear B3) | (have B3 : Bk s4 wr.heap.size 28 #[.int .i64 0, .int .i64 0] := Bk.bel (Bk.drwN (Bk.nw (wr.drewN _) 28 #[.int .i64 0, .int .i64 0]) _) h4; have q0 : s4.cell? ⟨wr.heap.size, 0, none⟩ = some (.int .i64 0) := B3.cell 0; have q1 : s4.cell? ⟨wr.heap.size, 1, none⟩ = some (.int .i64 0) := B3.cell 1; have q2 := B3.fr 0; have q3 := B3.fr 1; have HB3K := Lib.hid B3; clear B3) | (have B3 : Bk s4 wr.heap.size 28 #[.int .i64 0, .int .i64 0] := Bk.bel (Bk.nw (wr.drewN _).drew 28 #[.int .i64 0, .int .i64 0]) h4; have q0 : s4.cell? ⟨wr.heap.size, 0, none⟩ = some (.int .i64 0) := B3.cell 0; have q1 : s4.cell? ⟨wr.heap.size, 1, none⟩ = some (.int .i64 0) := B3.cell 1; have q2 := B3.fr 0; have q3 := B3.fr 1; have HB3K := Lib.hid B3; clear B3) | (have B3 : Bk s4 wr.heap.size 28 #[.int .i64 0, .int .i64 0] := Bk.bel (Bk.drw (Bk.nw (wr.drewN _).drew 28 #[.int .i64 0, .int .i64 0])) h4; have q0 : s4.cell? ⟨wr.heap.size, 0, none⟩ = some (.int .i64 0) := B3.cell 0; have q1 : s4.cell? ⟨wr.heap.size, 1, none⟩ = some (.int .i64 0) := B3.cell 1; have q2 := B3.fr 0; have q3 := B3.fr 1; have HB3K := Lib.hid B3; clear B3) | (have B3 : Bk s4 wr.heap.size 28 #[.int .i64 0, .int .i64 0] := Bk.bel (Bk.drwN (Bk.nw (wr.drewN _).drew 28 #[.int .i64 0, .int .i64 0]) _) h4; have q0 : s4.cell? ⟨wr.heap.size, 0, none⟩ = some (.int .i64 0) := B3.cell 0; have q1 : s4.cell? ⟨wr.heap.size, 1, none⟩ = some (.int .i64 0) := B3.cell 1; have q2 := B3.fr 0; have q3 := B3.fr 1; have HB3K := Lib.hid B3; clear B3) | skip))
        all_goals
          go_wp2_with fail
          go_meet
          first
            | exact ⟨_, _, rfl, rfl, rfl, hz4, (by repeat (first | exact Bk.nw _ _ _ | (with_reducible refine Bk.drwN ?_ _) | (with_reducible refine Bk.drw ?_))), (by repeat (first | with_reducible exact Bel.rf | (with_reducible refine Bel.drwN ?_ _) | (with_reducible refine Bel.drw ?_) | (with_reducible refine Bel.al ?_ _) | ((with_reducible refine Bel.st2 ?_ ?_ _); (first | exact Nat.le_refl _ | exact hz4)) | (refine Bel.tr ?_ (by assumption))))⟩
            | exact ⟨_, _, rfl, rfl, rfl, Nat.le_refl _, (HB3K.out.st 0 _).st 1 _, (by repeat (first | with_reducible exact Bel.rf | (with_reducible refine Bel.drwN ?_ _) | (with_reducible refine Bel.drw ?_) | (with_reducible refine Bel.al ?_ _) | ((with_reducible refine Bel.st2 ?_ ?_ _); (first | exact Nat.le_refl _ | exact hz4)) | (refine Bel.tr ?_ (by assumption))))⟩
      case rest =>
        obtain ⟨bv9, v9, hwx, rfl, rfl, hge, hbk, hbx⟩ := hcut
        subst hwx
        have HBv9 : Hid (Bel v7 v9) := HBwr.out.tr hbx
        have HKv9 := Lib.hid hbk
        have HXv9 := Lib.hid hbx
        clear hge hbk hbx
        have HG9 := Lib.hid (HG.out.bel HXv9.out)
        have u0 : v9.cell? ⟨v7.heap.size, 0, none⟩ = some (.int .i64 G1) := HG9.out.cell 0
        have u1 : v9.cell? ⟨v7.heap.size, 1, none⟩ = some (.int .i64 G2) := HG9.out.cell 1
        have u2 : v9.cell? ⟨bv9, 0, none⟩ = some (.int .i64 P1) := HKv9.out.cell 0
        have u3 : v9.cell? ⟨bv9, 1, none⟩ = some (.int .i64 P2) := HKv9.out.cell 1
        go_wp2_with fail
        go_at_call 16
        refine (LS.out _).mono ?_
        rintro e v10 ⟨rfl, h10⟩
        have HB10 : Hid (Bel v7 v10) := HBv9.out.tr h10
        have HG10 := Lib.hid (HG9.out.bel h10)
        have HP10 := Lib.hid (HKv9.out.bel h10)
        have y0 : v10.cell? ⟨v7.heap.size, 0, none⟩ = some (.int .i64 G1) := HG10.out.cell 0
        have y1 : v10.cell? ⟨v7.heap.size, 1, none⟩ = some (.int .i64 G2) := HG10.out.cell 1
        have y2 : v10.cell? ⟨bv9, 0, none⟩ = some (.int .i64 P1) := HP10.out.cell 0
        have y3 : v10.cell? ⟨bv9, 1, none⟩ = some (.int .i64 P2) := HP10.out.cell 1
        clear h10 u0 u1 u2 u3
        rcases f with _ | _
        · rcases Classical.em (P1 = G1 ∧ P2 = G2) with ⟨rfl, rfl⟩ | hne
          · go_wp2
            go_roundw
            case rel => exact ⟨t + 1, true, _, rfl, by omega, rfl, by go_num, fun _ => rfl, HG10.out, HB10.out⟩
            case measure => simp [intOf]; omega
          · have HNE : Hid (¬ (P1 = G1 ∧ P2 = G2)) := hne
            clear hne
            rcases Classical.em (P1 = G1) with h1 | h1
            · have h2 : ¬ P2 = G2 := fun e => HNE.out ⟨h1, e⟩
              have e1 : (G1 == P1) = true := by rw [h1]; simp
              have e2 : (G2 == P2) = false := beq_eq_false_iff_ne.2 (fun e => h2 e.symm)
              have e3 : (P2 = G2) = False := eq_false h2
              have e4 : (G2 = P2) = False := eq_false (fun e => h2 e.symm)
              have e5 : (G1 = P1) = True := eq_true h1.symm
              clear h1 h2
              go_wp2
              go_roundw
              case rel => exact ⟨t + 1, false, _, rfl, by omega, rfl, by go_num, fun h => by
                rcases HN.out h with h1 | h1
                · cases h1
                · exact absurd (by cases h1; exact ⟨rfl, rfl⟩) HNE.out, HG10.out, HB10.out⟩
              case measure => simp [intOf]; omega
            · have e1 : (G1 == P1) = false := beq_eq_false_iff_ne.2 (fun e => h1 e.symm)
              have e3 : (P1 = G1) = False := eq_false h1
              have e4 : (G1 = P1) = False := eq_false (fun e => h1 e.symm)
              clear h1
              go_wp2
              go_roundw
              case rel => exact ⟨t + 1, false, _, rfl, by omega, rfl, by go_num, fun h => by
                rcases HN.out h with h1 | h1
                · cases h1
                · exact absurd (by cases h1; exact ⟨rfl, rfl⟩) HNE.out, HG10.out, HB10.out⟩
              case measure => simp [intOf]; omega
        · go_wp2
          go_roundw
          case rel => exact ⟨t + 1, true, _, rfl, by omega, rfl, by go_num, fun _ => rfl, HG10.out, HB10.out⟩
          case measure => simp [intOf]; omega
    · obtain rfl : t = 3 := by omega
      have hft := HF.out IS.out
      subst hft
      go_wp2_with (go_at_call 23; refine (AW.out _).mono ?_; rintro e v11 ⟨rfl, h11⟩)
      go_ret
      exact ⟨rfl, ((HB7.out.tr HBwr.out).tr h11).bl⟩

set_option maxRecDepth 100000 in
theorem lifted (os : Os) (started : os.Started) (H : Type) (enc : TypeId × Value → H) :
    ReturnsInHanded {} Try.checked os 7 .any (Rows.channelsGreatestSpec.pre6 enc Try.prog Try.f7 Rows.channelsGreatestRow.domain false) (Rows.channelsGreatestSpec.post enc Try.prog Try.f7 false true false false) := by
  refine returnsInHanded_of_change (C := Try.checked) own started (by kernel_rfl) Try.func7
    (ChangeSpec.witness6 (enc := enc) (C := Try.checked) false ⟨#[], #[.slice none 0 0], []⟩ 8 (by kernel_rfl) (by kernel_rfl) (by kernel_rfl) (by kernel_rfl)) ?_
  intro W base args ds gs before hval0 hW hcnd _
  have hval : ∀ (j : Nat) t v, Try.f7.params[j]? = some t → args[j]? = some v → Value.okWide Try.prog W .any base t v := hval0
  have hW' := hW
  obtain ⟨p, q, hA0, hV, rfl, hfz, hnd⟩ := hW
  have hA : DataW.TrodAll enc Try.prog W 0 (fun _ => true) true Try.f7.params.toList args.toList ds p := hA0
  rw [Try.params7] at hA hval
  obtain ⟨v0, vs0, d0, ds0, p0, q0, hargs, rfl, rfl, h0, r0⟩ := trodAll_cons hA
  obtain ⟨rfl, rfl, rfl⟩ := trodAll_nil r0
  obtain rfl : args = #[v0] := by cases args; simp_all
  obtain ⟨rfl, rfl⟩ := trodVars_none hV
  obtain ⟨a0, len0, cap0, rfl⟩ := okWide_slice Try.underlying22 (hval 0 22 v0 rfl rfl)
  have k0 := h0
  have lt0 : ∀ x ∈ p0, x.block < W.heap.size := by obtain ⟨m, hm⟩ := k0; exact DataW.trod_lt m _ _ _ hm
  obtain ⟨z0, w0⟩ : ∃ zs, IsRow .i64 W a0 len0 cap0 zs := by
    obtain ⟨fuel, hf⟩ := h0
    rcases open_ints Try.underlying22 Try.underlying3 (by kernel_rfl) hf with ⟨hcs, _⟩ | ⟨x, l, c, zs, hcs, _, hl, hm, hz, _, hcell, hwz⟩
    · simp [Value.cells] at hcs
      obtain ⟨rfl, rfl, rfl⟩ := hcs
      exact ⟨[], .inl ⟨rfl, rfl, rfl, rfl⟩⟩
    · simp [Value.cells] at hcs
      obtain ⟨rfl, rfl, rfl⟩ := hcs
      exact ⟨zs, .inr ⟨_, rfl, hl, hm, by simpa using hz, hcell, hwz⟩⟩
  clear hA0 hval0
  refine (walk a0 len0 cap0 z0 W w0).mono fun e W' ⟨he, bel⟩ => ?_
  subst he
  exact ⟨_, rfl, _, _, _, [], _, [], hW', trodAll_mk1 (shut_bool Try.underlying4 _), (trodAll_cons_mk (Below.trod laidOut (by kernel_rfl) (of_decide_eq_true (by kernel_rfl)) k0 bel lt0) trodAll_mk0), rfl, bel.frame _, fun h => by cases h⟩

theorem over : Rows.channelsGreatestRow.holds Try.pinned (OpenSpec.ofChange Rows.channelsGreatestSpec) :=
  OpenClaim.holds_of_wide 7 Try.f7 rfl rfl rfl rfl rfl rfl rfl ⟨rfl, rfl, rfl, rfl, rfl⟩ rfl rfl rfl rfl rfl (by kernel_rfl) Try.func7 (by kernel_rfl)
    (of_decide_eq_true (by kernel_rfl)) (by unfold Func.isWrapper; first | (rw [if_pos (by decide +kernel)]; kernel_rfl) | (rw [if_neg (by decide +kernel)]; exact ⟨rfl, rfl⟩))
    (fun os started H enc _ => lifted os started H enc)

theorem proved : Rows.ChannelsGreatestSaid := over
end Go.Proofs.Ythmdponfigepjaa.channelsGreatest
