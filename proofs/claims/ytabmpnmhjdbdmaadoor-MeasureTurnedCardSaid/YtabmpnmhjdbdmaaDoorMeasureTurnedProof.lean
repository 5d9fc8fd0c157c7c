/- That the law MeasureTurned returns true for every input that can be read, and leaves its arguments as they were; the package variables that it lists start as the program lays them, which the card ties to the text; no further condition. -/
import Derived.Test.YtabmpnmhjdbdmaaDoorRows
import Derived.WalkKit
import Derived.ProofKit
import Derived.OpenShut
import Derived.LaidMore
import Derived.Stop.Joined
import Derived.SevenTiedAt
import Derived.Test.YtabmpnmhjdbdmaaDoorCards
import Derived.Test.YtabmpnmhjdbdmaaDoorTie
import Derived.Test.YtabmpnmhjdbdmaaDoorWords
import Derived.Test.YtabmpnmhjdbdmaaDoorSrcNew0
import Derived.Test.YtabmpnmhjdbdmaaDoorMsG
import Derived.Test.YtabmpnmhjdbdmaaDoorMsK
import Derived.Test.YtabmpnmhjdbdmaaDoorApp
import Derived.ShutString
import Derived.ChangeOld
import Derived.Below
namespace Go.Proofs.YtabmpnmhjdbdmaaDoor.measureTurned
open Go.ChangeShapes Go.WideShapes Go.ChangeAt Go.RowKit Wo
open Go.ChangeMaps (open_string shut_string)
set_option linter.unusedVariables false

theorem own : ownKnob Tryd.prog.godebug = none := by kernel_rfl
theorem laidOut : laidOutB Tryd.prog = true := by kernel_rfl

/-- WHAT THE WALK IS TOLD OF A SLICE OF INTEGERS THAT CAME IN: it is nil; or it leads to a row of 'cap' cells, the numbers 'zs' (the first 'len' are its elements, the rest its spare room), each fitting its kind. -/
def IsRow (k : IntKind) (w : World) (a : Option Addr) (len cap : Nat) (zs : List Int) : Prop :=
  (a = none ∧ len = 0 ∧ cap = 0 ∧ zs = []) ∨
  ∃ x, a = some x ∧ len ≤ cap ∧ cap ≤ maxLen ∧ zs.length = cap ∧ (∀ i, i < zs.length → w.cell? (x.add i) = some (.int k (zs.getD i 0))) ∧ ∀ n ∈ zs, (Lit.int k n).wf = true

open Go.Proofs.YtabmpnmhjdbdmaaDoor.Ms Go.Proofs.YtabmpnmhjdbdmaaDoor.Wi Go.Proofs.YtabmpnmhjdbdmaaDoor.Wo Go.Proofs.YtabmpnmhjdbdmaaDoor.Sr Go.Proofs.YtabmpnmhjdbdmaaDoor.Ra Go.Proofs.YtabmpnmhjdbdmaaDoor.Rr Go.Proofs.YtabmpnmhjdbdmaaDoor.Nr in
set_option maxHeartbeats 8000000 in
set_option maxRecDepth 100000 in
theorem walk (a0 : Option Addr) (len0 cap0 : Nat) (z0 : List Int) (w : World) (hL : Rr.Lw w) (w0 : IsRow .i64 w a0 len0 cap0 z0) :
    Calls Tryd.prog 4 #[.slice a0 len0 cap0] w fun e w' => e = .returned (.bool true) ∧ Below w.heap.size w w' := by
  have HL := Lib.hid hL
  clear hL
  have AW : Hid (∀ W, Bel w W → Calls Tryd.prog 12 #[] W fun e w' => e = .returned (.bool true) ∧ Bel W w') := fun W hW => awake_any W (HL.out.bel hW)
  go_enter Tryd.func4, Tryd.ntmps4
  go_wp2_with fail
  go_at_call 7
  refine (new_any a0 len0 cap0 z0 w w0).mono ?_
  rintro e v1 ⟨q0, rfl, hq, ho1, hb1⟩
  have HO := Lib.hid ho1
  have HBa : Hid (Bel w v1) := hb1
  clear ho1 hb1
  go_wp2_with fail
  go_at_call 8
  refine (measure_any q0 _ HO.out).mono ?_
  rintro e u1 ⟨k, b, g, rfl, hmv, ho, hc⟩
  have HBm : Hid (Bel w u1) := Bel.ch HBa.out hc (by have := hq; omega)
  have HO1 : Hid (Ok (u1.alloc (.cells #[.int .i64 k, .int .i64 b, .int .i64 g] 26)) q0) := ho.bel (Bel.rf.al _)
  have HKm : Hid (Bk (u1.alloc (.cells #[.int .i64 k, .int .i64 b, .int .i64 g] 26)) u1.heap.size 26 #[.int .i64 k, .int .i64 b, .int .i64 g]) := Bk.nw _ _ _
  have QL : q0 < u1.heap.size := ho.lt
  clear ho hc
  go_wp2_with fail
  go_at_call 13
  refine (pair_any q0 _ HO1.out).mono ?_
  rintro e v2 ⟨xa, xb, ya, yb, n, L, M, rfl, n1, n2, hxy, hox, hoy, lL, lM, sL, sM, ho2, hc2⟩
  have HKv := Lib.hid (hc2.bk HKm.out (by have := QL; omega))
  have HBb : Hid (Bel w v2) := Bel.ch (HBm.out.al _) hc2 (by have := hq; omega)
  have zx : Zi v2 (some ⟨xa, 0, none⟩) n L := own_zi hox lL
  have zy : Zi v2 (some ⟨ya, 0, none⟩) n M := own_zi hoy lM
  obtain ⟨P, hP⟩ : ∃ P, L.reverse = P := ⟨_, rfl⟩
  obtain ⟨Q, hQ⟩ : ∃ Q, M.reverse = Q := ⟨_, rfl⟩
  have lP : P.length = n := by rw [← hP]; simpa using lL
  have lQ : Q.length = n := by rw [← hQ]; simpa using lM
  have sP : Sam P := fun x hx => sL x (by rw [← hP] at hx; simpa using hx)
  have sQ : Sam Q := fun x hx => sM x (by rw [← hQ] at hx; simpa using hx)
  have atP : ∀ i, i < n → P.getD i 0 = L.getD (n - 1 - i) 0 := fun i hi => by rw [← hP, Nr.rev_at L i (by omega), lL]
  have atQ : ∀ i, i < n → Q.getD i 0 = M.getD (n - 1 - i) 0 := fun i hi => by rw [← hQ, Nr.rev_at M i (by omega), lM]
  have HP := Lib.hid (And.intro lP (And.intro sP atP))
  have HQ := Lib.hid (And.intro lQ (And.intro sQ atQ))
  have mr := md_rev (g := g) hmv n1 n2 lL lM sL sM
  rw [hP, hQ] at mr
  have D1 : Hid (∀ W, Bel v2 W → _) := fun W hW => dist_any k b g hmv (some ⟨xa, 0, none⟩) (some ⟨ya, 0, none⟩) xb yb n n L M (Fit.one n hmv) n1 n2 n1 n2 sL sM W (zx.bel hW) (zy.bel hW)
  have D2 : Hid (∀ W, Bel v2 W → ∀ pa qa pb qb, Zi W (some ⟨pa, 0, none⟩) n P → Zi W (some ⟨qa, 0, none⟩) n Q → _) := fun W hW pa qa pb qb h1 h2 => dist_any k b g hmv (some ⟨pa, 0, none⟩) (some ⟨qa, 0, none⟩) pb qb n n P Q (Fit.one n hmv) n1 n2 n1 n2 sP sQ W h1 h2
  rw [mr] at D2
  obtain ⟨G, hG⟩ : ∃ G, md k b g n n L M = G := ⟨_, rfl⟩
  rw [hG] at D1 D2
  obtain ⟨G1, G2⟩ := G
  have HZX := Lib.hid zx
  have HZY := Lib.hid zy
  clear hP hQ lP lQ sP sQ atP atQ lL lM sL sM zx zy hox hoy hmv mr hG hc2 ho2 w0
  have HR0 : Hid (∃ (t : Nat) (V : World) (u6 u7 : Value), V = v2 ∧ u6 = (Value.slice none 0 0) ∧ u7 = (Value.slice none 0 0) ∧ t ≤ n ∧ (Value.int .i64 0) = .int .i64 (t : Int) ∧ Tw v2.heap.size v2 v2 u6 t (P.take t) u7 t (Q.take t)) :=
    ⟨0, _, _, _, rfl, rfl, rfl, by omega, rfl, by simpa using Tw.nil (Bel.rf (a := v2)) (Nat.le_refl _)⟩
  go_wp2
  go_loopw [7, 8, 25] (fun s6 s7 s27 wr => ∃ (t : Nat) (V : World) (u6 u7 : Value), V = wr ∧ u6 = s6 ∧ u7 = s7 ∧ t ≤ n ∧ s27 = .int .i64 (t : Int) ∧ Tw v2.heap.size v2 wr u6 t (P.take t) u7 t (Q.take t)) (fun _ _ s27 _ => n - (intOf s27).toNat)
  case atStart => exact HR0.out
  case round =>
    clear HR0
    obtain ⟨t, wr, u6, u7, hwr, hu6, hu7, ht, rfl, hT⟩ := hrel
    subst hwr hu6 hu7
    have HT := Lib.hid hT
    rcases Nat.lt_or_ge t n with hlt | hge
    · obtain ⟨j, hj⟩ : ∃ j, n - 1 - t = j := ⟨_, rfl⟩
      have hji : (n : Int) - 1 - (t : Int) = (j : Int) := by omega
      have hjn : (j : Int) < (n : Int) := by omega
      have hjn2 : j < n := by omega
      have wj1 : IntKind.i64.wrap ((n : Int) - 1) = (n : Int) - 1 := IntWalk.i64_in _ (by omega)
      have wj3 : IntKind.i64.wrap (j : Int) = (j : Int) := IntWalk.i64_in _ (by omega)
      have wj2 : IntKind.i64.wrap ((n : Int) - 1 - (t : Int)) = (j : Int) := by rw [hji]; exact IntWalk.i64_in _ (by omega)
      have c1 := (HZX.out.bel hT.low).at j (by omega)
      have c2 := (HZY.out.bel hT.low).at j (by omega)
      have e1 := HP.out.2.2 t hlt
      have e2 := HQ.out.2.2 t hlt
      rw [hj] at e1 e2
      obtain ⟨x, hx⟩ : ∃ x, L.getD j 0 = x := ⟨_, rfl⟩
      obtain ⟨y, hy⟩ : ∃ x, M.getD j 0 = x := ⟨_, rfl⟩
      rw [hx] at c1 e1
      rw [hy] at c2 e2
      have HX : Hid (P.take (t + 1) = P.take t ++ [x] ∧ Q.take (t + 1) = Q.take t ++ [y]) := ⟨by rw [take_snoc P t (by have := HP.out.1; omega), e1], by rw [take_snoc Q t (by have := HQ.out.1; omega), e2]⟩
      have HCX : Hid (∀ W, Bel v2 W → W.cell? ⟨xa, j, none⟩ = some (.int .i64 x)) := fun W hW => by have := (HZX.out.bel hW).at j hjn2; rwa [hx] at this
      have HCY : Hid (∀ W, Bel v2 W → W.cell? ⟨ya, j, none⟩ = some (.int .i64 y)) := fun W hW => by have := (HZY.out.bel hW).at j hjn2; rwa [hy] at this
      have cA1 : ∀ o, (wr.alloc o).cell? ⟨xa, j, none⟩ = some (.int .i64 x) := fun o => kp_al c1 o
      have cA2 : ∀ o, (wr.alloc o).cell? ⟨ya, j, none⟩ = some (.int .i64 y) := fun o => kp_al c2 o
      have cA3 : ∀ o, (wr.alloc o).drew.cell? ⟨xa, j, none⟩ = some (.int .i64 x) := fun o => kp_al c1 o
      have cA4 : ∀ o, (wr.alloc o).drew.cell? ⟨ya, j, none⟩ = some (.int .i64 y) := fun o => kp_al c2 o
      have ti : (t : Int) < (n : Int) := by omega
      clear hT hx hy e1 e2 hj
      go_wp2
      go_region_law (first
        | (refine step_app _ rfl (.tmp 28) (.tmp 37) rfl v2.heap.size u6 t (P.take t) rfl (own_bel hTB.o1 (by repeat (first | exact Bel.rf | (with_reducible refine Bel.drwN ?_ _) | (with_reducible refine Bel.drw ?_) | (with_reducible refine Bel.al ?_ _)))) _ 1 1 [x] rfl (by first | (refine zi_one (Bk.nq _ _ _ ?_); simp; done) | (refine zi_one ((Bk.nq _ _ _ ?_).al _); simp; done) | (refine zi_one (hkB _ ?_ (Bk.nq _ _ _ ?_)) <;> simp; done) | (refine zi_one (hkB _ ?_ ((Bk.nq _ _ _ ?_).al _)) <;> simp; done)) (by omega) (Tw.base (Tw.bel hTB (by repeat (first | exact Bel.rf | (with_reducible refine Bel.drwN ?_ _) | (with_reducible refine Bel.drw ?_) | (with_reducible refine Bel.al ?_ _))))) ?_; intro vp wp hop hgp hatp; have hT2 := Tw.app1 (Tw.bel hTB (by repeat (first | exact Bel.rf | (with_reducible refine Bel.drwN ?_ _) | (with_reducible refine Bel.drw ?_) | (with_reducible refine Bel.al ?_ _)))) hop hgp hatp)
        | (refine step_app _ rfl (.tmp 28) (.tmp 37) rfl v2.heap.size u6 t (P.take t) rfl (own_bel HT.out.o1 (by repeat (first | exact Bel.rf | (with_reducible refine Bel.drwN ?_ _) | (with_reducible refine Bel.drw ?_) | (with_reducible refine Bel.al ?_ _)))) _ 1 1 [x] rfl (by first | (refine zi_one (Bk.nq _ _ _ ?_); simp; done) | (refine zi_one ((Bk.nq _ _ _ ?_).al _); simp; done)) (by omega) (Tw.base (Tw.bel HT.out (by repeat (first | exact Bel.rf | (with_reducible refine Bel.drwN ?_ _) | (with_reducible refine Bel.drw ?_) | (with_reducible refine Bel.al ?_ _))))) ?_; intro vp wp hop hgp hatp; have hTA := Tw.app1 (Tw.bel HT.out (by repeat (first | exact Bel.rf | (with_reducible refine Bel.drwN ?_ _) | (with_reducible refine Bel.drw ?_) | (with_reducible refine Bel.al ?_ _)))) hop hgp hatp; have cqy := HCY.out _ (Tw.low hTA); have hkA := fun (q : Nat) (hq : wr.heap.size ≤ q) h => bk_grown (g := q) (t := 3) (cs := #[.int .i64 y]) h hgp (fun b e => (HT.out.o1.lt b e).2) hq)
        | (refine step_app _ rfl (.tmp 39) (.tmp 48) rfl v2.heap.size u7 t (Q.take t) rfl (own_bel hTA.o2 (by repeat (first | exact Bel.rf | (with_reducible refine Bel.drwN ?_ _) | (with_reducible refine Bel.drw ?_) | (with_reducible refine Bel.al ?_ _)))) _ 1 1 [y] rfl (by first | (refine zi_one (Bk.nq _ _ _ ?_); simp; done) | (refine zi_one ((Bk.nq _ _ _ ?_).al _); simp; done) | (refine zi_one (hkA _ ?_ (Bk.nq _ _ _ ?_)) <;> simp; done) | (refine zi_one (hkA _ ?_ ((Bk.nq _ _ _ ?_).al _)) <;> simp; done)) (by omega) (Tw.base (Tw.bel hTA (by repeat (first | exact Bel.rf | (with_reducible refine Bel.drwN ?_ _) | (with_reducible refine Bel.drw ?_) | (with_reducible refine Bel.al ?_ _))))) ?_; intro vq wq hoq hgq hatq; have hT2 := Tw.app2 (Tw.bel hTA (by repeat (first | exact Bel.rf | (with_reducible refine Bel.drwN ?_ _) | (with_reducible refine Bel.drw ?_) | (with_reducible refine Bel.al ?_ _)))) hoq hgq hatq)
        | (refine step_app _ rfl (.tmp 39) (.tmp 48) rfl v2.heap.size u7 t (Q.take t) rfl (own_bel HT.out.o2 (by repeat (first | exact Bel.rf | (with_reducible refine Bel.drwN ?_ _) | (with_reducible refine Bel.drw ?_) | (with_reducible refine Bel.al ?_ _)))) _ 1 1 [y] rfl (by first | (refine zi_one (Bk.nq _ _ _ ?_); simp; done) | (refine zi_one ((Bk.nq _ _ _ ?_).al _); simp; done)) (by omega) (Tw.base (Tw.bel HT.out (by repeat (first | exact Bel.rf | (with_reducible refine Bel.drwN ?_ _) | (with_reducible refine Bel.drw ?_) | (with_reducible refine Bel.al ?_ _))))) ?_; intro vq wq hoq hgq hatq; have hTB := Tw.app2 (Tw.bel HT.out (by repeat (first | exact Bel.rf | (with_reducible refine Bel.drwN ?_ _) | (with_reducible refine Bel.drw ?_) | (with_reducible refine Bel.al ?_ _)))) hoq hgq hatq; have cqx := HCX.out _ (Tw.low hTB); have hkB := fun (q : Nat) (hq : wr.heap.size ≤ q) h => bk_grown (g := q) (t := 3) (cs := #[.int .i64 x]) h hgq (fun b e => (HT.out.o2.lt b e).2) hq))
      all_goals
        have HT2 := Lib.hid hT2
        clear hT2
        go_wp2
        go_roundw
        case rel => exact ⟨t + 1, _, _, _, rfl, rfl, rfl, by omega, by go_num, by rw [HX.out.1, HX.out.2]; exact HT2.out⟩
        case measure => simp [intOf]; omega
    · obtain rfl : t = n := by omega
      have o1 := Tw.o1 hT
      have o2 := Tw.o2 hT
      rw [List.take_of_length_le (by have := HP.out.1; omega)] at o1
      rw [List.take_of_length_le (by have := HQ.out.1; omega)] at o2
      obtain ⟨pa, pb, rfl, _, _⟩ := row_form o1 (by omega)
      obtain ⟨qa, qb, rfl, _, _⟩ := row_form o2 (by omega)
      have ZP := Lib.hid (own_zi o1 HP.out.1)
      have ZQ := Lib.hid (own_zi o2 HQ.out.1)
      have HBwr : Hid (Bel v2 wr) := Tw.low hT
      have kM := HKv.out.bel HBwr.out
      have HKw := Lib.hid kM
      have k0 : wr.cell? ⟨u1.heap.size, 0, none⟩ = some (.int .i64 k) := kM.cell 0
      have k1 : wr.cell? ⟨u1.heap.size, 1, none⟩ = some (.int .i64 b) := kM.cell 1
      have k2 : wr.cell? ⟨u1.heap.size, 2, none⟩ = some (.int .i64 g) := kM.cell 2
      clear hT HT o1 o2 kM HZX HZY HP HQ
      go_wp2_with fail
      go_at_call 10
      refine (D1.out _ HBwr.out).mono ?_
      rintro e v3 ⟨rfl, hb⟩
      have HA3 : Hid (Bel v2 v3) := HBwr.out.tr hb
      have ZP3 := Lib.hid ((ZP.out.bel hb).bel (Bel.rf.al (.cells #[.int .i64 G1, .int .i64 G2] 31)))
      have ZQ3 := Lib.hid ((ZQ.out.bel hb).bel (Bel.rf.al (.cells #[.int .i64 G1, .int .i64 G2] 31)))
      have HB3 : Hid (Bel v2 (v3.alloc (.cells #[.int .i64 G1, .int .i64 G2] 31))) := HA3.out.al _
      have HK3 : Hid (Bk (v3.alloc (.cells #[.int .i64 G1, .int .i64 G2] 31)) v3.heap.size 31 #[.int .i64 G1, .int .i64 G2]) := Bk.nw _ _ _
      have kM := HKw.out.bel hb
      have k0 : v3.cell? ⟨u1.heap.size, 0, none⟩ = some (.int .i64 k) := kM.cell 0
      have k1 : v3.cell? ⟨u1.heap.size, 1, none⟩ = some (.int .i64 b) := kM.cell 1
      have k2 : v3.cell? ⟨u1.heap.size, 2, none⟩ = some (.int .i64 g) := kM.cell 2
      have lk := kM.lt
      clear hb kM
      go_wp2_with fail
      go_at_call 10
      refine (D2.out _ HB3.out _ _ _ _ ZP3.out ZQ3.out).mono ?_
      rintro e v4 ⟨rfl, hb⟩
      have HB4 : Hid (Bel v2 v4) := HB3.out.tr hb
      have kA := HK3.out.bel hb
      have p0 : v4.cell? ⟨v3.heap.size, 0, none⟩ = some (.int .i64 G1) := kA.cell 0
      have p1 : v4.cell? ⟨v3.heap.size, 1, none⟩ = some (.int .i64 G2) := kA.cell 1
      have lp := kA.lt
      clear hb kA
      have HB5 : Hid (Bel w (v4.alloc (.cells #[.int .i64 G1, .int .i64 G2] 31))) := (HBb.out.tr HB4.out).al _
      go_wp2_with (go_at_call 12; refine (AW.out _ HB5.out).mono ?_; rintro e v11 ⟨rfl, h11⟩)
      go_ret
      exact ⟨rfl, (HB5.out.tr h11).bl⟩

theorem door_met (os : Os) (args : Array Value) : laidMetH Tryd.prog [("math/bits.deBruijn32tab", Rows.laid_math_bits_deBruijn32tab), ("math/bits.deBruijn64tab", Rows.laid_math_bits_deBruijn64tab), ("internal/strconv.uint64pow10", Rows.laid_internal_strconv_uint64pow10), ("strconv.ErrRange", Rows.laid_strconv_ErrRange), ("strconv.ErrSyntax", Rows.laid_strconv_ErrSyntax)] ((World.doorLaid Tryd.prog 400 os).forCall (fun _ _ => 0) ⟨#[], args, []⟩).memory :=
  laidMetH_of_parts3 (fuel := 8) (laidMet_of_run' 8 (by kernel_rfl) (by kernel_rfl)) (by kernel_rfl) (by kernel_rfl)
set_option maxRecDepth 100000 in
theorem lifted (os : Os) (started : os.Started) (H : Type) (enc : TypeId × Value → H) :
    ReturnsInHanded {} Tryd.checked os 4 .any (fun w args => (Rows.measureTurnedSpec.pre enc Tryd.prog Tryd.f4 [] false w args ∧ laidMetH Tryd.prog [("math/bits.deBruijn32tab", Rows.laid_math_bits_deBruijn32tab), ("math/bits.deBruijn64tab", Rows.laid_math_bits_deBruijn64tab), ("internal/strconv.uint64pow10", Rows.laid_internal_strconv_uint64pow10), ("strconv.ErrRange", Rows.laid_strconv_ErrRange), ("strconv.ErrSyntax", Rows.laid_strconv_ErrSyntax)] w) ∧ sizedMet enc Tryd.prog Tryd.f4 (OpenSpec.ofChange Rows.measureTurnedSpec) false w args)
      (Rows.measureTurnedSpec.post enc Tryd.prog Tryd.f4 false true false false) := by
  refine returnsInHanded_of_change_and (C := Tryd.checked) (X := fun w _ => laidMetH Tryd.prog [("math/bits.deBruijn32tab", Rows.laid_math_bits_deBruijn32tab), ("math/bits.deBruijn64tab", Rows.laid_math_bits_deBruijn64tab), ("internal/strconv.uint64pow10", Rows.laid_internal_strconv_uint64pow10), ("strconv.ErrRange", Rows.laid_strconv_ErrRange), ("strconv.ErrSyntax", Rows.laid_strconv_ErrSyntax)] w) (fun _ _ _ hh h => h.of_heap hh) own started (by kernel_rfl) Tryd.func4
    (ChangeSpec.witness_shaped (enc := enc) (C := Tryd.checked) (os := os) (X := fun w _ => laidMetH Tryd.prog [("math/bits.deBruijn32tab", Rows.laid_math_bits_deBruijn32tab), ("math/bits.deBruijn64tab", Rows.laid_math_bits_deBruijn64tab), ("internal/strconv.uint64pow10", Rows.laid_internal_strconv_uint64pow10), ("strconv.ErrRange", Rows.laid_strconv_ErrRange), ("strconv.ErrSyntax", Rows.laid_strconv_ErrSyntax)] w) false (World.doorLaid Tryd.prog 400 os) #[.slice none 0 0] 8 rfl (World.shaped_of_RefB (by kernel_rfl) (by kernel_rfl)) (by kernel_rfl) (by kernel_rfl) (by kernel_rfl) (door_met os _)) ?_
  intro W base args ds gs before hval0 hW _ _ hL hsz
  have hval : ∀ (j : Nat) t v, Tryd.f4.params[j]? = some t → args[j]? = some v → Value.okWide Tryd.prog W .any base t v := hval0
  have hW' := hW
  obtain ⟨p, q, hA0, hV, rfl, hfz, hnd⟩ := hW
  have hA : DataW.TrodAll enc Tryd.prog W 0 (fun _ => true) true Tryd.f4.params.toList args.toList ds p := hA0
  rw [Tryd.params4] at hA hval
  obtain ⟨v0, vs0, d0, ds0, p0, q0, hargs, rfl, rfl, h0, r0⟩ := trodAll_cons hA
  obtain ⟨rfl, rfl, rfl⟩ := trodAll_nil r0
  obtain rfl : args = #[v0] := by cases args; simp_all
  obtain ⟨rfl, rfl⟩ := trodVars_none hV
  obtain ⟨a0, len0, cap0, rfl⟩ := okWide_slice Tryd.underlying22 (hval 0 22 v0 rfl rfl)
  have k0 := h0
  have lt0 : ∀ x ∈ p0, x.block < W.heap.size := by obtain ⟨m, hm⟩ := k0; exact DataW.trod_lt m _ _ _ hm
  obtain ⟨z0, w0⟩ : ∃ zs, IsRow .i64 W a0 len0 cap0 zs := by
    obtain ⟨fuel, hf⟩ := h0
    rcases open_ints Tryd.underlying22 Tryd.underlying3 (by kernel_rfl) hf with ⟨hcs, _⟩ | ⟨x, l, c, zs, hcs, _, hl, hm, hz, _, hcell, hwz⟩
    · simp [Value.cells] at hcs
      obtain ⟨rfl, rfl, rfl⟩ := hcs
      exact ⟨[], .inl ⟨rfl, rfl, rfl, rfl⟩⟩
    · simp [Value.cells] at hcs
      obtain ⟨rfl, rfl, rfl⟩ := hcs
      exact ⟨zs, .inr ⟨_, rfl, hl, hm, by simpa using hz, hcell, hwz⟩⟩
  clear hA0 hval0
  refine (walk a0 len0 cap0 z0 W (Rr.lw_of hL) w0).mono fun e W' ⟨he, bel⟩ => ?_
  subst he
  exact ⟨_, rfl, _, _, _, [], _, [], hW', trodAll_mk1 (shut_bool Tryd.underlying4 _), (trodAll_cons_mk (Below.trod laidOut (by kernel_rfl) (of_decide_eq_true (by kernel_rfl)) k0 bel lt0) trodAll_mk0), rfl, bel.frame _, fun h => by cases h⟩

theorem over : Rows.measureTurnedRow.holds Tryd.pinned (OpenSpec.ofChange Rows.measureTurnedSpec) :=
  OpenClaim.holds_of_wide 4 Tryd.f4 rfl rfl rfl rfl rfl rfl rfl ⟨rfl, rfl, rfl, rfl, rfl⟩ rfl rfl rfl rfl rfl (by kernel_rfl) Tryd.func4 (by kernel_rfl)
    (of_decide_eq_true (by kernel_rfl)) (by unfold Func.isWrapper; first | (rw [if_pos (by decide +kernel)]; kernel_rfl) | (rw [if_neg (by decide +kernel)]; exact ⟨rfl, rfl⟩))
    (fun os started H enc _ => lifted os started H enc)

theorem proved : Rows.MeasureTurnedCardSaid :=
  Claim7.holds_tied_plain_at .later [] [.data, .data, .data, .sentinel, .sentinel] true (true, "3a4203769b91cc8d2291e2463e5293dd968d5639c0ecf2401ffa17525343a5c0") true
    over (fun _ h => by cases h) (by kernel_rfl) (fun _ h => by cases h) measureTurned_row_tie rfl ⟨rfl, rfl⟩ (by kernel_rfl) rfl
    (fun f fn hf hfn => by
      obtain rfl : f = 4 := Option.some.inj ((show Tryd.prog.funcNamed "shapesearch/shapesearchlaw17.MeasureTurned" = some 4 by kernel_rfl).symm.trans hf) |>.symm
      obtain rfl : fn = Tryd.f4 := (Option.some.inj (Tryd.func4.symm.trans hfn)).symm
      exact ⟨by kernel_rfl, fun j t ht => by
        rw [Tryd.params4] at ht
        have hm : t ∈ [22] := by simpa using Array.mem_of_getElem? ht
        have hall : ([22].all fun u => !Tryd.prog.wantsStandIn u) = true := by kernel_rfl
        exact (show Tryd.prog.wantsStandIn t = false by simpa using List.all_eq_true.1 hall t hm)⟩)
    (by kernel_rfl)
end Go.Proofs.YtabmpnmhjdbdmaaDoor.measureTurned
