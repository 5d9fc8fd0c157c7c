/- That the law ChannelsSums returns true for every input that can be read, and leaves its arguments as they were; no further condition. -/
import Derived.Test.YthmdponfigepjaaRows
import Derived.WalkKit
import Derived.ProofKit
import Derived.OpenShut
import Derived.Test.YthmdponfigepjaaWords
import Derived.Test.YthmdponfigepjaaSrcNew0
import Derived.Test.YthmdponfigepjaaChSu
import Derived.ShutString
import Derived.ChangeOld
import Derived.Below
namespace Go.Proofs.Ythmdponfigepjaa.channelsSums
open Go.ChangeShapes Go.WideShapes Go.ChangeAt Go.RowKit Wo
open Go.ChangeMaps (open_string shut_string)
set_option linter.unusedVariables false

theorem own : ownKnob Try.prog.godebug = none := by kernel_rfl
theorem laidOut : laidOutB Try.prog = true := by kernel_rfl

/-- WHAT THE WALK IS TOLD OF A SLICE OF INTEGERS THAT CAME IN: it is nil; or it leads to a row of 'cap' cells, the numbers 'zs' (the first 'len' are its elements, the rest its spare room), each fitting its kind. -/
def IsRow (k : IntKind) (w : World) (a : Option Addr) (len cap : Nat) (zs : List Int) : Prop :=
  (a = none ∧ len = 0 ∧ cap = 0 ∧ zs = []) ∨
  ∃ x, a = some x ∧ len ≤ cap ∧ cap ≤ maxLen ∧ zs.length = cap ∧ (∀ i, i < zs.length → w.cell? (x.add i) = some (.int k (zs.getD i 0))) ∧ ∀ n ∈ zs, (Lit.int k n).wf = true

open Go.Proofs.Ythmdponfigepjaa.Ch Go.Proofs.Ythmdponfigepjaa.Wi Go.Proofs.Ythmdponfigepjaa.Wo Go.Proofs.Ythmdponfigepjaa.Sr Go.Proofs.Ythmdponfigepjaa.Ra in
set_option maxHeartbeats 8000000 in
set_option maxRecDepth 100000 in
theorem walk (a0 : Option Addr) (len0 cap0 : Nat) (z0 : List Int) (w : World) (w0 : IsRow .i64 w a0 len0 cap0 z0) :
    Calls Try.prog 8 #[.slice a0 len0 cap0] w fun e w' => e = .returned (.bool true) ∧ Below w.heap.size w w' := by
  have AW : Hid (∀ W, Calls Try.prog 23 #[] W fun e w' => e = .returned (.bool true) ∧ Bel W w') := awake_any
  go_enter Try.func8, Try.ntmps8
  go_wp2_with fail
  go_at_call 9
  refine (new_any a0 len0 cap0 z0 w w0).mono ?_
  rintro e v1 ⟨q0, rfl, hq, ho1, hb1⟩
  have HO := Lib.hid ho1
  have HBa : Hid (Bel w v1) := hb1
  clear ho1 hb1
  go_wp2_with fail
  go_at_call 18
  refine (bundles_any q0 _ HO.out).mono ?_
  rintro e v2 ⟨g1, g2, c1, c2, q, n, m, As, Bs, cs, ds, Ls, Ms, k, rfl, q1, q4, qc1, qc2, n1, n2, m1, m2, k0, k1, k2, k3, hX, hY, hL, hM, hc2, ⟨x0, hx0⟩, ⟨y0, hy0⟩⟩
  have HBb : Hid (Bel w v2) := Bel.ch HBa.out hc2 (by have := hq; omega)
  have SS : ∀ c, c < q → Sam (Ls c) ∧ Sam (Ms c) := fun c hc => ⟨(hX.2 c hc).2.2, (hY.2 c hc).2.2⟩
  have SL : ∀ c, c < q → Sam (Ls c) ∧ Sam (Ms c) ∧ (Ls c).length = n ∧ (Ms c).length = m := fun c hc => ⟨(SS c hc).1, (SS c hc).2, (hX.2 c hc).2.1.1, (hY.2 c hc).2.1.1⟩
  have D1 : Hid (∀ W, Bel v2 W → _) := fun W hW => apart_ok g1 g2 q n m c1 c2 As Bs cs ds Ls Ms k q1 q4 n1 n2 m1 m2 k0 k1 k2 k3 W (hX.bel hW) (hY.bel hW)
  have DS : Hid (∀ t, t < q → ∀ W, Bel v2 W → Calls Try.prog 19 #[.slice (some ⟨g1, t, none⟩) 1 (c1 - t), .slice (some ⟨g2, t, none⟩) 1 (c2 - t), .int .i64 k] W fun e w' => e = .returned (.tuple #[.int .i64 (wg (cst (Ls t) (Ms t)) k n m), .int .i64 0]) ∧ Bel W w') := fun t ht W hW => by
    have h := Co.apart_ok t g1 g2 1 n m (c1 - t) (c2 - t) (fun _ => As t) (fun _ => Bs t) (fun _ => cs t) (fun _ => ds t) (fun _ => Ls t) (fun _ => Ms t) k (by decide) (by decide) n1 n2 m1 m2 k0 k1 k2 k3 W (bun_sing (hX.bel hW) t ht) (bun_sing (hY.bel hW) t ht)
    rwa [aps_sing] at h
  have E1 : Hid (n = m → ∀ W, Bel v2 W → Calls Try.prog 22 #[.slice (some ⟨g1, 0, none⟩) q c1, .slice (some ⟨g2, 0, none⟩) q c2] W fun e w' => e = .returned (.tuple #[.int .i64 (es Ls Ms q), .int .i64 0]) ∧ Bel W w') := fun e W hW => by
    subst e
    exact euclid_ok g1 g2 q n c1 c2 As Bs cs ds Ls Ms q1 q4 n1 n2 (fun t ht => by
      have := es_bd (Ls := Ls) (Ms := Ms) n2 t (fun c hc => SL c (by omega))
      omega) W (hX.bel hW) (hY.bel hW)
  have ES : Hid (n = m → ∀ t, t < q → ∀ W, Bel v2 W → Calls Try.prog 22 #[.slice (some ⟨g1, t, none⟩) 1 (c1 - t), .slice (some ⟨g2, t, none⟩) 1 (c2 - t)] W fun e w' => e = .returned (.tuple #[.int .i64 (su sq (df (Ls t) (Ms t))), .int .i64 0]) ∧ Bel W w') := fun e t ht W hW => by
    subst e
    have h := Co.euclid_ok t g1 g2 1 n (c1 - t) (c2 - t) (fun _ => As t) (fun _ => Bs t) (fun _ => cs t) (fun _ => ds t) (fun _ => Ls t) (fun _ => Ms t) (by decide) (by decide) n1 n2 (fun u hu => by
      have := es_bd (Ls := fun _ => Ls t) (Ms := fun _ => Ms t) n2 u (fun c hc => SL t ht)
      omega) W (bun_sing (hX.bel hW) t ht) (bun_sing (hY.bel hW) t ht)
    rwa [es_sing] at h
  have AB : Hid (∀ t, t ≤ q → 0 ≤ aps k n m Ls Ms t ∧ aps k n m Ls Ms t ≤ 8000000000) := fun t ht => by
    have := aps_bd (b := k) (n := n) (m := m) (Ls := Ls) (Ms := Ms) t (fun c hc => wg_bd (SS c (by omega)).1 (SS c (by omega)).2 k0 (by omega) (by omega) n2 m2 k2 k3)
    omega
  have EB : Hid (n = m → ∀ t, t ≤ q → 0 ≤ es Ls Ms t ∧ es Ls Ms t ≤ 8000000000) := fun e t ht => by
    subst e
    have := es_bd (Ls := Ls) (Ms := Ms) n2 t (fun c hc => SL c (by omega))
    omega
  obtain ⟨ca, za, sa⟩ := hX.2 0 q1
  obtain ⟨cb, zb, sb⟩ := hY.2 0 q1
  have KS : Hid (∀ W, Bel v2 W → W.cell? ⟨g1, 0, none⟩ = some (.slice (As 0) n (cs 0)) ∧ W.cell? ⟨g2, 0, none⟩ = some (.slice (Bs 0) m (ds 0))) := fun W h => ⟨h.kp ca, h.kp cb⟩
  have i3 : (0 : Int) < (q : Int) := by omega
  have i5 : 0 < q := q1
  have i6 : ((0 : Int) < (q : Int)) = True := eq_true i3
  have i7 : (0 < q) = True := eq_true i5
  have iq4 : (q : Int) ≤ 4 := by omega
  have qci1 : (q : Int) ≤ (c1 : Int) := by omega
  have qci2 : (q : Int) ≤ (c2 : Int) := by omega
  clear hx0 hy0 SS SL ca cb za zb sa sb hX hY hL hM hc2 w0
  go_wp2_with fail
  go_at_call 19
  refine (D1.out _ (by repeat (first | with_reducible exact Bel.rf | (with_reducible refine Bel.drwN ?_ _) | (with_reducible refine Bel.drw ?_) | (with_reducible refine Bel.al ?_ _) | (refine Bel.tr ?_ (by assumption))))).mono ?_
  rintro e v3 ⟨rfl, hb⟩
  have HBv3 : Hid (Bel v2 v3) := Bel.tr (by repeat (first | with_reducible exact Bel.rf | (with_reducible refine Bel.drwN ?_ _) | (with_reducible refine Bel.drw ?_) | (with_reducible refine Bel.al ?_ _) | (refine Bel.tr ?_ (by assumption)))) hb
  clear hb
  rcases (show n = m ∨ n ≠ m by omega) with rfl | hnm
  · have ES' := Lib.hid (ES.out rfl)
    have EB' := Lib.hid (EB.out rfl)
    have E1q := Lib.hid (E1.out rfl)
    clear ES EB E1
    go_wp2
    go_loopw [8, 9, 31] (fun s8 s9 s31 wr => ∃ (t : Nat) (V : World), V = wr ∧ t ≤ q ∧ s8 = .int .i64 (aps k n n Ls Ms t) ∧ s9 = .int .i64 (es Ls Ms t) ∧ s31 = .int .i64 (t : Int) ∧ Bel v2 wr) (fun _ _ s31 _ => q - (intOf s31).toNat)
    case atStart => exact ⟨0, _, rfl, by omega, rfl, rfl, rfl, HBv3.out⟩
    case round =>
      obtain ⟨t, wr, hwr, ht, rfl, rfl, rfl, hb⟩ := hrel
      subst hwr
      have HBwr : Hid (Bel v2 wr) := hb
      clear hb
      rcases Nat.lt_or_ge t q with hlt | hge
      · have ti : (t : Int) < (q : Int) := by omega
        have DT := Lib.hid (DS.out t hlt)
        have ET := Lib.hid (ES'.out t hlt)
        have e0 := EB'.out t ht
        have e1 := EB'.out (t + 1) hlt
        have HE : Hid (es Ls Ms (t + 1) = es Ls Ms t + su sq (df (Ls t) (Ms t))) := rfl
        rw [HE.out] at e1
        obtain ⟨d, hd⟩ : ∃ c, su sq (df (Ls t) (Ms t)) = c := ⟨_, rfl⟩
        obtain ⟨f, hf⟩ : ∃ a, es Ls Ms t = a := ⟨_, rfl⟩
        rw [hd] at ET HE e1
        rw [hf] at HE e1 e0 ⊢
        have wfd : IntKind.i64.wrap (f + d) = f + d := IntWalk.i64_in _ ⟨by omega, by omega⟩
        clear e0 e1 hd hf
        have b0 := AB.out t ht
        have b1 := AB.out (t + 1) hlt
        have HA : Hid (aps k n n Ls Ms (t + 1) = aps k n n Ls Ms t + wg (cst (Ls t) (Ms t)) k n n) := rfl
        rw [HA.out] at b1
        obtain ⟨c, hc⟩ : ∃ c, wg (cst (Ls t) (Ms t)) k n n = c := ⟨_, rfl⟩
        obtain ⟨a, ha⟩ : ∃ a, aps k n n Ls Ms t = a := ⟨_, rfl⟩
        rw [hc] at DT HA b1
        rw [ha] at HA b1 b0 ⊢
        have wac : IntKind.i64.wrap (a + c) = a + c := IntWalk.i64_in _ ⟨by omega, by omega⟩
        have t0 : (0 : Int) ≤ (t : Int) := by omega
        have t1 : (t : Int) + 1 ≤ (q : Int) := by omega
        have tc1 : (t : Int) + 1 ≤ (c1 : Int) := by omega
        have tc2 : (t : Int) + 1 ≤ (c2 : Int) := by omega
        have tw : IntKind.i64.wrap ((t : Int) + 1) = (t : Int) + 1 := IntWalk.i64_in _ ⟨by omega, by omega⟩
        have tl : ((t : Int) + 1).toNat - t = 1 := by omega
        have tp0 : (0 : Int) ≤ (t : Int) + 1 := by omega
        have tp1 : (t : Int) ≤ (t : Int) + 1 := by omega
        have tp2 : (t : Int) ≤ (c1 : Int) := by omega
        have tp3 : (t : Int) ≤ (c2 : Int) := by omega
        have tp4 : t + 1 ≤ c1 := by omega
        have tp5 : t + 1 ≤ c2 := by omega
        have tp6 : t < c1 := by omega
        have tp7 : t < c2 := by omega
        have f1 : (c1 = t) = False := eq_false (by omega)
        have f2 : (c2 = t) = False := eq_false (by omega)
        clear b0 b1 hc ha
        go_wp2_with fail
        go_region_held3 (fun _ => True)
          (trivial)
          ((go_at_call 19; refine (DT.out _ (by repeat (first | with_reducible exact HBwr.out | with_reducible exact Bel.rf | (with_reducible refine Bel.drwN ?_ _) | (with_reducible refine Bel.drw ?_) | (with_reducible refine Bel.al ?_ _) | (refine Bel.tr ?_ (by assumption))))).mono ?_; rintro r v5 ⟨rfl, hv5⟩))
        all_goals
          have HBv5 : Hid (Bel v2 v5) := (by repeat (first | with_reducible exact HBwr.out | with_reducible exact Bel.rf | (with_reducible refine Bel.drwN ?_ _) | (with_reducible refine Bel.drw ?_) | (with_reducible refine Bel.al ?_ _) | (refine Bel.tr ?_ (by assumption))))
          clear hv5
          obtain ⟨k1, k2⟩ := KS.out _ HBv5.out
          go_wp2_with fail
          go_quiet (fail)
          go_wp2_with fail
          go_region_held3 (fun _ => True)
            (trivial)
            ((go_at_call 22; refine (ET.out _ (by repeat (first | with_reducible exact HBv5.out | with_reducible exact Bel.rf | (with_reducible refine Bel.drwN ?_ _) | (with_reducible refine Bel.drw ?_) | (with_reducible refine Bel.al ?_ _) | (refine Bel.tr ?_ (by assumption))))).mono ?_; rintro r v6 ⟨rfl, hv6⟩))
          all_goals
            have HBv6 : Hid (Bel v2 v6) := (by repeat (first | with_reducible exact HBv5.out | with_reducible exact Bel.rf | (with_reducible refine Bel.drwN ?_ _) | (with_reducible refine Bel.drw ?_) | (with_reducible refine Bel.al ?_ _) | (refine Bel.tr ?_ (by assumption))))
            clear hv6
            go_wp2
            go_roundw
            case rel => exact ⟨t + 1, _, rfl, by omega, by rw [HA.out], by rw [HE.out], by go_num, HBv6.out⟩
            case measure => simp [intOf]; omega
      · obtain rfl : t = q := by omega
        obtain ⟨k1, k2⟩ := KS.out _ HBwr.out
        have HWR : Hid (Bel w wr) := HBb.out.tr HBwr.out
        have E1' := Lib.hid (fun W (hW : Bel v2 W) => E1q.out W hW)
        obtain ⟨a, ha⟩ : ∃ a, aps k n n Ls Ms t = a := ⟨_, rfl⟩
        obtain ⟨f, hf⟩ : ∃ a, es Ls Ms t = a := ⟨_, rfl⟩
        rw [hf] at E1'
        rw [ha, hf]
        have eaa : (a == a) = true := by simp
        have eff : (f == f) = true := by simp
        clear ha hf
        go_wp2_with fail
        go_quiet (fail)
        go_wp2_with fail
        go_at_call 22
        refine (E1'.out _ (by repeat (first | with_reducible exact HBwr.out | with_reducible exact Bel.rf | (with_reducible refine Bel.drwN ?_ _) | (with_reducible refine Bel.drw ?_) | (with_reducible refine Bel.al ?_ _) | (refine Bel.tr ?_ (by assumption))))).mono ?_
        rintro e v8 ⟨rfl, hb⟩
        have HBv8 : Hid (Bel v2 v8) := Bel.tr (by repeat (first | with_reducible exact HBwr.out | with_reducible exact Bel.rf | (with_reducible refine Bel.drwN ?_ _) | (with_reducible refine Bel.drw ?_) | (with_reducible refine Bel.al ?_ _) | (refine Bel.tr ?_ (by assumption)))) hb
        clear hb
        go_wp2_with (go_at_call 23; refine (AW.out _).mono ?_; rintro e v12 ⟨rfl, h12⟩)
        go_ret
        exact ⟨rfl, ((HBb.out.tr HBv8.out).tr h12).bl⟩
  · have nm1 : ((n : Int) = (m : Int)) = False := eq_false (by omega)
    have nm2 : (n = m) = False := eq_false hnm
    have nm3 : ((n : Int) == (m : Int)) = false := beq_eq_false_iff_ne.2 (by omega)
    go_wp2
    go_loopw [8, 9, 31] (fun s8 s9 s31 wr => ∃ (t : Nat) (V : World), V = wr ∧ t ≤ q ∧ s8 = .int .i64 (aps k n m Ls Ms t) ∧ s9 = .int .i64 (0) ∧ s31 = .int .i64 (t : Int) ∧ Bel v2 wr) (fun _ _ s31 _ => q - (intOf s31).toNat)
    case atStart => exact ⟨0, _, rfl, by omega, rfl, rfl, rfl, HBv3.out⟩
    case round =>
      obtain ⟨t, wr, hwr, ht, rfl, rfl, rfl, hb⟩ := hrel
      subst hwr
      have HBwr : Hid (Bel v2 wr) := hb
      clear hb
      rcases Nat.lt_or_ge t q with hlt | hge
      · have ti : (t : Int) < (q : Int) := by omega
        have DT := Lib.hid (DS.out t hlt)
        have b0 := AB.out t ht
        have b1 := AB.out (t + 1) hlt
        have HA : Hid (aps k n m Ls Ms (t + 1) = aps k n m Ls Ms t + wg (cst (Ls t) (Ms t)) k n m) := rfl
        rw [HA.out] at b1
        obtain ⟨c, hc⟩ : ∃ c, wg (cst (Ls t) (Ms t)) k n m = c := ⟨_, rfl⟩
        obtain ⟨a, ha⟩ : ∃ a, aps k n m Ls Ms t = a := ⟨_, rfl⟩
        rw [hc] at DT HA b1
        rw [ha] at HA b1 b0 ⊢
        have wac : IntKind.i64.wrap (a + c) = a + c := IntWalk.i64_in _ ⟨by omega, by omega⟩
        have t0 : (0 : Int) ≤ (t : Int) := by omega
        have t1 : (t : Int) + 1 ≤ (q : Int) := by omega
        have tc1 : (t : Int) + 1 ≤ (c1 : Int) := by omega
        have tc2 : (t : Int) + 1 ≤ (c2 : Int) := by omega
        have tw : IntKind.i64.wrap ((t : Int) + 1) = (t : Int) + 1 := IntWalk.i64_in _ ⟨by omega, by omega⟩
        have tl : ((t : Int) + 1).toNat - t = 1 := by omega
        have tp0 : (0 : Int) ≤ (t : Int) + 1 := by omega
        have tp1 : (t : Int) ≤ (t : Int) + 1 := by omega
        have tp2 : (t : Int) ≤ (c1 : Int) := by omega
        have tp3 : (t : Int) ≤ (c2 : Int) := by omega
        have tp4 : t + 1 ≤ c1 := by omega
        have tp5 : t + 1 ≤ c2 := by omega
        have tp6 : t < c1 := by omega
        have tp7 : t < c2 := by omega
        have f1 : (c1 = t) = False := eq_false (by omega)
        have f2 : (c2 = t) = False := eq_false (by omega)
        clear b0 b1 hc ha
        go_wp2_with fail
        go_region_held3 (fun _ => True)
          (trivial)
          ((go_at_call 19; refine (DT.out _ (by repeat (first | with_reducible exact HBwr.out | with_reducible exact Bel.rf | (with_reducible refine Bel.drwN ?_ _) | (with_reducible refine Bel.drw ?_) | (with_reducible refine Bel.al ?_ _) | (refine Bel.tr ?_ (by assumption))))).mono ?_; rintro r v5 ⟨rfl, hv5⟩))
        all_goals
          have HBv5 : Hid (Bel v2 v5) := (by repeat (first | with_reducible exact HBwr.out | with_reducible exact Bel.rf | (with_reducible refine Bel.drwN ?_ _) | (with_reducible refine Bel.drw ?_) | (with_reducible refine Bel.al ?_ _) | (refine Bel.tr ?_ (by assumption))))
          clear hv5
          obtain ⟨k1, k2⟩ := KS.out _ HBv5.out
          go_wp2_with fail
          go_quiet (fail)
          go_wp2
          go_roundw
          case rel => exact ⟨t + 1, _, rfl, by omega, by rw [HA.out], rfl, by go_num, (by repeat (first | with_reducible exact HBv5.out | with_reducible exact Bel.rf | (with_reducible refine Bel.drwN ?_ _) | (with_reducible refine Bel.drw ?_) | (with_reducible refine Bel.al ?_ _) | (refine Bel.tr ?_ (by assumption))))⟩
          case measure => simp [intOf]; omega
      · obtain rfl : t = q := by omega
        obtain ⟨k1, k2⟩ := KS.out _ HBwr.out
        have HWR : Hid (Bel w wr) := HBb.out.tr HBwr.out
        obtain ⟨a, ha⟩ : ∃ a, aps k n m Ls Ms t = a := ⟨_, rfl⟩
        rw [ha]
        have eaa : (a == a) = true := by simp
        clear ha
        go_wp2_with fail
        go_quiet (fail)
        go_wp2_with (go_at_call 23; refine (AW.out _).mono ?_; rintro e v12 ⟨rfl, h12⟩)
        go_ret
        exact ⟨rfl, ((HBb.out.tr (by repeat (first | with_reducible exact HBwr.out | with_reducible exact Bel.rf | (with_reducible refine Bel.drwN ?_ _) | (with_reducible refine Bel.drw ?_) | (with_reducible refine Bel.al ?_ _) | (refine Bel.tr ?_ (by assumption))))).tr h12).bl⟩

set_option maxRecDepth 100000 in
theorem lifted (os : Os) (started : os.Started) (H : Type) (enc : TypeId × Value → H) :
    ReturnsInHanded {} Try.checked os 8 .any (Rows.channelsSumsSpec.pre6 enc Try.prog Try.f8 Rows.channelsSumsRow.domain false) (Rows.channelsSumsSpec.post enc Try.prog Try.f8 false true false false) := by
  refine returnsInHanded_of_change (C := Try.checked) own started (by kernel_rfl) Try.func8
    (ChangeSpec.witness6 (enc := enc) (C := Try.checked) false ⟨#[], #[.slice none 0 0], []⟩ 8 (by kernel_rfl) (by kernel_rfl) (by kernel_rfl) (by kernel_rfl)) ?_
  intro W base args ds gs before hval0 hW hcnd _
  have hval : ∀ (j : Nat) t v, Try.f8.params[j]? = some t → args[j]? = some v → Value.okWide Try.prog W .any base t v := hval0
  have hW' := hW
  obtain ⟨p, q, hA0, hV, rfl, hfz, hnd⟩ := hW
  have hA : DataW.TrodAll enc Try.prog W 0 (fun _ => true) true Try.f8.params.toList args.toList ds p := hA0
  rw [Try.params8] at hA hval
  obtain ⟨v0, vs0, d0, ds0, p0, q0, hargs, rfl, rfl, h0, r0⟩ := trodAll_cons hA
  obtain ⟨rfl, rfl, rfl⟩ := trodAll_nil r0
  obtain rfl : args = #[v0] := by cases args; simp_all
  obtain ⟨rfl, rfl⟩ := trodVars_none hV
  obtain ⟨a0, len0, cap0, rfl⟩ := okWide_slice Try.underlying22 (hval 0 22 v0 rfl rfl)
  have k0 := h0
  have lt0 : ∀ x ∈ p0, x.block < W.heap.size := by obtain ⟨m, hm⟩ := k0; exact DataW.trod_lt m _ _ _ hm
  obtain ⟨z0, w0⟩ : ∃ zs, IsRow .i64 W a0 len0 cap0 zs := by
    obtain ⟨fuel, hf⟩ := h0
    rcases open_ints Try.underlying22 Try.underlying3 (by kernel_rfl) hf with ⟨hcs, _⟩ | ⟨x, l, c, zs, hcs, _, hl, hm, hz, _, hcell, hwz⟩
    · simp [Value.cells] at hcs
      obtain ⟨rfl, rfl, rfl⟩ := hcs
      exact ⟨[], .inl ⟨rfl, rfl, rfl, rfl⟩⟩
    · simp [Value.cells] at hcs
      obtain ⟨rfl, rfl, rfl⟩ := hcs
      exact ⟨zs, .inr ⟨_, rfl, hl, hm, by simpa using hz, hcell, hwz⟩⟩
  clear hA0 hval0
  refine (walk a0 len0 cap0 z0 W w0).mono fun e W' ⟨he, bel⟩ => ?_
  subst he
  exact ⟨_, rfl, _, _, _, [], _, [], hW', trodAll_mk1 (shut_bool Try.underlying4 _), (trodAll_cons_mk (Below.trod laidOut (by kernel_rfl) (of_decide_eq_true (by kernel_rfl)) k0 bel lt0) trodAll_mk0), rfl, bel.frame _, fun h => by cases h⟩

theorem over : Rows.channelsSumsRow.holds Try.pinned (OpenSpec.ofChange Rows.channelsSumsSpec) :=
  OpenClaim.holds_of_wide 8 Try.f8 rfl rfl rfl rfl rfl rfl rfl ⟨rfl, rfl, rfl, rfl, rfl⟩ rfl rfl rfl rfl rfl (by kernel_rfl) Try.func8 (by kernel_rfl)
    (of_decide_eq_true (by kernel_rfl)) (by unfold Func.isWrapper; first | (rw [if_pos (by decide +kernel)]; kernel_rfl) | (rw [if_neg (by decide +kernel)]; exact ⟨rfl, rfl⟩))
    (fun os started H enc _ => lifted os started H enc)

theorem proved : Rows.ChannelsSumsSaid := over
end Go.Proofs.Ythmdponfigepjaa.channelsSums
