/- clean.groups. -/
import Derived.Test.YtgcjangnlbhicaaStP
namespace Go.Proofs.Ytgcjangnlbhicaa.St
open Go.ChangeShapes Go.WideShapes Go.RowKit Wo Sr Wi Rm Rg
set_option linter.unusedVariables false
set_option maxHeartbeats 8000000 in
set_option maxRecDepth 100000 in
theorem groups_ok (A : Option Addr) (c n : Nat) (l : List Rp) (hn : n ≤ 100000) (w : World) (hz : Zo w A n l) (hA : Nz A n c) :
    Calls Try.prog 23 #[.slice A n c] w (SomeGr l w) := by
  have hl := hz.1
  have ni : (n : Int) ≤ 100000 := by omega
  have HCL : Hid (Calls Try.prog 37 #[.slice A n c] w (SomeRs n l w)) := clone_any A c n l hn w hz hA
  have HSN : Hid (∀ w, Calls Try.prog 38 #[.slice none 0 0, .func (.func 39) #[] #[]] w (Done w)) := sort_nil
  have HSS : Hid (∀ (g c : Nat) (w : World), n ≤ c → Rw w g n l → Calls Try.prog 38 #[.slice (some ⟨g, 0, none⟩) n c, .func (.func 39) #[] #[]] w (SomeSort g n 0 n l w)) := fun g c w h1 h2 => sort_ok g c n l hn h1 w h2
  clear hz hA
  go_enter Try.func23, Try.ntmps23
  go_wp2_with fail
  go_at_call 37
  refine (by first | exact HCL.out | exact HCL.out : Calls _ _ _ _ _).mono ?_
  rintro e w1 ⟨v, rfl, ho, hb1⟩
  rcases own_some ho hl with ⟨rfl, rfl, rfl⟩ | ⟨g, c1, rfl, hnc, hgw, hr⟩
  · have HB1 := Lib.hid hb1
    clear ho hb1
    go_wp2_with fail
    go_at_call 38
    refine (HSN.out _).mono ?_
    rintro e w2 ⟨rfl, hb2⟩
    have HB2 : Hid (Bel w w2) := by first | exact HB1.out.tr hb2 | exact (HB1.out.drwN _).tr hb2
    clear hb2
    go_wp2
    go_loopw [4, 5] (fun s4 s5 wr => s4 = .slice none 0 0 ∧ s5 = .int .i64 0 ∧ Bel w wr) (fun _ _ _ => 0)
    case atStart => exact ⟨rfl, rfl, by first | exact HB2.out | exact HB2.out.drwN _⟩
    case round =>
      obtain ⟨rfl, rfl, hb⟩ := hrel
      go_wp2
      go_ret
      exact ⟨none, 0, 0, rfl, ⟨rfl, fun h => by omega⟩, by first | exact hb | exact hb.drwN _⟩
  · have HB1 := Lib.hid hb1
    have HR1 := Lib.hid hr
    clear ho hb1 hr
    go_wp2_with fail
    go_at_call 38
    refine (HSS.out g c1 _ hnc (by first | exact HR1.out | exact HR1.out.bel (Bel.rf.drwN _))).mono ?_
    rintro e w2 ⟨rfl, s, hr2, hm2, hs2, hc2⟩
    have HB2 : Hid (Bel w w2) := Bel.ch HB1.out (by first | exact hc2 | exact (Ch.of_bel (Bel.rf.drwN _)).tr hc2) hgw
    have HR2 := Lib.hid hr2
    have HS2 := Lib.hid (And.intro hm2.1 hs2)
    have sn : s.length = n := hr2.1
    have HG2 : Hid (g < w2.heap.size) := hr2.2.1
    clear hr2 hm2 hs2 hc2
    go_wp2
    go_loopw [4, 5] (fun s4 s5 wr => ∃ (f : Nat) (B : List (Nat × Nat)) (V : World) (u : Value), V = wr ∧ u = s4 ∧ s5 = .int .i64 (f : Int) ∧ Bs s B f ∧ wr.ownsRow w2.heap.size 23 1 s4 B.length (B.map (pv g)) ∧ Bel w2 wr) (fun _ s5 _ => n - (intOf s5).toNat)
    case atStart => exact ⟨0, [], _, _, rfl, rfl, rfl, Bs.nil, World.ownsRow_nil _ _ _ _, by first | exact Bel.rf | exact Bel.rf.drwN _⟩
    case round =>
      obtain ⟨f, B, wr, u, hwr, hu, rfl, hB, ho, hb⟩ := hrel
      subst hwr
      subst hu
      have HB := Lib.hid hB
      have HO := Lib.hid ho
      have HBW := Lib.hid hb
      have HR := Lib.hid (HR2.out.bel hb)
      have fn : f ≤ n := by have := hB.le; omega
      clear hB ho hb
      rcases Nat.lt_or_ge f n with hlt | hge
      · have ti : (f : Int) < (n : Int) := by omega
        go_wp2
        go_loopw [6] (fun s6 wq => ∃ (t : Nat) (V : World), V = wq ∧ f < t ∧ t ≤ n ∧ s6 = .int .i64 (t : Int) ∧ (∀ q, f ≤ q → q < t → tm s q = tm s f) ∧ Bel wr wq) (fun s6 _ => n - (intOf s6).toNat)
        case atStart => exact ⟨f + 1, _, rfl, by omega, by omega, by go_num, (fun q q1 q2 => by rw [show q = f by omega]), by first | exact Bel.rf | exact Bel.rf.drwN _⟩
        case round =>
          obtain ⟨t, wq, hwq, hft, htn, rfl, hk, hb⟩ := hrel
          subst hwq
          have HK := Lib.hid hk
          have HBQ := Lib.hid hb
          have HRQ := Lib.hid (HR.out.bel hb)
          have cf := HRQ.out.2.2 f (by omega)
          clear hk hb
          have stop : (t < n → tm s t ≠ tm s f) → True := fun _ => trivial
          clear stop
          rcases Nat.lt_or_ge t n with ht | ht
          · have ct := HRQ.out.2.2 t (by omega)
            obtain ⟨x, hx⟩ : ∃ x, tm s f = x := ⟨_, rfl⟩
            obtain ⟨y, hy⟩ : ∃ x, tm s t = x := ⟨_, rfl⟩
            rw [hx] at cf
            rw [hy] at ct
            have HXY := Lib.hid (And.intro hx hy)
            obtain ⟨c1', _, _, _⟩ := cf
            obtain ⟨c2', _, _, _⟩ := ct
            have tt : (t : Int) < (n : Int) := by omega
            have t0 : (0 : Int) ≤ (t : Int) := by omega
            have f0 : (0 : Int) ≤ (f : Int) := by omega
            clear hx hy
            by_cases hxy : y = x
            · subst hxy
              go_wp2
              go_region
              go_wp2
              go_roundw
              case rel => exact ⟨t + 1, _, rfl, by omega, by omega, by go_num, (fun q q1 q2 => by
                rcases Nat.lt_or_ge q t with k | k
                · exact HK.out q q1 k
                · rw [show q = t by omega, HXY.out.1, HXY.out.2]), by first | exact HBQ.out | exact HBQ.out.drwN _ | exact HBQ.out.drw⟩
              case measure => simp [intOf]; omega
            · have dxy : decide (y = x) = false := decide_eq_false hxy
              have bxy : (y == x) = false := by simp [hxy]
              have HNE : Hid (t < s.length → tm s t ≠ tm s f) := fun _ => by rw [HXY.out.1, HXY.out.2]; exact hxy
              have HV : Hid (Bk (wq.alloc (.cells #[.slice (some ⟨g, f * 2, none⟩) (t - f) (t - f)] 23)) wq.heap.size 23 #[.slice (some ⟨g, f * 2, none⟩) (t - f) (t - f)]) := Bk.nw _ _ _
              have HOV : Hid ((wq.alloc (.cells #[.slice (some ⟨g, f * 2, none⟩) (t - f) (t - f)] 23)).ownsRow w2.heap.size 23 1 u B.length (B.map (pv g))) := own_bel HO.out (HBQ.out.al _)
              have HBV : Hid (Bel w2 (wq.alloc (.cells #[.slice (some ⟨g, f * 2, none⟩) (t - f) (t - f)] 23))) := (HBW.out.tr HBQ.out).al _
              have sz : w2.heap.size ≤ wq.heap.size := (HBW.out.tr HBQ.out).size
              have HBL : Hid (B.length ≤ 100000) := by have := bs_len HB.out; show _ ≤ _; omega
              have tf : (f : Int) ≤ (t : Int) := by omega
              have HNEW : Hid (Bs s (B ++ [(f, t)]) t) := Bs.snoc HB.out hft (by omega) HK.out HNE.out
              go_wp2
              go_region
              go_wp2_with (at_builtin; refine list_appp _ rfl (.tmp 36) (.tmp 42) rfl w2.heap.size u B.length (B.map (pv g)) rfl (by first | exact HOV.out | exact own_bel HOV.out Bel.rf.drw | exact own_bel HOV.out (Bel.rf.drwN _)) wq.heap.size 1 (.slice (some ⟨g, f * 2, none⟩) (t - f) (t - f)) rfl rfl (by first | exact HV.out | exact HV.out.drw | exact HV.out.drwN _ | exact HV.out.bel Bel.rf.drw | exact HV.out.bel (Bel.rf.drwN _)) HBL.out (by simp; omega) ?_; intro v' w4 h2 h3; have HO4 : Hid (w4.ownsRow w2.heap.size 23 1 v' (B ++ [(f, t)]).length ((B ++ [(f, t)]).map (pv g))) := (by rw [List.length_append, List.map_append]; exact h2); have HB4 : Hid (Bel w2 w4) := Below.grown (by first | exact HBV.out | exact HBV.out.drw | exact HBV.out.drwN _) h3 (by first | exact HBV.out.size | exact HBV.out.drw.size | exact (HBV.out.drwN _).size) (fun q e => (HOV.out.lt q e).1); clear h2 h3)
              go_roundw
              case rel => exact ⟨t, B ++ [(f, t)], _, _, rfl, rfl, rfl, HNEW.out, HO4.out, by first | exact HB4.out | exact HB4.out.drwN _⟩
              case measure => simp [intOf]; omega
          · have HNE : Hid (t < s.length → tm s t ≠ tm s f) := fun h => by omega
            obtain rfl : t = n := by omega
            clear cf
            have HV : Hid (Bk (wq.alloc (.cells #[.slice (some ⟨g, f * 2, none⟩) (t - f) (t - f)] 23)) wq.heap.size 23 #[.slice (some ⟨g, f * 2, none⟩) (t - f) (t - f)]) := Bk.nw _ _ _
            have HOV : Hid ((wq.alloc (.cells #[.slice (some ⟨g, f * 2, none⟩) (t - f) (t - f)] 23)).ownsRow w2.heap.size 23 1 u B.length (B.map (pv g))) := own_bel HO.out (HBQ.out.al _)
            have HBV : Hid (Bel w2 (wq.alloc (.cells #[.slice (some ⟨g, f * 2, none⟩) (t - f) (t - f)] 23))) := (HBW.out.tr HBQ.out).al _
            have sz : w2.heap.size ≤ wq.heap.size := (HBW.out.tr HBQ.out).size
            have HBL : Hid (B.length ≤ 100000) := by have := bs_len HB.out; show _ ≤ _; omega
            have tf : (f : Int) ≤ (t : Int) := by omega
            have HNEW : Hid (Bs s (B ++ [(f, t)]) t) := Bs.snoc HB.out hft (by omega) HK.out HNE.out
            go_wp2
            go_region
            go_wp2_with (at_builtin; refine list_appp _ rfl (.tmp 36) (.tmp 42) rfl w2.heap.size u B.length (B.map (pv g)) rfl (by first | exact HOV.out | exact own_bel HOV.out Bel.rf.drw | exact own_bel HOV.out (Bel.rf.drwN _)) wq.heap.size 1 (.slice (some ⟨g, f * 2, none⟩) (t - f) (t - f)) rfl rfl (by first | exact HV.out | exact HV.out.drw | exact HV.out.drwN _ | exact HV.out.bel Bel.rf.drw | exact HV.out.bel (Bel.rf.drwN _)) HBL.out (by simp; omega) ?_; intro v' w4 h2 h3; have HO4 : Hid (w4.ownsRow w2.heap.size 23 1 v' (B ++ [(f, t)]).length ((B ++ [(f, t)]).map (pv g))) := (by rw [List.length_append, List.map_append]; exact h2); have HB4 : Hid (Bel w2 w4) := Below.grown (by first | exact HBV.out | exact HBV.out.drw | exact HBV.out.drwN _) h3 (by first | exact HBV.out.size | exact HBV.out.drw.size | exact (HBV.out.drwN _).size) (fun q e => (HOV.out.lt q e).1); clear h2 h3)
            go_roundw
            case rel => exact ⟨t, B ++ [(f, t)], _, _, rfl, rfl, rfl, HNEW.out, HO4.out, by first | exact HB4.out | exact HB4.out.drwN _⟩
            case measure => simp [intOf]; omega
      · obtain rfl : f = n := by omega
        go_wp2
        go_ret
        obtain ⟨A', c', rfl, hzg⟩ := own_zg HR.out HS2.out.2 HS2.out.1 HB.out HO.out
        exact ⟨A', c', B.length, rfl, hzg, by first | exact HB2.out.tr HBW.out | exact (HB2.out.tr HBW.out).drwN _⟩
end Go.Proofs.Ytgcjangnlbhicaa.St
