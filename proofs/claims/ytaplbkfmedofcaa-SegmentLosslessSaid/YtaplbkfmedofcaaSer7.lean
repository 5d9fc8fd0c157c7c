/- ref09.Same, the example, and shapesearchkeep's Series. -/
import Derived.Test.YtaplbkfmedofcaaSer5
import Derived.BigQuiet
namespace Go.Proofs.Ytaplbkfmedofcaa.Se
open Go.ChangeShapes Go.WideShapes Go.RowKit Wo Sr Wi
set_option linter.unusedVariables false
set_option maxHeartbeats 4000000 in
theorem same_yes (st sp : Int) (A A' : Option Addr) (c c' n : Nat) (L : List Int) (hn : n ≤ 3000) (w : World) (h1 : Zi w A n L) (h2 : Zi w A' n L) :
    Calls Try.prog 20 #[.agg #[.int .i64 st, .int .i64 sp, .slice A n c], .agg #[.int .i64 st, .int .i64 sp, .slice A' n c']] w fun e w' => e = .returned (.bool true) ∧ Bel w w' := by
  have H1 := Lib.hid h1
  have H2 := Lib.hid h2
  have HK1 := Lib.hid ((Bk.nw w 43 #[.int .i64 st, .int .i64 sp, .slice A n c]).al (.cells #[.int .i64 st, .int .i64 sp, .slice A' n c'] 43))
  have HK2 := Lib.hid (Bk.nq (w.alloc (.cells #[.int .i64 st, .int .i64 sp, .slice A n c] 43)) 43 #[.int .i64 st, .int .i64 sp, .slice A' n c'] (g := w.heap.size + 1) (by simp))
  have ni : (n : Int) ≤ 3000 := by omega
  have n1 := ne_self st
  have n2 := ne_self sp
  have n3 := ne_self (n : Int)
  have n4 : (n != n) = false := by simp
  have HB0 : Hid (Bel w ((w.alloc (.cells #[.int .i64 st, .int .i64 sp, .slice A n c] 43)).alloc (.cells #[.int .i64 st, .int .i64 sp, .slice A' n c'] 43))) := (Bel.rf.al _).al _
  clear h1 h2
  go_enter Try.func20, Try.ntmps20
  go_wp2
  go_loopw [30] (fun s30 wr => ∃ (k : Nat) (V : World), V = wr ∧ k ≤ n ∧ s30 = .int .i64 (k : Int) ∧ Bel ((w.alloc (.cells #[.int .i64 st, .int .i64 sp, .slice A n c] 43)).alloc (.cells #[.int .i64 st, .int .i64 sp, .slice A' n c'] 43)) wr) (fun s30 _ => n - (intOf s30).toNat)
  case atStart => exact ⟨0, _, rfl, by omega, rfl, by first | exact Bel.rf | exact Bel.rf.drw | exact Bel.rf.drwN _⟩
  case round =>
    obtain ⟨k, wr, hwr, hk, rfl, hb⟩ := hrel
    subst hwr
    have HB := Lib.hid hb
    rcases Nat.lt_or_ge k n with hlt | hge
    · obtain ⟨ad, rfl, hab, hac⟩ := (H1.out.bel (HB0.out.tr hb)).2 (by omega)
      obtain ⟨ad', rfl, hab', hac'⟩ := (H2.out.bel (HB0.out.tr hb)).2 (by omega)
      have c1 := hac k hlt
      have c2 := hac' k hlt
      have B1 := HK1.out.bel hb
      have B2 := HK2.out.bel hb
      have d0 : wr.cell? ⟨w.heap.size, 2, none⟩ = some (.slice (some ad) n c) := B1.cell 2
      have d1 : wr.cell? ⟨w.heap.size + 1, 2, none⟩ = some (.slice (some ad') n c') := B2.cell 2
      obtain ⟨x, hx⟩ : ∃ x, L.getD k 0 = x := ⟨_, rfl⟩
      rw [hx] at c1 c2
      have ki : (k : Int) < (n : Int) := by omega
      have kn := ne_self x
      clear hb hac hac' hab hab' hx B1 B2
      go_wp2
      go_quiet (fail)
      go_wp2
      go_roundw
      case rel => exact ⟨k + 1, _, rfl, by omega, by go_num, HB.out.drwN _⟩
      case measure => simp [intOf]; omega
    · obtain rfl : k = n := by omega
      clear hb
      go_wp2
      go_ret
      exact ⟨rfl, HB0.out.tr HB.out⟩
def exL : List Int := [1, 2, 1073741824, 3, 4, 5]
theorem exL_sv : Sv exL := fun x hx => by
  simp [exL] at hx
  omega
/-- a series that was drawn -/
def SomeSer (g n : Nat) (w : World) (e : Ending) (w' : World) : Prop := ∃ (st sp : Int) (A : Option Addr) (m c : Nat) (L : List Int), e = .returned (.agg #[.int .i64 st, .int .i64 sp, .slice A m c]) ∧ 0 ≤ st ∧ st ≤ 1000 ∧ 1 ≤ sp ∧ sp ≤ 20 ∧ m ≤ n ∧ Sv L ∧ Vs w' A m c L ∧ (∀ ad, A = some ad → w.heap.size ≤ ad.block) ∧ Ok w' g ∧ Ch g w w'
theorem own_blk_ne2 {w : World} {base g : Nat} {e t : TypeId} {cs : Array Value} {size n : Nat} {v : Value} {xs : List Value} (h : w.ownsRow base e size v n xs) (hg : Bk w g t cs) (hne : e ≠ t) : v.ownBlock ≠ some g := by
  rcases h.2 with ⟨rfl, _⟩ | ⟨g', cap, cur, rfl, _, hh, _⟩
  · simp [Value.ownBlock]
  · intro he
    have : g' = g := by simpa [Value.ownBlock] using he
    subst this
    unfold Bk at hg
    rw [hg] at hh
    injection hh with hh
    injection hh with _ ht
    exact hne ht.symm
theorem sv_set {L : List Int} (h : Sv L) (k : Nat) : Sv (L.set k 1073741824) := by
  intro x hx
  rcases List.mem_or_eq_of_mem_set hx with h' | rfl
  · exact h x h'
  · exact .inr rfl
set_option maxHeartbeats 8000000 in
set_option maxRecDepth 100000 in
theorem series_any (g n : Nat) (hn : n ≤ 200) (w : World) (h : Ok w g) :
    Calls Try.prog 17 #[.pointer (some ⟨g, 0, none⟩), .int .i64 (n : Int)] w (SomeSer g n w) := by
  have HO0 := Lib.hid h
  have HGB := Lib.hid h.lt
  have ni : (n : Int) ≤ 200 := by omega
  have HQ0 := Lib.hid (Bk.nw w 43 #[.int .i64 0, .int .i64 0, .slice none 0 0])
  have HC0 : Hid (Ch g w (w.alloc (.cells #[.int .i64 0, .int .i64 0, .slice none 0 0] 43))) := Ch.rf.al _
  have HO1 : Hid (Ok (w.alloc (.cells #[.int .i64 0, .int .i64 0, .slice none 0 0] 43)) g) := h.bel (Bel.rf.al _)
  clear h
  go_enter Try.func17, Try.ntmps17
  go_wp2_with fail
  go_at_call 27
  refine (pick_any g (w.heap.size + 1) [0, 5, 1000] 3 (by rfl) (by decide) (by decide) (by have := HGB.out; omega) _ (HO1.out.bel (Bel.rf.al _)) (lst_new _ _ _ _ (by rfl) _ (by simp))).mono ?_
  rintro e w1 ⟨st, rfl, hst, ho, hc⟩
  have st0 : 0 ≤ st := by simp at hst; omega
  have st1 : st ≤ 1000 := by simp at hst; omega
  have HO2 := Lib.hid ho
  have HC2 : Hid (Ch g w w1) := (HC0.out.al _).tr hc
  have HQ2 : Hid (Bk w1 w.heap.size 43 #[.int .i64 0, .int .i64 0, .slice none 0 0]) := hc.bk (HQ0.out.al _) (by have := HGB.out; omega)
  clear ho hc hst
  go_wp2_with fail
  go_at_call 26
  refine (range_any g 1 20 (by decide) (by decide) (by decide) _ HO2.out).mono ?_
  rintro e w2 ⟨sp, rfl, sp0, sp1, ho, hc⟩
  have HO3 := Lib.hid ho
  have HC3 : Hid (Ch g w w2) := HC2.out.tr hc
  have HQ3 : Hid (Bk w2 w.heap.size 43 #[.int .i64 0, .int .i64 0, .slice none 0 0]) := hc.bk HQ2.out (by have := HGB.out; omega)
  clear ho hc
  go_wp2_with fail
  go_at_call 35
  refine (n_any g ((n : Int) + 1) (by omega) (by omega) _ HO3.out).mono ?_
  rintro e w3 ⟨m0, rfl, m00, m01, ho, hc⟩
  obtain ⟨m, rfl⟩ := Int.eq_ofNat_of_zero_le m00
  have HO4 := Lib.hid ho
  have HC4 : Hid (Ch g w w3) := HC3.out.tr hc
  have HQ4 : Hid (Bk w3 w.heap.size 43 #[.int .i64 0, .int .i64 0, .slice none 0 0]) := hc.bk HQ3.out (by have := HGB.out; omega)
  clear ho hc
  go_wp2_with fail
  go_at_call 25
  refine (list_any g m (by omega) _ HO4.out).mono ?_
  rintro e w4 ⟨v, L, rfl, hown, hL, hS, ho, hc⟩
  have HO5 := Lib.hid ho
  have HC5 : Hid (Ch g w w4) := HC4.out.tr hc
  have HQ5 : Hid (Bk w4 w.heap.size 43 #[.int .i64 0, .int .i64 0, .slice none 0 0]) := hc.bk HQ4.out (by have := HGB.out; omega)
  have HW5 : Hid (w4.ownsRow w.heap.size 3 1 v m (zs L)) := by
    have hh := HC4.out.sz
    refine ⟨hown.1, ?_⟩
    rcases hown.2 with hn | ⟨q, cap, cur, rfl, hbb, rest⟩
    · exact .inl hn
    · exact .inr ⟨q, cap, cur, rfl, by omega, rest⟩
  obtain ⟨A, c, rfl, hvs, hfr⟩ := own_vs HW5.out hL
  have HLS := Lib.hid (And.intro hL hS)
  have HFR := Lib.hid hfr
  have HS5 := Lib.hid (Bk.nw w4 43 #[.int .i64 st, .int .i64 sp, .slice A m c])
  have hsz := HC5.out.sz
  clear ho hc hown hL hS hvs hfr
  go_wp2_with fail
  go_at_call 27
  refine (pick_any g (w4.heap.size + 1) [0, 0, 2, 5, 12] 5 (by rfl) (by decide) (by decide) (by have := HGB.out; omega) _ ((HO5.out.bel (Bel.rf.al _)).bel (Bel.rf.al _)) (lst_new _ _ _ _ (by rfl) _ (by simp))).mono ?_
  rintro e w5 ⟨hh, rfl, hmem, ho, hc⟩
  have hh0 : 0 ≤ hh := by simp at hmem; omega
  have hh1 : hh ≤ 12 := by simp at hmem; omega
  have HO6 := Lib.hid ho
  have HC6 : Hid (Ch g w w5) := ((HC5.out.al _).al _).tr hc
  have HQ6 : Hid (Bk w5 w.heap.size 43 #[.int .i64 0, .int .i64 0, .slice none 0 0]) := hc.bk ((HQ5.out.al _).al _) (by have := HGB.out; omega)
  have HS6 : Hid (Bk w5 w4.heap.size 43 #[.int .i64 st, .int .i64 sp, .slice A m c]) := hc.bk (HS5.out.al _) (by have := HGB.out; omega)
  have HW6 : Hid (w5.ownsRow w.heap.size 3 1 (.slice A m c) m (zs L)) := own_ch (own_bel HW5.out ((Bel.rf.al _).al _)) hc HGB.out
  clear ho hc hmem
  have d2 : w5.cell? ⟨w4.heap.size, 2, none⟩ = some (.slice A m c) := HS6.out.cell 2
  have HR0 : Hid (∃ (t : Nat) (M : List Int) (V : World), V = w5 ∧ t ≤ m ∧ (Value.int .i64 0) = .int .i64 (t : Int) ∧ V.ownsRow w.heap.size 3 1 (.slice A m c) m (zs M) ∧ M.length = m ∧ Sv M ∧ Ok V g ∧ Ch g w V ∧ Bk V w4.heap.size 43 #[.int .i64 st, .int .i64 sp, .slice A m c] ∧ Bk V w.heap.size 43 #[.int .i64 0, .int .i64 0, .slice none 0 0]) :=
    ⟨0, L, _, rfl, Nat.zero_le _, rfl, HW6.out, HLS.out.1, fun x hx => .inl (HLS.out.2 x hx), HO6.out, HC6.out, HS6.out, HQ6.out⟩
  go_wp2
  go_loopw [26] (fun s26 wr => ∃ (t : Nat) (M : List Int) (V : World), V = wr ∧ t ≤ m ∧ s26 = .int .i64 (t : Int) ∧ V.ownsRow w.heap.size 3 1 (.slice A m c) m (zs M) ∧ M.length = m ∧ Sv M ∧ Ok V g ∧ Ch g w V ∧ Bk V w4.heap.size 43 #[.int .i64 st, .int .i64 sp, .slice A m c] ∧ Bk V w.heap.size 43 #[.int .i64 0, .int .i64 0, .slice none 0 0]) (fun s26 _ => m - (intOf s26).toNat)
  case atStart => exact HR0.out
  case round =>
    clear HR0 d2
    obtain ⟨t, M, wr, hwr, ht, rfl, hown, hM, hSv, hok, hch, hbs, hbq⟩ := hrel
    subst hwr
    have mi : (m : Int) ≤ 200 := by omega
    rcases Nat.lt_or_ge t m with hlt | hge
    · have ti : (t : Int) < (m : Int) := by omega
      obtain ⟨q, c', e, hcq, hbq2⟩ := row_form hown (by omega)
      injection e with e1 e2 e3
      subst e1 e3
      have hne := own_blk_ne2 hown hbs (by decide)
      have hne2 := own_blk_ne2 hown hbq (by decide)
      have n1 : w4.heap.size ≠ q := fun e => hne (by rw [e]; rfl)
      have n2 : w.heap.size ≠ q := fun e => hne2 (by rw [e]; rfl)
      have HV := Lib.hid (And.intro hown (And.intro hM (And.intro hSv (And.intro hok (And.intro hch (And.intro hbs (And.intro hbq (And.intro n1 (And.intro n2 hbq2)))))))))
      clear hown hM hSv hok hch hbs hbq hne hne2 n1 n2 hbq2
      rcases (show hh = 0 ∨ 0 < hh by omega) with h0 | h0
      · subst h0
        go_wp2
        go_roundw
        case rel => exact ⟨t + 1, M, _, rfl, by omega, by go_num, HV.out.1, HV.out.2.1, HV.out.2.2.1, HV.out.2.2.2.1, HV.out.2.2.2.2.1, HV.out.2.2.2.2.2.1, HV.out.2.2.2.2.2.2.1⟩
        case measure => simp [intOf]; omega
      · go_wp2_with fail
        go_at_call 35
        refine (n_any g hh (by omega) (by omega) _ HV.out.2.2.2.1).mono ?_
        rintro e w6 ⟨x, rfl, x0, x1, ho, hc⟩
        have HN := Lib.hid (And.intro ho hc)
        have HB6 : Hid (Bk w6 w4.heap.size 43 #[.int .i64 st, .int .i64 sp, .slice (some ⟨q, 0, none⟩) m c]) := hc.bk HV.out.2.2.2.2.2.1 (by have := HGB.out; omega)
        have HB7 : Hid (Bk w6 w.heap.size 43 #[.int .i64 0, .int .i64 0, .slice none 0 0]) := hc.bk HV.out.2.2.2.2.2.2.1 (by have := HGB.out; omega)
        have HW7 := Lib.hid (own_ch HV.out.1 hc HGB.out)
        have HC7 := Lib.hid (HV.out.2.2.2.2.1.tr hc)
        clear ho hc
        rcases (show x = 0 ∨ x ≠ 0 by omega) with hx | hx
        · subst hx
          have d2 : w6.cell? ⟨w4.heap.size, 2, none⟩ = some (.slice (some ⟨q, 0, none⟩) m c) := HB6.out.cell 2
          have zq := own_zi HW7.out HV.out.2.1
          have d3 := zq.at t hlt
          have d4 := own_fr HW7.out t
          clear zq
          go_wp2
          go_roundw
          case rel =>
            refine ⟨t + 1, M.set t 1073741824, _, rfl, by omega, by go_num, own_set HW7.out _, by rw [List.length_set]; exact HV.out.2.1, sv_set HV.out.2.2.1 t, HN.out.1.st (by show g < q; have := HGB.out; have := HV.out.2.2.2.2.2.2.2.2.2; omega) _, HC7.out.st2 (by show _ ≤ q; exact HV.out.2.2.2.2.2.2.2.2.2) _, HB6.out.far (by exact HV.out.2.2.2.2.2.2.2.1) _, HB7.out.far (by exact HV.out.2.2.2.2.2.2.2.2.1) _⟩
          case measure => simp [intOf]; omega
        · have hxb : (x == 0) = false := by simpa using hx
          go_wp2
          go_roundw
          case rel => exact ⟨t + 1, M, _, rfl, by omega, by go_num, HW7.out, HV.out.2.1, HV.out.2.2.1, HN.out.1, HC7.out, HB6.out, HB7.out⟩
          case measure => simp [intOf]; omega
    · obtain rfl : t = m := by omega
      obtain ⟨A2, c2, e, hvs, hfr⟩ := own_vs hown hM
      injection e with e1 e2 e3
      subst e1 e3
      have d0 := hbs.cell 0
      have d1 := hbs.cell 1
      have d2 := hbs.cell 2
      have dl := hbs.lt
      have q0 := hbq.cell 0
      have q1 := hbq.cell 1
      have q2 := hbq.cell 2
      have f0 := hbq.fr 0
      have f1 := hbq.fr 1
      have f2 := hbq.fr 2
      have ql := hbq.lt
      have HV := Lib.hid (And.intro hSv (And.intro hok (And.intro hch (And.intro hbq (And.intro hvs hfr)))))
      have hne2 := own_blk_ne2 hown hbq (by decide)
      have HNE := Lib.hid hne2
      clear hown hSv hok hch hbs hbq hvs hfr hne2
      go_wp2
      refine bodyPost_ret (v := .agg #[.int .i64 st, .int .i64 sp, .slice A t c]) (results_s1 Try.results17 _ _ w.heap.size (.int .i64 st) (.int .i64 sp) (.slice A t c) rfl (((HV.out.2.2.2.1.st 0 _).st 1 _).st 2 _)) rfl ?_
      have hf : ∀ ad, A = some ad → ad.block ≠ w.heap.size := fun ad e => by subst e; exact fun e => HNE.out (by rw [← e]; rfl)
      have hg := HGB.out
      exact ⟨st, sp, A, t, c, M, rfl, st0, st1, sp0, sp1, by omega, HV.out.1, ((HV.out.2.2.2.2.1.far (q := ⟨w.heap.size, 0, none⟩) hf _).far (q := ⟨w.heap.size, 1, none⟩) hf _).far (q := ⟨w.heap.size, 2, none⟩) hf _, HV.out.2.2.2.2.2, ((HV.out.2.1.st (p := ⟨w.heap.size, 0, none⟩) hg _).st (p := ⟨w.heap.size, 1, none⟩) hg _).st (p := ⟨w.heap.size, 2, none⟩) hg _, ((HV.out.2.2.1.st2 (p := ⟨w.heap.size, 0, none⟩) (Nat.le_refl _) _).st2 (p := ⟨w.heap.size, 1, none⟩) (Nat.le_refl _) _).st2 (p := ⟨w.heap.size, 2, none⟩) (Nat.le_refl _) _⟩
end Go.Proofs.Ytaplbkfmedofcaa.Se
