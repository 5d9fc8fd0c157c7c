/- packed's decode. -/
import Derived.Test.YtaplbkfmedofcaaSgP
namespace Go.Proofs.Ytaplbkfmedofcaa.Sg
open Go.ChangeShapes Go.WideShapes Go.RowKit Wo Bm By Cd Pk
open Wi (Zi zi_bk)
open Sr (zs zs_at zs_len)
set_option linter.unusedVariables false
/-- what a kind reads of its data: samples, and whether there are some -/
def SomeKd (Q : List Int → Prop) (w : World) (e : Ending) (w' : World) : Prop := ∃ (A : Option Addr) (m c : Nat) (L : List Int) (b : Bool), e = .returned (.tuple #[.slice A m c, .bool b]) ∧ Zi w' A m L ∧ m ≤ 64 ∧ m ≤ c ∧ c ≤ maxLen ∧ (A = none → c = 0) ∧ (∀ ad, A = some ad → ∃ h, ad = ⟨h, 0, none⟩ ∧ w.heap.size ≤ h) ∧ Bel w w' ∧ (∀ x, Vx x → Q x → b = true ∧ L = x)
theorem getD_set {I : List Int} {k i : Nat} {y : Int} (hk : k < I.length) : (I.set k y).getD i 0 = if i = k then y else I.getD i 0 := by
  rw [List.getD_eq_getElem?_getD, List.getElem?_set, List.getD_eq_getElem?_getD]
  by_cases h : k = i
  · subst h; simp [hk]
  · rw [if_neg h, if_neg (fun e => h e.symm)]
theorem zs_set (L : List Int) (k : Nat) (y : Int) : (zs L).toArray.setIfInBounds k (.int .i64 y) = (zs (L.set k y)).toArray := by simp [zs, List.map_set]
theorem nums_zs (L : List Nat) : nums L = zs (L.map fun v : Nat => (v : Int)) := by simp [nums, zs]
theorem getD_ext {L x : List Int} (hl : L.length = x.length) (h : ∀ i, i < L.length → L.getD i 0 = x.getD i 0) : L = x := by
  apply List.ext_getElem hl
  intro i h1 h2
  have := h i h1
  simpa [List.getD_eq_getElem?_getD, h1, h2] using this
def DRel (L : List Nat) (Lo : Int) (m g : Nat) (hd : Array Value) (w : World) (s : Value) (wr : World) : Prop := ∃ (k : Nat) (I : List Int) (V : World), V = wr ∧ k ≤ m ∧ s = .int .i64 (k : Int) ∧ I.length = m ∧ (∀ i, i < k → I.getD i 0 = IntKind.i64.wrap ((L.getD i 0 : Nat) + Lo)) ∧ (∀ i, k ≤ i → i < m → I.getD i 0 = (L.getD i 0 : Nat)) ∧
  Bk wr g 3 (zs I).toArray ∧ Bk wr (w.heap.size + 1) 34 hd ∧ Bel w wr
theorem kdec1_q {P : List Nat} {n m : Nat} {Lo G D r er : Int} {L : List Nat} (hD : wrap64 (G - Lo) = D) (hr : WdOf D r)
    (hq : ∀ (L0 : List Nat) (q : Nat), q ≤ 32 → L0.length = n → (∀ v ∈ L0, v < 2 ^ q) → r = (q : Int) → P = packed L0 q → er = 0 ∧ m = n ∧ L = L0) {x : List Int} (hx : Vx x) (h : x.length = n ∧ Lo = mn x ∧ G = mx x ∧ P = pd x) : er = 0 ∧ m = n ∧ L = ab x := by
  obtain ⟨h1, rfl, rfl, h4⟩ := h
  have hd := dD_int hx.1
  have hdl := dD_le hx.2.2 hx.1
  have e : D = (dD x : Int) := by rw [← hD, ← hd]; exact IntWalk.wrap64_in _ (by omega)
  exact hq (ab x) (wd [dD x]) (by have := pw_le hx.2.2 hx.1; omega) (by rw [ab_len]; exact h1) (ab_fits hx.2.2 hx.1) (hr.2.2 _ (by omega) e) h4
theorem kdec1_x {x I : List Int} {L : List Nat} {m : Nat} {Lo : Int} (hx : Vx x) (hI : I.length = m) (hm : m = x.length) (hL : L = ab x) (hlo : Lo = mn x) (h : ∀ i, i < m → I.getD i 0 = IntKind.i64.wrap ((L.getD i 0 : Nat) + Lo)) : I = x := by
  subst hL hlo
  refine getD_ext (by omega) (fun i hi => ?_)
  rw [h i (by omega), ab_at (by omega), Int.sub_add_cancel]
  have := hx.2.2.at i
  exact IntWalk.i64_in _ (by omega)
set_option maxHeartbeats 4000000 in
set_option maxRecDepth 100000 in
theorem kdec1 (A : Option Addr) (c M n : Nat) (P : List Nat) (K Lo G S : Int) (hn : n ≤ 64) (hM : M ≤ 1000000) (w : World) (hr : Rd w A M P) :
    Calls Try.prog 80 #[.agg #[], .slice A M c, hdv K (n : Int) Lo G S] w (SomeKd (fun x => x.length = n ∧ Lo = mn x ∧ G = mx x ∧ P = pd x) w) := by
  obtain ⟨D, hD⟩ : ∃ D, wrap64 (G - Lo) = D := ⟨_, rfl⟩
  have HW : Hid (∀ W, _) := fun W => pwidth_ok K (n : Int) Lo G S D hD W
  have HU : Hid (∀ r W, WdOf D r → Bel w W → Calls Try.prog 83 #[.slice A M c, .int .i64 r, .int .i64 (n : Int)] W (SomeUnp P r n W)) := fun r W h hb => unp_all A c M n P r h.1 (by have := h.2.1; omega) hn hM W (hr.bel hb)
  have HDD := Lib.hid hD
  obtain ⟨W0, hW0⟩ : ∃ W0, (w.alloc (.cells #[] 100)).alloc (.cells (hcs K (n : Int) Lo G S) 34) = W0 := ⟨_, rfl⟩
  have HBW : Hid (Bel w W0) := by rw [← hW0]; exact (Bel.rf.al _).al _
  have hh : Bk W0 (w.heap.size + 1) 34 (hcs K (n : Int) Lo G S) := by rw [← hW0]; exact Bk.nq _ _ _ (by simp)
  have HH := Lib.hid hh
  have c0 : W0.cell? ⟨w.heap.size + 1, 0, none⟩ = some (.int .i64 K) := hh.cell 0
  have c1 : W0.cell? ⟨w.heap.size + 1, 1, none⟩ = some (.int .i64 (n : Int)) := hh.cell 1
  have c2 : W0.cell? ⟨w.heap.size + 1, 2, none⟩ = some (.int .i64 Lo) := hh.cell 2
  have c3 : W0.cell? ⟨w.heap.size + 1, 3, none⟩ = some (.int .i64 G) := hh.cell 3
  have c4 : W0.cell? ⟨w.heap.size + 1, 4, none⟩ = some (.int .i64 S) := hh.cell 4
  have KS : Hid (∀ W', Bel W0 W' → ((fun w' => w'.cell? ⟨w.heap.size + 1, 0, none⟩ = some (.int .i64 K) ∧ w'.cell? ⟨w.heap.size + 1, 1, none⟩ = some (.int .i64 (n : Int)) ∧ w'.cell? ⟨w.heap.size + 1, 2, none⟩ = some (.int .i64 Lo) ∧ w'.cell? ⟨w.heap.size + 1, 3, none⟩ = some (.int .i64 G) ∧ w'.cell? ⟨w.heap.size + 1, 4, none⟩ = some (.int .i64 S)) W')) := fun W' h => ⟨h.kp c0, h.kp c1, h.kp c2, h.kp c3, h.kp c4⟩
  have ni : (n : Int) ≤ 64 := by omega
  have hwz : W0.heap.size = w.heap.size + 2 := by rw [← hW0]; simp
  clear hr hD hh
  unfold hdv at HW ⊢
  unfold hcs at hW0
  go_enter Try.func80, Try.ntmps80
  go_wp2_with fail
  (try rw [hW0])
  clear hW0
  go_region_held3 (fun w' => w'.cell? ⟨w.heap.size + 1, 0, none⟩ = some (.int .i64 K) ∧ w'.cell? ⟨w.heap.size + 1, 1, none⟩ = some (.int .i64 (n : Int)) ∧ w'.cell? ⟨w.heap.size + 1, 2, none⟩ = some (.int .i64 Lo) ∧ w'.cell? ⟨w.heap.size + 1, 3, none⟩ = some (.int .i64 G) ∧ w'.cell? ⟨w.heap.size + 1, 4, none⟩ = some (.int .i64 S))
    (first
      | (refine KS.out _ ?_; (repeat (first | exact Bel.rf | exact HB5.out | exact HB4.out | (with_reducible refine Bel.drwN ?_ _) | (with_reducible refine Bel.drw ?_) | (with_reducible refine Bel.al ?_ _))); done))
    (first
      | (go_at_call 82; refine (HW.out _).mono ?_; rintro e w4 ⟨r, rfl, hr4, hb4⟩; have HB4 : Hid (Bel W0 w4) := (by first | exact hb4 | exact (Bel.rf.drw).tr hb4 | exact (Bel.rf.drwN _).tr hb4); have HR4 := Lib.hid hr4; clear hr4 hb4)
      | (go_at_call 83; refine (HU.out _ _ HR4.out (HBW.out.tr (by first | exact HB4.out | exact HB4.out.drw | exact HB4.out.drwN _))).mono ?_; rintro e w5 ⟨A5, m, L, er, rfl, hri, hm, hlt, hn0, hbk, hb5, hq⟩; have HB5 : Hid (Bel W0 w5) := (by first | exact HB4.out.tr hb5 | exact HB4.out.drw.tr hb5 | exact (HB4.out.drwN _).tr hb5); have HS4 : Hid (W0.heap.size ≤ w4.heap.size) := HB4.out.size; have HQ := Lib.hid (And.intro hri (And.intro hlt (And.intro hbk hq))); clear hb5 hri hlt hbk hq))
  all_goals
    obtain ⟨hri, hlt, hbk, hq⟩ := HQ.out
    have HP := Lib.hid (fun x hx h => kdec1_q (x := x) HDD.out HR4.out hq hx h)
    have HBF : Hid (Bel w w5) := HBW.out.tr HB5.out
    have HML : Hid (L.length = m) := hri.1
    rcases A5 with _ | ad
    · have hm0 : m = 0 := hn0 rfl
      subst hm0
      clear hri hlt hbk hq HQ hn0 c0 c1 c2 c3 c4
      go_wp2
      go_loopw [23] (fun s23 wr => ∃ V : World, V = wr ∧ s23 = .int .i64 0 ∧ Bel w wr) (fun _ _ => 0)
      case atStart => exact ⟨_, rfl, rfl, HBF.out⟩
      case round =>
        obtain ⟨wr, hwr, rfl, hb⟩ := hrel
        subst hwr
        have HB := Lib.hid hb
        clear hb
        go_wp2
        go_ret2
        exact ⟨none, 0, 0, [], _, rfl, ⟨rfl, fun h => by omega⟩, by omega, by omega, by unfold maxLen; omega, fun _ => rfl, fun ad e => (by cases e), HB.out, fun x hx h => (by have h1 := (HP.out x hx h).2.1; have h2 := hx.1; have h3 := h.1; omega)⟩
    · obtain ⟨g, rfl, hg, hbk⟩ := hbk ad rfl
      have hgz : w.heap.size + 2 ≤ g := by have := HS4.out; omega
      have HR0 : Hid (DRel L Lo m g (hcs K (n : Int) Lo G S) w (.int .i64 0) w5) :=
        ⟨0, L.map fun v : Nat => (v : Int), _, rfl, by omega, rfl, by simp [hri.1], fun i hi => by omega, fun i _ hi => (by have := hri.1; simp [List.getD_eq_getElem?_getD, show i < L.length by omega]), by rw [← nums_zs]; exact hbk, HH.out.bel HB5.out, HBF.out⟩
      have HLT := Lib.hid hlt
      clear hri hlt hbk hq HQ hn0 c0 c1 c2 c3 c4
      go_wp2
      go_loopw [23] (fun s23 wr => DRel L Lo m g (hcs K (n : Int) Lo G S) w s23 wr) (fun s23 _ => m - (intOf s23).toNat)
      case atStart => exact HR0.out
      case round =>
        clear HR0
        obtain ⟨k, I, wr, hwr, hk, rfl, hil, hlo, hup, hb, hh, hbe⟩ := hrel
        subst hwr
        have HB := Lib.hid hb
        have HH2 := Lib.hid hh
        have HX := Lib.hid hbe
        have HLO := Lib.hid hlo
        have HUP := Lib.hid hup
        have HIL := Lib.hid hil
        rcases Nat.lt_or_ge k m with hlt | hge
        · have c2 : wr.cell? ⟨w.heap.size + 1, 2, none⟩ = some (.int .i64 Lo) := hh.cell 2
          have f1 := hb.fr k
          have hl1 := hb.lt
          have c3 : wr.cell? ⟨g, k, none⟩ = some (.int .i64 (L.getD k 0 : Nat)) := by
            have h5 := (zi_bk hb m hil).at k hlt
            rw [hup k (Nat.le_refl _) hlt] at h5
            exact h5
          have hyl : L.getD k 0 < 4294967296 := by
            rw [List.getD_eq_getElem?_getD, List.getElem?_eq_getElem (by rw [HML.out]; exact hlt)]
            exact HLT.out _ (List.getElem_mem _)
          obtain ⟨y, hy⟩ : ∃ y, L.getD k 0 = y := ⟨_, rfl⟩
          rw [hy] at c3 hyl
          obtain ⟨z, hz⟩ : ∃ z, IntKind.i64.wrap ((y : Int) + Lo) = z := ⟨_, rfl⟩
          have hz2 : wrap64 ((y : Int) + Lo) = z := (IntWalk.i64_left _).symm.trans hz
          have HYZ := Lib.hid (And.intro hy hz)
          have ki : (k : Int) < (m : Int) := by omega
          have HST : Hid (Bk (wr.setCell ⟨g, k, none⟩ (.int .i64 z)) g 3 (zs (I.set k z)).toArray) := by
            have h4 := hb.st k (.int .i64 z)
            rw [zs_set] at h4
            exact h4
          clear hb hh hbe hlo hup hil hy
          go_wp2
          go_region
          all_goals
            go_wp2
            go_roundw
            case rel =>
              refine ⟨k + 1, I.set k z, _, rfl, by omega, by go_num, by rw [List.length_set]; exact HIL.out, fun i hi => ?_, fun i hi1 hi2 => ?_, ?_, ?_, ?_⟩
              · rw [getD_set (by rw [HIL.out]; exact hlt)]
                split
                · rename_i hik
                  subst hik
                  rw [HYZ.out.1, HYZ.out.2]
                · exact HLO.out i (by omega)
              · rw [getD_set (by rw [HIL.out]; exact hlt), if_neg (by omega)]
                exact HUP.out i (by omega) hi2
              · first | exact HST.out | exact HST.out.drw | exact HST.out.drwN _
              · first | exact HH2.out.far (by show g ≠ _; omega) _ | exact (HH2.out.far (by show g ≠ _; omega) _).drw | exact (HH2.out.far (by show g ≠ _; omega) _).drwN _ | exact HH2.out.far (by show _ ≠ g; omega) _ | exact (HH2.out.far (by show _ ≠ g; omega) _).drw | exact (HH2.out.far (by show _ ≠ g; omega) _).drwN _
              · first | exact HX.out.st (by show _ ≤ g; omega) _ | exact (HX.out.st (by show _ ≤ g; omega) _).drw | exact (HX.out.st (by show _ ≤ g; omega) _).drwN _
            case measure => simp [intOf]; omega
        · obtain rfl : k = m := by omega
          clear hb hh hbe hlo hup hil
          go_wp2
          go_ret2
          exact ⟨some ⟨g, 0, none⟩, k, k, I, _, rfl, zi_bk HB.out k HIL.out, by omega, by omega, by unfold maxLen; omega, fun e => (by cases e), fun ad e => ⟨g, (by cases e; rfl), by omega⟩, HX.out, fun x hx h => (by
            obtain ⟨h1, h2, h3⟩ := HP.out x hx h
            exact ⟨by simp [h1], kdec1_x hx HIL.out (by omega) h3 h.2.1 HLO.out⟩)⟩
end Go.Proofs.Ytaplbkfmedofcaa.Sg
