/- delta's decode. -/
import Derived.Test.YtaplbkfmedofcaaSgT
import Derived.Test.YtaplbkfmedofcaaCodecInt
namespace Go.Proofs.Ytaplbkfmedofcaa.Sg
open Go.ChangeShapes Go.WideShapes Go.RowKit Wo Bm By Cd Pk
open Wi (Zi zi_bk step_app own_any row_zi own_base bel_grown own_bel row_form)
open Sr (zs zs_at zs_len)
set_option linter.unusedVariables false
theorem zi_one {W : World} {g : Nat} {x : Int} (hb : Bk W g 3 #[.int .i64 x]) : Zi W (some ⟨g, 0, none⟩) 1 [x] := zi_bk (L := [x]) hb 1 rfl
theorem int_as (A : Option Addr) (c : Nat) (B : List Nat) (lb at_ : Nat) (hlb : B.length = lb) (d : Int × Int × Int) (hd : dec B at_ = d) (hat : at_ ≤ lb) (hB : lb ≤ 140737488355000) (w : World) (hr : Rd w A lb B) :
    Calls Try.prog 48 #[.slice A lb c, .int .i64 (at_ : Int)] w fun e w' => e = .returned (.tuple #[.int .i64 d.1, .int .i64 d.2.1, .int .i64 d.2.2]) ∧ w = w' := by
  subst hlb hd
  exact int_any A c B at_ hat hB w hr
theorem add_add (a : Addr) (i j : Nat) : (a.add i).add j = a.add (i + j) := by
  unfold Addr.add
  rcases Nat.eq_zero_or_pos i with rfl | hi
  · simp
  · rcases Nat.eq_zero_or_pos j with rfl | hj
    · simp
    · rw [if_neg (by omega), if_neg (by omega), if_neg (by omega)]
      simp [Nat.add_assoc]
theorem rd_dropg {w : World} {ad : Addr} {n : Nat} {L : List Nat} (hr : Rd w (some ad) n L) (i : Nat) (hi : i ≤ n) : Rd w (some (ad.add i)) (n - i) (L.drop i) := by
  refine ⟨by rw [List.length_drop, hr.1], fun c hc => hr.2.1 c (List.mem_of_mem_drop hc), fun hp => ?_⟩
  obtain ⟨ad, e, hb, hc⟩ := hr.2.2 (by omega)
  cases e
  refine ⟨_, rfl, by rw [By.add_blk]; exact hb, fun j hj => ?_⟩
  have := hc (i + j) (by omega)
  rw [add_add, this]
  simp [List.getD_eq_getElem?_getD]
/-- the samples read so far: so many of them; those of every x of which this is the data -/
def ERel (P : List Nat) (S : List Nat) (n : Nat) (w : World) (s12 s49 : Value) (wr : World) : Prop := ∃ (k : Nat) (I : List Int) (V : World) (u : Value), V = wr ∧ u = s12 ∧ k ≤ S.length ∧ s49 = .int .i64 (k : Int) ∧ I.length = k + 1 ∧ wr.ownsRow w.heap.size 3 1 s12 (k + 1) (zs I) ∧ Bel w wr ∧
  (∀ x, Vx x → x.length = n → P = dd x → I = x.take (k + 1))
theorem dd_steps {P S : List Nat} {p : Nat} {z er : Int} {n m : Nat} (hd : dec P 0 = (z, (p : Int), 0))
    (hq : ∀ (L0 : List Nat) (q : Nat), q ≤ 32 → L0.length = n - 1 → (∀ v ∈ L0, v < 2 ^ q) → ((P.getD p 0 : Nat) : Int) = (q : Int) → P.drop (p + 1) = packed L0 q → er = 0 ∧ m = n - 1 ∧ S = L0) {x : List Int} (hx : Vx x) (hn : x.length = n) (h : P = dd x) : er = 0 ∧ m = n - 1 ∧ S = stp x ∧ z = x.getD 0 0 := by
  subst h
  obtain ⟨p', e1, e2, e3, e4⟩ := dd_read hx
  rw [hd] at e1
  have hz : z = x.getD 0 0 := congrArg (·.1) e1
  have hp : p = p' := by have := congrArg (·.2.1) e1; exact Int.ofNat.inj this
  subst hp
  obtain ⟨a, b, c⟩ := hq (stp x) (wd (stp x)) (by have := dw_le hx.2.2; omega) (by rw [stp_len, hn]) (stp_fits hx.2.2) (by rw [e3]) e4
  exact ⟨a, b, c, hz⟩
set_option maxHeartbeats 8000000 in
set_option maxRecDepth 100000 in
theorem kdec2 (A : Option Addr) (c M n : Nat) (P : List Nat) (K Lo G S : Int) (hn1 : 1 ≤ n) (hn : n ≤ 64) (hM : M ≤ 1000000) (hcc : M < c) (hcm : c ≤ 9223372036854775807) (w : World) (hr : Rd w A M P) :
    Calls Try.prog 92 #[.agg #[], .slice A M c, hdv K (n : Int) Lo G S] w (SomeKd (fun x => x.length = n ∧ P = dd x) w) := by
  obtain ⟨d, hd⟩ : ∃ d, dec P 0 = d := ⟨_, rfl⟩
  have HI : Hid (∀ W, Bel w W → _) := fun W hb => int_as A c P M 0 hr.1 d hd (Nat.zero_le _) (by omega) W (hr.bel hb)
  have hbw : Bel w ((w.alloc (.cells #[] 101)).alloc (.cells (hcs K (n : Int) Lo G S) 34)) := (Bel.rf.al _).al _
  have HBW := Lib.hid hbw
  obtain ⟨z, pk, er⟩ := d
  simp only [] at HI
  rcases Classical.em (er = 0) with her | her
  · subst her
    obtain ⟨hz64, p, rfl, hp0, hpl, hdr⟩ := dec_canon hr.2.1 (Nat.zero_le _) hd
    rw [hr.1] at hpl
    rcases Nat.lt_or_ge p M with hlt | hge
    · have HP := Lib.hid (fun (m : Nat) (S : List Nat) (er : Int) hq x hx hn2 h => dd_steps (P := P) (S := S) (p := p) (z := z) (er := er) (n := n) (m := m) hd hq (x := x) hx hn2 h)
      obtain ⟨ad, rfl, hab, hac⟩ := hr.2.2 (by omega)
      have hbb := hr.byte p
      have cp := hac p hlt
      obtain ⟨q, hq⟩ : ∃ q, p + 1 = q := ⟨_, rfl⟩
      obtain ⟨n1, hn1'⟩ : ∃ n1, n - 1 = n1 := ⟨_, rfl⟩
      obtain ⟨m1, hm1⟩ : ∃ m1, M - q = m1 := ⟨_, rfl⟩
      obtain ⟨c1, hc1⟩ : ∃ c1, c - q = c1 := ⟨_, rfl⟩
      have hrq := rd_dropg hr q (by omega)
      rw [hm1] at hrq
      rw [hq, hn1'] at HP
      obtain ⟨b, hb⟩ : ∃ b, P.getD p 0 = b := ⟨_, rfl⟩
      rw [hb] at cp hbb HP
      have HU : Hid (∀ W, Bel w W → Calls Try.prog 83 #[.slice (some (ad.add q)) m1 c1, .int .i64 (b : Int), .int .i64 (n1 : Int)] W (SomeUnp (P.drop q) (b : Int) n1 W)) := fun W h => unp_all (some (ad.add q)) c1 m1 n1 (P.drop q) (b : Int) (by omega) (by omega) (by omega) (by omega) W (hrq.bel h)
      obtain ⟨W0, hW0⟩ : ∃ W0, (w.alloc (.cells #[] 101)).alloc (.cells (hcs K (n : Int) Lo G S) 34) = W0 := ⟨_, rfl⟩
      rw [hW0] at hbw HBW
      have hh : Bk W0 (w.heap.size + 1) 34 (hcs K (n : Int) Lo G S) := by rw [← hW0]; exact Bk.nq _ _ _ (by simp)
      have d1 : W0.cell? ⟨w.heap.size + 1, 1, none⟩ = some (.int .i64 (n : Int)) := hh.cell 1
      have d2 := hbw.kp cp
      have KS : Hid (∀ W', Bel W0 W' → ((fun w' => w'.cell? ⟨w.heap.size + 1, 1, none⟩ = some (.int .i64 (n : Int)) ∧ w'.cell? (ad.add p) = some (.int .u8 (b : Int))) W')) := fun W' h => ⟨h.kp d1, h.kp d2⟩
      have e0 : ((p : Int) == (M : Int)) = false := by simp; omega
      have e1 : (p : Int) + 1 = (q : Int) := by omega
      have e2 : IntKind.i64.wrap (q : Int) = (q : Int) := IntWalk.i64_in _ (by omega)
      have e3 : (n : Int) - 1 = (n1 : Int) := by omega
      have e4 : IntKind.i64.wrap (n1 : Int) = (n1 : Int) := IntWalk.i64_in _ (by omega)
      have e5 : (q : Int) ≤ (M : Int) := by omega
      have e6 : (0 : Int) ≤ (q : Int) := by omega
      have e7 : (q : Int) ≤ (c : Int) := by omega
      have e8 : ¬ c = q := by omega
      have e9 : (0 : Int) ≤ (p : Int) := by omega
      have e10 : (p : Int) < (M : Int) := by omega
      have e11 : (M : Int) ≤ (c : Int) := by omega
      have e12 : IntKind.i64.wrap (b : Int) = (b : Int) := IntWalk.i64_in _ (by omega)
      have e13 : (b : Int) < 256 := by omega
      have hwz : W0.heap.size = w.heap.size + 2 := by rw [← hW0]; simp
      have e14 : n1 + 1 = n := by omega
      clear hr hd hdr hac hab hrq hb hq hn1' hbw hh cp
      unfold hdv
      unfold hcs at hW0
      go_enter Try.func92, Try.ntmps92
      go_wp2_with fail
      go_at_call 48
      (try rw [hW0])
      refine (HI.out _ HBW.out).mono ?_
      rintro e w1 ⟨rfl, rfl⟩
      clear hW0 HI
      go_wp2_with fail
      go_region_held3 (fun w' => w'.cell? ⟨w.heap.size + 1, 1, none⟩ = some (.int .i64 (n : Int)) ∧ w'.cell? (ad.add p) = some (.int .u8 (b : Int)))
        (first
          | (refine KS.out _ ?_; (repeat (first | exact Bel.rf | exact HB5.out | (with_reducible refine Bel.drwN ?_ _) | (with_reducible refine Bel.drw ?_) | (with_reducible refine Bel.al ?_ _))); done))
        (first
          | (go_at_call 83; refine (HU.out _ (HBW.out.tr (by repeat (first | exact Bel.rf | (with_reducible refine Bel.drwN ?_ _) | (with_reducible refine Bel.drw ?_))))).mono ?_; rintro e w5 ⟨A5, m, T, er, rfl, hri, hm, hlt5, hn0, hbk, hb5, hq5⟩; have HB5 : Hid (Bel W0 w5) := (by first | exact hb5 | exact Bel.rf.drw.tr hb5 | exact (Bel.rf.drwN _).tr hb5); have HQ := Lib.hid (And.intro hri (And.intro hlt5 (And.intro hbk hq5))); clear hb5 hri hlt5 hbk hq5))
      all_goals
        obtain ⟨hri, hlt5, hbk, hq5⟩ := HQ.out
        have HPP := Lib.hid (fun x hx hn2 h => HP.out m T er hq5 x hx hn2 h)
        have HBF : Hid (Bel w w5) := HBW.out.tr HB5.out
        have HRI := Lib.hid hri
        have HLT := Lib.hid hlt5
        have htl := hri.1
        have HR0 : Hid (ERel P T n w5 (.slice (some ⟨w5.heap.size, 0, none⟩) 1 1) (.int .i64 0) (w5.alloc (.cells #[.int .i64 z] 3))) :=
          ⟨0, [z], _, _, rfl, rfl, by omega, rfl, rfl, World.ownsRow_lit w5 #[.int .i64 z] 1 (Nat.le_refl _) (by unfold maxLen; omega) rfl, Bel.rf.al _, fun x hx hn2 h => by
            have h3 := (HPP.out x hx hn2 h).2.2.2
            rw [take_next x 0 (by omega), ← h3]; simp⟩
        clear hri hlt5 hbk hq5 HQ hn0 d1 d2 e0 e1 e2 e3 e4 e5 e6 e7 e8 e9 e10 e11 e12 e13
        go_wp2
        go_loopw [12, 49] (fun s12 s49 wr => ERel P T n w5 s12 s49 wr) (fun _ s49 _ => m - (intOf s49).toNat)
        case atStart => exact HR0.out
        case round =>
          clear HR0
          obtain ⟨k, I, wr, u, hwr, hu, hk, rfl, hil, hown, hbe, hx⟩ := hrel
          subst hwr hu
          have HO := Lib.hid hown
          have HX := Lib.hid hbe
          have HPR := Lib.hid hx
          have HIL := Lib.hid hil
          have hsz := hbe.size
          obtain ⟨g9, c9, rfl, hc9, hg9⟩ := row_form hown (by omega)
          rcases Nat.lt_or_ge k m with hlt2 | hge2
          · obtain ⟨ad5, rfl, hab5, hac5⟩ := (Ri.bel HRI.out hbe).2 (by omega)
            have c5 := hac5 k hlt2
            have c6 : wr.cell? ⟨g9, k, none⟩ = some (.int .i64 (I.getD k 0)) := (by rw [← By.add_row]; exact hown.cells (g := g9) rfl k _ (zs_at (by omega)))
            have hsl : T.getD k 0 < 4294967296 := by
              rw [List.getD_eq_getElem?_getD, List.getElem?_eq_getElem (by omega)]
              exact HLT.out _ (List.getElem_mem _)
            obtain ⟨s, hs⟩ : ∃ s, T.getD k 0 = s := ⟨_, rfl⟩
            obtain ⟨y, hy⟩ : ∃ y, I.getD k 0 = y := ⟨_, rfl⟩
            rw [hs] at c5 hsl
            rw [hy] at c6
            have HUF0 := fun W => unfold_any s (by omega) W
            obtain ⟨f, hf⟩ : ∃ f, unf s = f := ⟨_, rfl⟩
            rw [hf] at HUF0
            have HUF := Lib.hid HUF0
            obtain ⟨v, hv⟩ : ∃ v, IntKind.i64.wrap (y + f) = v := ⟨_, rfl⟩
            have hv2 : wrap64 (y + f) = v := (IntWalk.i64_left _).symm.trans hv
            have u1 : (s : Int) % 18446744073709551616 = (s : Int) := by omega
            have u2 : IntKind.u64.wrap (s : Int) = (s : Int) := by rw [IntKind.wrap_u64]; omega
            have ki : (k : Int) < (m : Int) := by omega
            have ki0 : (0 : Int) ≤ (k : Int) := by omega
            have ki1 : (k : Int) < (k : Int) + 1 := by omega
            have HN : Hid (∀ x, Vx x → x.length = n → P = dd x → I ++ [v] = x.take (k + 2)) := fun x hx hn2 h => by
              obtain ⟨h1, h2, h3, h4⟩ := HPP.out x hx hn2 h
              have h5 := HPR.out x hx hn2 h
              have hkx : k + 1 < x.length := by omega
              have hyx : y = x.getD k 0 := by rw [← hy, h5, List.getD_eq_getElem?_getD, List.getElem?_take_of_lt (by omega), ← List.getD_eq_getElem?_getD]
              have h6 := step_back hx.2.2 hkx
              rw [← h3, hs, hf, ← hyx] at h6
              have h7 : v = x.getD (k + 1) 0 := by
                rw [← hv, h6]
                have := hx.2.2.at (k + 1)
                exact IntWalk.i64_in _ (by omega)
              rw [take_next x (k + 1) hkx, ← h5, h7]
            clear hown hbe hx hil hac5 hab5 hs hy HUF0 hf
            go_wp2_with fail
            have c7 : ∀ o, (wr.alloc o).cell? ⟨g9, k, none⟩ = some (.int .i64 y) := fun o => kp_al c6 o
            go_region_law
              (first
              | (refine step_quiet1 _ rfl 57 (.tmp 60) _ rfl enters57 (.int .u64 (s : Int)) (by first | rfl | simp [Act.eval, Act.put, u2]) (.int .i64 f) (HUF.out _) ?_)
              | (refine step_app _ rfl (.tmp 54) (.tmp 63) rfl w5.heap.size (.slice (some ⟨g9, 0, none⟩) (k + 1) c9) (k + 1) I rfl (own_bel HO.out (by repeat (first | exact Bel.rf | (with_reducible refine Bel.drwN ?_ _) | (with_reducible refine Bel.drw ?_) | (with_reducible refine Bel.al ?_ _)))) _ 1 1 [v] rfl (by first | (refine zi_one (Bk.nq _ _ _ ?_); simp; done) | (refine zi_one ((Bk.nq _ _ _ ?_).al _); simp; done)) (by omega) (by simp; omega) ?_; intro vp wp hop hgp hatp; have hbw : Bel w5 wp := Below.grown (HX.out.tr (by repeat (first | exact Bel.rf | (with_reducible refine Bel.drwN ?_ _) | (with_reducible refine Bel.drw ?_) | (with_reducible refine Bel.al ?_ _)))) hgp (HX.out.tr (by repeat (first | exact Bel.rf | (with_reducible refine Bel.drwN ?_ _) | (with_reducible refine Bel.drw ?_) | (with_reducible refine Bel.al ?_ _)))).size (fun q e => (HO.out.lt q e).1)))
            all_goals
              have HR := Lib.hid (And.intro hop hbw)
              clear hop hbw hgp hatp
              go_wp2
              go_roundw
              case rel => exact ⟨k + 1, I ++ [v], _, _, rfl, rfl, by omega, by go_num, by rw [List.length_append, HIL.out]; rfl, HR.out.1, HR.out.2, HN.out⟩
              case measure => simp [intOf]; omega
          · obtain rfl : k = m := by omega
            have hcm9 : c9 ≤ maxLen := by
              rcases hown.2 with ⟨h9, _⟩ | ⟨g, cap, cur, e, _, _, hc, hm9, _⟩
              · cases h9
              · injection e with e1 e2 e3; rw [e3]; exact hm9
            have hz9 := Wi.own_zi hown HIL.out
            have HZ9 := Lib.hid hz9
            clear hown hbe hx hil hz9
            go_wp2
            go_ret2
            exact ⟨some ⟨g9, 0, none⟩, k + 1, c9, I, _, rfl, HZ9.out, by omega, hc9, hcm9, fun e => (by cases e), fun ad e => ⟨g9, (by cases e; rfl), Nat.le_trans HBF.out.size hg9⟩, HBF.out.tr HX.out, fun x hx h => (by
              obtain ⟨h1, h2, h3, h4⟩ := HPP.out x hx h.1 h.2
              refine ⟨by simp [h1], ?_⟩
              rw [HPR.out x hx h.1 h.2, List.take_of_length_le (by have := h.1; omega)])⟩
    · obtain rfl : p = M := by omega
      have HNO : Hid (∀ x, Vx x → (x.length = n ∧ P = dd x) → False) := fun x hx h => by
        obtain ⟨p', e1, e2, _⟩ := dd_read hx
        rw [← h.2, hd] at e1
        have hp : p = p' := by have := congrArg (·.2.1) e1; exact Int.ofNat.inj this
        have := hr.1
        rw [h.2] at this
        omega
      clear hr hd hdr
      unfold hdv
      go_enter Try.func92, Try.ntmps92
      go_wp2_with (go_at_call 48; refine (HI.out _ HBW.out).mono ?_; rintro e w1 ⟨rfl, rfl⟩)
      go_ret2
      exact ⟨none, 0, 0, [], false, rfl, ⟨rfl, fun h => by omega⟩, by omega, by omega, by unfold maxLen; omega, fun _ => rfl, fun ad e => (by cases e), HBW.out, fun x hx h => (HNO.out x hx h).elim⟩
  · have HNO : Hid (∀ x, Vx x → (x.length = n ∧ P = dd x) → False) := fun x hx h => by
      obtain ⟨p', e1, e2, _⟩ := dd_read hx
      rw [← h.2, hd] at e1
      exact her (congrArg (·.2.2) e1)
    have q1 : (er != 0) = true := by simpa using her
    clear hr hd
    unfold hdv
    go_enter Try.func92, Try.ntmps92
    go_wp2_with (go_at_call 48; refine (HI.out _ HBW.out).mono ?_; rintro e w1 ⟨rfl, rfl⟩)
    go_ret2
    exact ⟨none, 0, 0, [], false, rfl, ⟨rfl, fun h => by omega⟩, by omega, by omega, by unfold maxLen; omega, fun _ => rfl, fun ad e => (by cases e), HBW.out, fun x hx h => (HNO.out x hx h).elim⟩
end Go.Proofs.Ytaplbkfmedofcaa.Sg
