/- series.Starts. -/
import Derived.Test.YthpmgadmefhfpaaSer2
namespace Go.Proofs.Ythpmgadmefhfpaa.Se
open Go.RowKit Go.Shelf Wo Sr Wi
set_option linter.unusedVariables false
attribute [local go_sem] Oper.semAt_some
theorem runs_stops (d : Nat) (hd : 1 ≤ d) (Bo Bx : Nat) (A : Option Addr) (c n : Nat) (L : List Int) (hn : n ≤ 3000) (w : World) (hx1 : Bx < w.heap.size) (hx2 : Bx ≠ Bo) (hbx : w.cell? ⟨Bx, 0, none⟩ = some (.slice A n c)) (hz : Zi w A n L) (hzb : 0 < n → ∀ ad, A = some ad → ad.block ≠ Bo) :
    SeqStopsK Fence.wide d Try.prog 39 #[.pointer (some ⟨Bx, 0, none⟩)] encr (fun W W' => Kq w.heap.size Bo W W' ∧ w.heap.size ≤ W'.heap.size) (fun ys => rv ys = rns L 0 0) (fun _ => True) (n + 1) w := fun l J Jx W hW hJ _ hY h0 =>
  runs1_in d hd w.heap.size Bo l Bx A c n L hn J Jx W hJ hY hx1 hx2 ((hW.cell (p := ⟨Bx, 0, none⟩) hx1).trans hbx) (hz.bel hW) (fun h ad e => ⟨zi_lt hz ad h e, hzb h ad e⟩) h0
theorem kq_t {n₀ Bo : Nat} {A B C : World} (h : Kq n₀ Bo A B ∧ n₀ ≤ B.heap.size) (k : Kq n₀ Bo B C ∧ n₀ ≤ C.heap.size) : Kq n₀ Bo A C ∧ n₀ ≤ C.heap.size := ⟨fun b h1 h2 => (k.1 b h1 h2).trans (h.1 b h1 h2), k.2⟩
theorem kq_b {n₀ Bo : Nat} (W : World) (l : Nat) (o o' : Obj) (hl : n₀ ≤ l) (h : W.heap[l]? = some o) : Kq n₀ Bo W (W.putObj l o') ∧ n₀ ≤ (W.putObj l o').heap.size := ⟨fun b hb _ => by
  unfold World.putObj
  simp [show l ≠ b by omega], by
  have := (Array.getElem?_eq_some_iff.1 h).1
  unfold World.putObj
  simp; omega⟩
theorem kq_bl {n₀ Bo : Nat} {W W' : World} (h : Below n₀ W W') (hs : n₀ ≤ W.heap.size) : Kq n₀ Bo W W' ∧ n₀ ≤ W'.heap.size := ⟨fun b hb _ => h.block b hb, Nat.le_trans hs h.size⟩
/-- the starts of the runs that have come -/
def stl (m : Nat) (pre : List Rn) : List Int := ((rv pre).flatMap (ofRun m)).map Int.ofNat
theorem stl_len (m : Nat) (pre : List Rn) : (stl m pre).length ≤ pre.length * 3001 := by
  induction pre with
  | nil => simp [stl, rv]
  | cons x l ih =>
    have e : stl m (x :: l) = (ofRun m x.1).map Int.ofNat ++ stl m l := by simp [stl, rv]
    have h2 : (ofRun m x.1).length ≤ 3001 := by
      have := x.2
      simp [ofRun]; omega
    rw [e, List.length_append, List.length_map, List.length_cons]
    omega
/-- t starts of the run x behind those of pre -/
def stp (m : Nat) (pre : List Rn) (x : Rn) (t : Nat) : List Int := stl m pre ++ (List.range t).map (fun i => ((x.1.1 + i : Nat) : Int))
theorem stp_all (m : Nat) (pre : List Rn) (x : Rn) : stp m pre x (x.1.2 + 1 - m) = stl m (pre ++ [x]) := by
  simp [stp, stl, rv, ofRun]
theorem stp_zero (m : Nat) (pre : List Rn) (x : Rn) : stp m pre x 0 = stl m pre := by simp [stp]
theorem stp_len (m : Nat) (pre : List Rn) (x : Rn) (t : Nat) : (stp m pre x t).length = (stl m pre).length + t := by simp [stp]
theorem stp_next (m : Nat) (pre : List Rn) (x : Rn) (t : Nat) : stp m pre x (t + 1) = stp m pre x t ++ [(x.1.1 : Int) + (t : Int)] := by
  simp [stp, List.range_succ]
theorem stl_sts {L : List Int} {m : Nat} {ys : List Rn} (h : rv ys = rns L 0 0) : stl m ys = (sts L m).map Int.ofNat := by
  unfold stl sts; rw [h]
theorem own_ne {W : World} {base k size : Nat} {e : TypeId} {v : Value} {xs : List Value} (h : W.ownsRow base e size v k xs) {b : Nat} (hb : b < base) : some b ≠ v.ownBlock := by
  intro hg
  rcases h.2 with ⟨rfl, _⟩ | ⟨g, cap, cur, rfl, hh, _⟩
  · cases hg
  · injection hg with hg
    have : b = g := hg
    omega
theorem own_nd {W : World} {base k size : Nat} {e : TypeId} {v : Value} {xs : List Value} (h : W.ownsRow base e size v k xs) {b : Nat} {o : Obj} (hb : W.heap[b]? = some o) (ho : o.isCells = false) : some b ≠ v.ownBlock := by
  intro hg
  rcases h.2 with ⟨rfl, _⟩ | ⟨g, cap, cur, rfl, _, hh, _⟩
  · cases hg
  · injection hg with hg
    have : b = g := hg
    subst this
    rw [hb] at hh
    cases hh
    cases ho
theorem own_lo {w : World} {base base' size n : Nat} {e : TypeId} {v : Value} {xs : List Value} (h : w.ownsRow base e size v n xs) (hb : base' ≤ base) : w.ownsRow base' e size v n xs := by
  refine ⟨h.1, ?_⟩
  rcases h.2 with hn | ⟨g, cap, cur, rfl, hbb, rest⟩
  · exact .inl hn
  · exact .inr ⟨g, cap, cur, rfl, by omega, rest⟩
theorem cell_lt {W : World} {b k : Nat} {v : Value} (h : W.cell? ⟨b, k, none⟩ = some v) : b < W.heap.size := by
  obtain ⟨o, ho, _⟩ := cells_of_cell h
  exact (Array.getElem?_eq_some_iff.1 ho).1
theorem own_blk_ne {w : World} {base g : Nat} {e t : TypeId} {cs : Array Value} {size n : Nat} {v : Value} {xs : List Value} (h : w.ownsRow base e size v n xs) (hg : Bk w g t cs) (hne : e ≠ t) : v.ownBlock ≠ some g := by
  rcases h.2 with ⟨rfl, _⟩ | ⟨g', cap, cur, rfl, _, hh, _⟩
  · simp [Value.ownBlock]
  · intro he
    have : g' = g := by simpa [Value.ownBlock] using he
    subst this
    unfold Bk at hg
    rw [hg] at hh
    injection hh with hh
    injection hh with _ ht
    exact hne ht.symm
theorem bk_own {g : Nat} {t : TypeId} {cs : Array Value} {B : Nat} {A W : World} {row : Option Nat} (h : Bk A g t cs) (hg : A.grownBy W row) (hr : ∀ r, row = some r → B ≤ r ∧ ∃ o : Obj, A.heap[r]? = some o ∧ o.isCells = false) : Bk W g t cs :=
  (hg.block g h.lt (fun e => by
    obtain ⟨_, o, ho, hc⟩ := hr g e.symm
    unfold Bk at h
    rw [h] at ho
    cases ho
    cases hc)).trans h
set_option maxRecDepth 100000 in
set_option maxHeartbeats 4000000 in
theorem starts_in (st sp : Int) (A : Option Addr) (n c m : Nat) (L : List Int) (h : Sb st sp n) (hs : Sv L) (m1 : 1 ≤ m) (m2 : m ≤ 300) (w : World) (hz : Zi w A n L) :
    CallsIn Fence.wide 3 Try.prog 12 #[.agg #[.int .i64 st, .int .i64 sp, .slice A n c], .int .i64 (m : Int)] w fun e W' => ∃ v, e = .returned v ∧ W'.ownsRow w.heap.size 3 1 v (sts L m).length (zs ((sts L m).map Int.ofNat)) ∧ Below w.heap.size w W' := by
  have VA : Hid (∀ W, Zi W A n L → _) := fun W hW => valid_ok st sp A n c L h hs W hW
  have HZ := Lib.hid hz
  have n2 : n ≤ 2000 := h.2.2.2.2
  have HK1 := Lib.hid ((Bk.nw w 24 #[.int .i64 st, .int .i64 sp, .slice A n c]).al (.cells #[.int .i64 (m : Int)] 3))
  have HK2 := Lib.hid (Bk.nq (w.alloc (.cells #[.int .i64 st, .int .i64 sp, .slice A n c] 24)) 3 #[.int .i64 (m : Int)] (g := w.heap.size + 1) (by simp))
  obtain ⟨i0, hi, hz0, hz1, hz2⟩ := info_parts info_int
  have HI := Lib.hid (And.intro hi (And.intro hz0 (And.intro hz1 hz2)))
  have mi1 : 1 ≤ (m : Int) := by omega
  have mi2 : (m : Int) ≤ 300 := by omega
  have md : decide ((m : Int) < 1) = false := decide_eq_false (by omega)
  clear hz h hs hi hz0 hz1 hz2
  refine callsIn_of_wp_marks Try.func12 rfl trivial ?_ rfl
  simp only [Try.ntmps12, List.size_toArray, List.length_cons, List.length_nil, Nat.reduceAdd, Nat.reduceSub, Array.replicate_succ, Array.replicate_zero, List.push_toArray, List.append_toArray, List.nil_append, List.cons_append]
  have fV : Fence.wide.fn 25 := trivial
  have fR : Fence.wide.fn 27 := trivial
  gi_wp2_with (first
    | (gi_at_call 25; refine (callsIn_wide.2 (VA.out _ (HZ.out.bel ((Bel.rf.al _).al _)))).mono ?_; rintro e w2 ⟨rfl, hb2⟩; have B1 := HK1.out.bel hb2; have B2 := HK2.out.bel hb2; have d0 := B1.cell 0; have d1 := B1.cell 1; have d2 := B1.cell 2; have dl := B1.lt; have d3 := B2.cell 0; have dl2 := B2.lt; have HB1 := Lib.hid B1; have HB2 := Lib.hid B2; clear B1 B2)
    | (gi_at_call 27; refine (callsIn_wide.2 (runs_ok A n c _)).mono ?_; rintro e w3 ⟨rfl, rfl⟩))
  have hsz : w.heap.size + 2 ≤ w2.heap.size := by have := hb2.size; simp at this; omega
  have hbw2 : Bel w w2 := ((Bel.rf.al _).al _).tr hb2
  have hzw := HZ.out.bel hbw2
  have hne : 0 < n → ∀ ad, A = some ad → ad.block ≠ w2.heap.size := fun h ad e => by have := zi_lt HZ.out ad h e; omega
  have cm2 : w2.cell? ⟨w.heap.size + 1, 0, none⟩ = some (.int .i64 (m : Int)) := HB2.out.cell 0
  clear d0 d1 d2 d3 dl dl2 md hb2
  have bO := Boxed.new w2 22 (.slice none 0 0)
  have bX := Boxed.new (w2.alloc (.cells #[.slice none 0 0] 22)) 22 (.slice A n c)
  simp only [World.size_alloc] at bX
  have hB0 : Below w.heap.size w ((w2.alloc (.cells #[.slice none 0 0] 22)).alloc (.cells #[.slice A n c] 22)) := ((hbw2.al _).al _).bl
  refine wpIn_rangeFunc_ownH rfl (by omega) (gf := 39) (lb := #[.pointer (some ⟨w2.heap.size + 1, 0, none⟩)]) rfl trivial (enters_of Try.func39 (by kernel_rfl) rfl)
    (runs_stops 2 (by omega) w2.heap.size (w2.heap.size + 1) A c n L (by omega) _ (by simp) (by omega) bX.cell ((hzw.bel (Bel.rf.al _)).bel (Bel.rf.al _)) hne) kq_t (fun W l o o' hl h2 h3 h4 => kq_b W l o o' hl h2) (Below.refl _ _) (fun _ => rfl)
    (fun pre W => ((∃ v, Boxed W w2.heap.size 22 v ∧ W.ownsRow (w2.heap.size + 2) 3 1 v (stl m pre).length (zs (stl m pre)) ∧ True) ∧ w2.heap.size + 2 ≤ W.heap.size) ∧ Below w2.heap.size w2 W)
    (fun _ _ _ => False)
    (OwnFrom.and (OwnFrom.and (Own.from (holdsRow_own (w2.heap.size + 2) w2.heap.size 22 3 1 (fun pre => (stl m pre).length) (fun pre => zs (stl m pre)) (fun _ _ => True)) _) (fun s A B row h hg hr => Nat.le_trans h hg.size)) (ownFrom_below (Nat.le_refl _) (by simp; omega)))
    (fun _ _ _ _ _ hs _ _ => hs)
    ⟨⟨⟨_, bO.alloc _, World.ownsRow_nil _ _ _ _, trivial⟩, by simp⟩, ((Bel.rf.al _).al _).bl⟩
    (fun x a' W => ∃ Bx, w2.heap.size + 2 ≤ Bx ∧ Bk W Bx 31 #[.int .i64 (x.1.1 : Int), .int .i64 (x.1.2 : Int)] ∧ a' = { tmps := #[.agg #[.int .i64 st, .int .i64 sp, .slice A n c], .int .i64 (m : Int), .pointer (some ⟨w.heap.size, 0, none⟩), .pointer (some ⟨w.heap.size + 1, 0, none⟩), .slice none 0 0, .pointer (some ⟨w2.heap.size, 0, none⟩), .pointer (some ⟨Bx, 0, none⟩), undef, .agg #[.int .i64 st, .int .i64 sp, .slice A n c], .bool true, .bool false, .bool false, .int .i64 (m : Int), .bool false, .bool false, .pointer (some ⟨w.heap.size, 2, none⟩), .slice A n c, .func (.func 39) #[] #[.pointer (some ⟨w2.heap.size + 1, 0, none⟩)], .agg #[.int .i64 (x.1.1 : Int), .int .i64 (x.1.2 : Int)], undef, undef, undef, undef, undef, undef, undef, undef, undef, undef, undef, undef, undef, undef, undef, undef, undef, undef], defers := [] })
    (fun x a' _ A B row hs hg hr => by obtain ⟨Bx, q1, q2, q3⟩ := hs; exact ⟨Bx, q1, bk_own q2 hg hr, q3⟩)
    ?assign ?body ?done ?stop
  case assign =>
    rintro l pre x W K ⟨⟨⟨v, hv, hrow, _⟩, hsz2⟩, hB⟩ hK
    have hvl := hv.lt
    unfold encr
    gi_wp2
    have hbw : Below (w2.heap.size + 2) W (W.alloc (.cells #[.int .i64 (x.1.1 : Int), .int .i64 (x.1.2 : Int)] 31)) := (Below.refl _ W).alloc hsz2 _
    exact hK _ _ ((KeepsOthers.alloc _ _).from _) (by have := kq_bl (Bo := w2.heap.size) hbw hsz2; simpa using this) ⟨⟨⟨v, hv.alloc _, hrow.alloc _, trivial⟩, by simp; omega⟩, hB.alloc hB.size _⟩ ⟨W.heap.size, hsz2, Bk.nw _ _ _, rfl⟩
  case body =>
    rintro l pre x a' W hl ⟨r, hr⟩ ⟨⟨⟨v, hv, hrow, _⟩, hsz2⟩, hB⟩ ⟨Bx, hBx, hkx, rfl⟩ hlt
    have cm : W.cell? ⟨w.heap.size + 1, 0, none⟩ = some (.int .i64 (m : Int)) := Bel.kp hB cm2
    have hx3 := x.2
    have hpl := stl_len m pre
    have hal := stp_all m pre x
    have hze := stp_zero m pre x
    have hln := stp_len m pre x
    have hnx := stp_next m pre x
    obtain ⟨x1, hx1⟩ : ∃ y, x.1.1 = y := ⟨_, rfl⟩
    obtain ⟨x2, hx2⟩ : ∃ y, x.1.2 = y := ⟨_, rfl⟩
    rw [hx1] at hkx hx3 hnx ⊢
    rw [hx2] at hkx hx3 hal ⊢
    obtain ⟨P, hP⟩ : ∃ k, (stl m pre).length = k := ⟨_, rfl⟩
    rw [hP] at hrow hpl hln
    have hcx : W.cell? ⟨Bx, 0, none⟩ = some (.int .i64 (x1 : Int)) := hkx.cell 0
    have hcy : W.cell? ⟨Bx, 1, none⟩ = some (.int .i64 (x2 : Int)) := hkx.cell 1
    obtain ⟨q, hq⟩ : ∃ q, x2 + 1 - m = q := ⟨_, rfl⟩
    rw [hq] at hal
    have bx1 : (x1 : Int) ≤ 3000 := by omega
    have bx2 : (x2 : Int) ≤ 3000 := by omega
    have hPb : P + 3001 ≤ 9000000 := by omega
    have HX := Lib.hid (And.intro hal (And.intro hze (And.intro hln (And.intro hnx (And.intro hx1 (And.intro hx2 hP))))))
    have HV := Lib.hid (And.intro hv (And.intro hrow (And.intro hsz2 (And.intro hB hkx))))
    clear hal hze hln hnx hx1 hx2 hP hv hrow hsz2 hB hkx hr hlt hpl
    rcases Nat.lt_or_ge x2 m with hlm | hge
    · have h0 : (x2 : Int) - (m : Int) + 1 ≤ 0 := by omega
      have hq0 : q = 0 := by omega
      subst hq0
      clear hq
      gi_wp2
      gi_loopw [25] (fun s25 wr => s25 = .int .i64 0 ∧ W = wr) (fun _ _ => 0)
      case atStart => exact ⟨rfl, rfl⟩
      case round =>
        obtain ⟨rfl, rfl⟩ := hrel
        gi_wp2
        obtain ⟨hv, hrow, hsz2, hB, hkx⟩ := HV.out
        have hal := HX.out.1
        rw [HX.out.2.1] at hal
        refine ⟨(KeepsOthers.refl _).from _, ⟨fun _ _ _ => rfl, by simpa using hsz2⟩, ⟨⟨_, hv, ?_, trivial⟩, hsz2⟩, hB⟩
        rw [← hal, HX.out.2.2.2.2.2.2]
        exact hrow
    · have hqi : (x2 : Int) - (m : Int) + 1 = (q : Int) := by omega
      have hq3 : q ≤ 3001 := by omega
      clear hq
      have HR0 : Hid (∃ (t : Nat) (V : World) (v' : Value), V = W ∧ t ≤ q ∧ (Value.int .i64 0) = .int .i64 (t : Int) ∧ Boxed V w2.heap.size 22 v' ∧ V.ownsRow (w2.heap.size + 2) 3 1 v' (P + t) (zs (stp m pre x t)) ∧ Below w2.heap.size w2 V ∧ w2.heap.size + 2 ≤ V.heap.size ∧ KeepsOthers W V ∧ Kq (w2.heap.size + 2) w2.heap.size W V ∧ Bk V Bx 31 #[.int .i64 (x1 : Int), .int .i64 (x2 : Int)]) := by
        obtain ⟨hv, hrow, hsz2, hB, hkx⟩ := HV.out
        exact ⟨0, _, v, rfl, Nat.zero_le _, rfl, hv, by rw [HX.out.2.1]; exact hrow, hB, hsz2, KeepsOthers.refl _, fun _ _ _ => rfl, hkx⟩
      gi_wp2
      gi_loopw [25] (fun s25 wr => ∃ (t : Nat) (V : World) (v' : Value), V = wr ∧ t ≤ q ∧ s25 = .int .i64 (t : Int) ∧ Boxed V w2.heap.size 22 v' ∧ V.ownsRow (w2.heap.size + 2) 3 1 v' (P + t) (zs (stp m pre x t)) ∧ Below w2.heap.size w2 V ∧ w2.heap.size + 2 ≤ V.heap.size ∧ KeepsOthers W V ∧ Kq (w2.heap.size + 2) w2.heap.size W V ∧ Bk V Bx 31 #[.int .i64 (x1 : Int), .int .i64 (x2 : Int)]) (fun s25 _ => q - (intOf s25).toNat)
      case atStart => exact HR0.out
      case round =>
        clear HR0 HV hcx hcy cm
        obtain ⟨t, wr, v', hwr, ht, rfl, hv, hrow, hB, hsz2, hko, hkq, hkx⟩ := hrel
        subst hwr
        rcases Nat.lt_or_ge t q with htl | htl
        · have hc := hv.cell
          have hcx : wr.cell? ⟨Bx, 0, none⟩ = some (.int .i64 (x1 : Int)) := hkx.cell 0
          have hbl := own_blk_ne hrow hkx (by decide)
          have hvl := hv.lt
          have tq : (t : Int) < (q : Int) := by omega
          have HV := Lib.hid (And.intro hv (And.intro hrow (And.intro hB (And.intro hsz2 (And.intro hko (And.intro hkq (And.intro hkx hbl)))))))
          clear hv hrow hB hsz2 hko hkq hkx hbl
          gi_wp2_with (gi_at_builtin; refine wpListIn_append_own _ rfl _ _ 22 rfl (w2.heap.size + 2) 3 i0 (.int .i64 0) 1 8 Try.underlying22 HI.out.1 HI.out.2.1 HI.out.2.2.1 HI.out.2.2.2 rfl (by decide) _ _ _ rfl (HV.out.2.1.alloc _) ⟨wr.heap.size, 0, none⟩ 1 1 [.int .i64 ((x1 : Int) + (t : Int))] rfl rfl (cell_one_new _ _ _) (by simp [Value.oneCell']) (by unfold maxLen; omega) (by omega) (by have := HV.out.2.2.2.1; simp; omega) ?_; intro v2 w1 hown' hgrow _; obtain ⟨g', cap', rfl⟩ := ownsRow_succ hown'; obtain ⟨hv1, hv2, hr2, hk2, hb2⟩ := HV.out.1.appended (by decide) (own_lo HV.out.2.1 (by omega)) HV.out.2.2.1.size (Nat.le_refl _) (own_lo hown' (by omega)) hgrow; have hc1 := hv1.cell; have hf1 := hv1.frozen; have HG := Lib.hid (And.intro hown' (And.intro hgrow (And.intro hv1 (And.intro hv2 (And.intro hk2 hb2))))); clear hown' hgrow hv1 hv2 hr2 hk2 hb2)
          go_roundw
          case rel =>
            obtain ⟨hv, hrow, hB, hsz2, hko, hkq, hkx, hbl⟩ := HV.out
            obtain ⟨hown', hgrow, hv1, hv2, hk2, hb2⟩ := HG.out
            have hne := hgrow.block
            have kc : ∀ b, b ≠ w2.heap.size → b < wr.heap.size → some b ≠ v'.ownBlock → (w1.setCell ⟨w2.heap.size, 0, none⟩ (.slice (some ⟨g', 0, none⟩) (P + t + 1) cap')).heap[b]? = wr.heap[b]? := fun b hb1 hb2 hb3 => by
              refine Eq.trans (Below.heap_setCell _ _ _ b hb1) ?_
              refine (hne b (by rw [World.size_alloc]; omega) hb3).trans ?_
              exact Below.heap_alloc _ _ _ hb2
            have hxl := hkx.lt
            refine ⟨t + 1, _, _, rfl, by omega, by go_num, hv2, ?_, hB.trans hb2, ?_, hko.trans hk2, fun b h1 h2 => (kc b h2 (by omega) (own_ne hrow h1)).trans (hkq b h1 h2), (kc Bx (by omega) hxl (fun e => hbl e.symm)).trans hkx⟩
            · rw [HX.out.2.2.2.1 t, zs_app]
              exact hown'.kept (grownBy_setCell' w1 _ _) (.inr (hv1.not_row (by decide) hown').symm)
            · have := hgrow.size
              simp [World.setCell] at *
              omega
          case measure => simp [intOf]; omega
        · obtain rfl : t = q := by omega
          have HV := Lib.hid (And.intro hv (And.intro hrow (And.intro hB (And.intro hsz2 (And.intro hko hkq)))))
          clear hv hrow hB hsz2 hko hkq hkx
          gi_wp2
          obtain ⟨hv, hrow, hB, hsz2, hko, hkq⟩ := HV.out
          refine ⟨hko.from _, ⟨by simpa using hkq, by simpa using hsz2⟩, ⟨⟨_, hv, ?_, trivial⟩, hsz2⟩, hB⟩
          have hln := HX.out.2.2.1 t
          rw [HX.out.1] at hrow hln
          rw [hln]
          exact hrow
  case done =>
    rintro D ys W hD hys ⟨⟨⟨v, hv, hrow, _⟩, hsz2⟩, hB⟩ hK
    have hc := hv.cell
    have hs := stl_sts (m := m) hys
    rw [hs, List.length_map] at hrow
    clear hs hys
    have HR := Lib.hid hrow
    have HB := Lib.hid hB
    clear hrow hB
    gi_wp2
    refine ⟨by simp, .inl ⟨_, _, rfl, run_takeDeferred hK, ?_⟩⟩
    exact ⟨_, results_tmp rfl _ _ _, _, rfl, own_lo (ownsRow_putObj HR.out _ hK rfl) (by omega), (hbw2.bl.trans (HB.out.mono (by omega))).trans (belowK_b (w := w) (Nat.le_refl _) W D _ _ (by simp at hD; omega) hK rfl rfl)⟩
  case stop =>
    rintro D c pre W _ _ h _
    exact h.elim
end Go.Proofs.Ythpmgadmefhfpaa.Se
