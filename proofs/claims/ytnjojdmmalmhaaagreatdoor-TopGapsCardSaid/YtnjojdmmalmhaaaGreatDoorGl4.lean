/- Merged: Ser3 Ser7 Bytes BitMath IntMath CodecFold CodecWidth CodecPut PackMath CodecPack CodecUnpack PackBack CrcMath SealM SgMath SgU. -/
import Derived.Test.YtnjojdmmalmhaaaGreatDoorRows
import Derived.Test.YtnjojdmmalmhaaaGreatDoorShelf
import Derived.Test.YtnjojdmmalmhaaaGreatDoorGl1
import Derived.Test.YtnjojdmmalmhaaaGreatDoorGl2
import Derived.Test.YtnjojdmmalmhaaaGreatDoorGl3
import Derived.BigQuiet
import Derived.Laws.CopyOwn
import Derived.OwnWalk
import Derived.Laws.MakeOwn
import Derived.Laws.OwnMore
import Derived.Laws.AppendOwnNone
import Derived.Deep.DeepCutAuto
import Derived.Deep.MidRow
import Derived.Deep.CutBlock
import Derived.Laws.Entries
import Derived.IntWalk
import Derived.Lib.EndianBits
import Derived.Below
import Derived.WalkLawsBesides
import Derived.WalkSpells
import Derived.Outline
import Derived.Deep.QuietTactic
import Derived.RegionTactic
import Derived.Lib.ItoaNum
import Derived.Deep.RegionHeld3
import Derived.Deep.AppendLies
import Derived.Lib.Slices
namespace Go.Proofs.YtnjojdmmalmhaaaGreatDoor.Se
open Go.RowKit Go.Shelf Wo Sr Wi
set_option linter.unusedVariables false
attribute [local go_sem] Oper.semAt_some
theorem runs_stops (d : Nat) (hd : 1 ≤ d) (Bo Bx : Nat) (A : Option Addr) (c n : Nat) (L : List Int) (hn : n ≤ 3000) (w : World) (hx1 : Bx < w.heap.size) (hx2 : Bx ≠ Bo) (hbx : w.cell? ⟨Bx, 0, none⟩ = some (.slice A n c)) (hz : Zi w A n L) (hzb : 0 < n → ∀ ad, A = some ad → ad.block ≠ Bo) :
    SeqStopsK Fence.wide d Tryz.prog 52 #[.pointer (some ⟨Bx, 0, none⟩)] encr (fun W W' => Kq w.heap.size Bo W W' ∧ w.heap.size ≤ W'.heap.size) (fun ys => rv ys = rns L 0 0) (fun _ => True) (n + 1) w := fun l J Jx W hW hJ _ hY h0 =>
  runs1_in d hd w.heap.size Bo l Bx A c n L hn J Jx W hJ hY hx1 hx2 ((hW.cell (p := ⟨Bx, 0, none⟩) hx1).trans hbx) (hz.bel hW) (fun h ad e => ⟨zi_lt hz ad h e, hzb h ad e⟩) h0
theorem kq_t {n₀ Bo : Nat} {A B C : World} (h : Kq n₀ Bo A B ∧ n₀ ≤ B.heap.size) (k : Kq n₀ Bo B C ∧ n₀ ≤ C.heap.size) : Kq n₀ Bo A C ∧ n₀ ≤ C.heap.size := ⟨fun b h1 h2 => (k.1 b h1 h2).trans (h.1 b h1 h2), k.2⟩
theorem kq_b {n₀ Bo : Nat} (W : World) (l : Nat) (o o' : Obj) (hl : n₀ ≤ l) (h : W.heap[l]? = some o) : Kq n₀ Bo W (W.putObj l o') ∧ n₀ ≤ (W.putObj l o').heap.size := ⟨fun b hb _ => by
  unfold World.putObj
  simp [show l ≠ b by omega], by
  have := (Array.getElem?_eq_some_iff.1 h).1
  unfold World.putObj
  simp; omega⟩
theorem kq_bl {n₀ Bo : Nat} {W W' : World} (h : Below n₀ W W') (hs : n₀ ≤ W.heap.size) : Kq n₀ Bo W W' ∧ n₀ ≤ W'.heap.size := ⟨fun b hb _ => h.block b hb, Nat.le_trans hs h.size⟩
/-- the starts of the runs that have come -/
def stl (m : Nat) (pre : List Rn) : List Int := ((rv pre).flatMap (ofRun m)).map Int.ofNat
theorem stl_len (m : Nat) (pre : List Rn) : (stl m pre).length ≤ pre.length * 3001 := by
  induction pre with
  | nil => simp [stl, rv]
  | cons x l ih =>
    have e : stl m (x :: l) = (ofRun m x.1).map Int.ofNat ++ stl m l := by simp [stl, rv]
    have h2 : (ofRun m x.1).length ≤ 3001 := by
      have := x.2
      simp [ofRun]; omega
    rw [e, List.length_append, List.length_map, List.length_cons]
    omega
/-- t starts of the run x behind those of pre -/
def stp (m : Nat) (pre : List Rn) (x : Rn) (t : Nat) : List Int := stl m pre ++ (List.range t).map (fun i => ((x.1.1 + i : Nat) : Int))
theorem stp_all (m : Nat) (pre : List Rn) (x : Rn) : stp m pre x (x.1.2 + 1 - m) = stl m (pre ++ [x]) := by
  simp [stp, stl, rv, ofRun]
theorem stp_zero (m : Nat) (pre : List Rn) (x : Rn) : stp m pre x 0 = stl m pre := by simp [stp]
theorem stp_len (m : Nat) (pre : List Rn) (x : Rn) (t : Nat) : (stp m pre x t).length = (stl m pre).length + t := by simp [stp]
theorem stp_next (m : Nat) (pre : List Rn) (x : Rn) (t : Nat) : stp m pre x (t + 1) = stp m pre x t ++ [(x.1.1 : Int) + (t : Int)] := by
  simp [stp, List.range_succ]
theorem stl_sts {L : List Int} {m : Nat} {ys : List Rn} (h : rv ys = rns L 0 0) : stl m ys = (sts L m).map Int.ofNat := by
  unfold stl sts; rw [h]
theorem own_ne {W : World} {base k size : Nat} {e : TypeId} {v : Value} {xs : List Value} (h : W.ownsRow base e size v k xs) {b : Nat} (hb : b < base) : some b ≠ v.ownBlock := by
  intro hg
  rcases h.2 with ⟨rfl, _⟩ | ⟨g, cap, cur, rfl, hh, _⟩
  · cases hg
  · injection hg with hg
    have : b = g := hg
    omega
theorem own_nd {W : World} {base k size : Nat} {e : TypeId} {v : Value} {xs : List Value} (h : W.ownsRow base e size v k xs) {b : Nat} {o : Obj} (hb : W.heap[b]? = some o) (ho : o.isCells = false) : some b ≠ v.ownBlock := by
  intro hg
  rcases h.2 with ⟨rfl, _⟩ | ⟨g, cap, cur, rfl, _, hh, _⟩
  · cases hg
  · injection hg with hg
    have : b = g := hg
    subst this
    rw [hb] at hh
    cases hh
    cases ho
theorem own_lo {w : World} {base base' size n : Nat} {e : TypeId} {v : Value} {xs : List Value} (h : w.ownsRow base e size v n xs) (hb : base' ≤ base) : w.ownsRow base' e size v n xs := by
  refine ⟨h.1, ?_⟩
  rcases h.2 with hn | ⟨g, cap, cur, rfl, hbb, rest⟩
  · exact .inl hn
  · exact .inr ⟨g, cap, cur, rfl, by omega, rest⟩
theorem cell_lt {W : World} {b k : Nat} {v : Value} (h : W.cell? ⟨b, k, none⟩ = some v) : b < W.heap.size := by
  obtain ⟨o, ho, _⟩ := cells_of_cell h
  exact (Array.getElem?_eq_some_iff.1 ho).1
theorem own_blk_ne {w : World} {base g : Nat} {e t : TypeId} {cs : Array Value} {size n : Nat} {v : Value} {xs : List Value} (h : w.ownsRow base e size v n xs) (hg : Bk w g t cs) (hne : e ≠ t) : v.ownBlock ≠ some g := by
  rcases h.2 with ⟨rfl, _⟩ | ⟨g', cap, cur, rfl, _, hh, _⟩
  · simp [Value.ownBlock]
  · intro he
    have : g' = g := by simpa [Value.ownBlock] using he
    subst this
    unfold Bk at hg
    rw [hg] at hh
    injection hh with hh
    injection hh with _ ht
    exact hne ht.symm
theorem bk_own {g : Nat} {t : TypeId} {cs : Array Value} {B : Nat} {A W : World} {row : Option Nat} (h : Bk A g t cs) (hg : A.grownBy W row) (hr : ∀ r, row = some r → B ≤ r ∧ ∃ o : Obj, A.heap[r]? = some o ∧ o.isCells = false) : Bk W g t cs :=
  (hg.block g h.lt (fun e => by
    obtain ⟨_, o, ho, hc⟩ := hr g e.symm
    unfold Bk at h
    rw [h] at ho
    cases ho
    cases hc)).trans h
set_option maxRecDepth 100000 in
set_option maxHeartbeats 4000000 in
theorem starts_in (st sp : Int) (A : Option Addr) (n c m : Nat) (L : List Int) (h : Sb st sp n) (hs : Sv L) (m1 : 1 ≤ m) (m2 : m ≤ 300) (w : World) (hz : Zi w A n L) :
    CallsIn Fence.wide 3 Tryz.prog 10 #[.agg #[.int .i64 st, .int .i64 sp, .slice A n c], .int .i64 (m : Int)] w fun e W' => ∃ v, e = .returned v ∧ W'.ownsRow w.heap.size 3 1 v (sts L m).length (zs ((sts L m).map Int.ofNat)) ∧ Below w.heap.size w W' := by
  have VA : Hid (∀ W, Zi W A n L → _) := fun W hW => valid_ok st sp A n c L h hs W hW
  have HZ := Lib.hid hz
  have n2 : n ≤ 2000 := h.2.2.2.2
  have HK1 := Lib.hid ((Bk.nw w 24 #[.int .i64 st, .int .i64 sp, .slice A n c]).al (.cells #[.int .i64 (m : Int)] 3))
  have HK2 := Lib.hid (Bk.nq (w.alloc (.cells #[.int .i64 st, .int .i64 sp, .slice A n c] 24)) 3 #[.int .i64 (m : Int)] (g := w.heap.size + 1) (by simp))
  obtain ⟨i0, hi, hz0, hz1, hz2⟩ := info_parts info_int
  have HI := Lib.hid (And.intro hi (And.intro hz0 (And.intro hz1 hz2)))
  have mi1 : 1 ≤ (m : Int) := by omega
  have mi2 : (m : Int) ≤ 300 := by omega
  have md : decide ((m : Int) < 1) = false := decide_eq_false (by omega)
  clear hz h hs hi hz0 hz1 hz2
  refine callsIn_of_wp_marks Tryz.func10 rfl trivial ?_ rfl
  simp only [Tryz.ntmps10, List.size_toArray, List.length_cons, List.length_nil, Nat.reduceAdd, Nat.reduceSub, Array.replicate_succ, Array.replicate_zero, List.push_toArray, List.append_toArray, List.nil_append, List.cons_append]
  have fV : Fence.wide.fn 24 := trivial
  have fR : Fence.wide.fn 29 := trivial
  gi_wp2_with (first
    | (gi_at_call 24; refine (callsIn_wide.2 (VA.out _ (HZ.out.bel ((Bel.rf.al _).al _)))).mono ?_; rintro e w2 ⟨rfl, hb2⟩; have B1 := HK1.out.bel hb2; have B2 := HK2.out.bel hb2; have d0 := B1.cell 0; have d1 := B1.cell 1; have d2 := B1.cell 2; have dl := B1.lt; have d3 := B2.cell 0; have dl2 := B2.lt; have HB1 := Lib.hid B1; have HB2 := Lib.hid B2; clear B1 B2)
    | (gi_at_call 29; refine (callsIn_wide.2 (runs_ok A n c _)).mono ?_; rintro e w3 ⟨rfl, rfl⟩))
  have hsz : w.heap.size + 2 ≤ w2.heap.size := by have := hb2.size; simp at this; omega
  have hbw2 : Bel w w2 := ((Bel.rf.al _).al _).tr hb2
  have hzw := HZ.out.bel hbw2
  have hne : 0 < n → ∀ ad, A = some ad → ad.block ≠ w2.heap.size := fun h ad e => by have := zi_lt HZ.out ad h e; omega
  have cm2 : w2.cell? ⟨w.heap.size + 1, 0, none⟩ = some (.int .i64 (m : Int)) := HB2.out.cell 0
  clear d0 d1 d2 d3 dl dl2 md hb2
  have bO := Boxed.new w2 22 (.slice none 0 0)
  have bX := Boxed.new (w2.alloc (.cells #[.slice none 0 0] 22)) 22 (.slice A n c)
  simp only [World.size_alloc] at bX
  have hB0 : Below w.heap.size w ((w2.alloc (.cells #[.slice none 0 0] 22)).alloc (.cells #[.slice A n c] 22)) := ((hbw2.al _).al _).bl
  refine wpIn_rangeFunc_ownH rfl (by omega) (gf := 52) (lb := #[.pointer (some ⟨w2.heap.size + 1, 0, none⟩)]) rfl trivial (enters_of Tryz.func52 (by kernel_rfl) rfl)
    (runs_stops 2 (by omega) w2.heap.size (w2.heap.size + 1) A c n L (by omega) _ (by simp) (by omega) bX.cell ((hzw.bel (Bel.rf.al _)).bel (Bel.rf.al _)) hne) kq_t (fun W l o o' hl h2 h3 h4 => kq_b W l o o' hl h2) (Below.refl _ _) (fun _ => rfl)
    (fun pre W => ((∃ v, Boxed W w2.heap.size 22 v ∧ W.ownsRow (w2.heap.size + 2) 3 1 v (stl m pre).length (zs (stl m pre)) ∧ True) ∧ w2.heap.size + 2 ≤ W.heap.size) ∧ Below w2.heap.size w2 W)
    (fun _ _ _ => False)
    (OwnFrom.and (OwnFrom.and (Own.from (holdsRow_own (w2.heap.size + 2) w2.heap.size 22 3 1 (fun pre => (stl m pre).length) (fun pre => zs (stl m pre)) (fun _ _ => True)) _) (fun s A B row h hg hr => Nat.le_trans h hg.size)) (ownFrom_below (Nat.le_refl _) (by simp; omega)))
    (fun _ _ _ _ _ hs _ _ => hs)
    ⟨⟨⟨_, bO.alloc _, World.ownsRow_nil _ _ _ _, trivial⟩, by simp⟩, ((Bel.rf.al _).al _).bl⟩
    (fun x a' W => ∃ Bx, w2.heap.size + 2 ≤ Bx ∧ Bk W Bx 69 #[.int .i64 (x.1.1 : Int), .int .i64 (x.1.2 : Int)] ∧ a' = { tmps := #[.agg #[.int .i64 st, .int .i64 sp, .slice A n c], .int .i64 (m : Int), .pointer (some ⟨w.heap.size, 0, none⟩), .pointer (some ⟨w.heap.size + 1, 0, none⟩), .slice none 0 0, .pointer (some ⟨w2.heap.size, 0, none⟩), .pointer (some ⟨Bx, 0, none⟩), undef, .agg #[.int .i64 st, .int .i64 sp, .slice A n c], .bool true, .bool false, .bool false, .int .i64 (m : Int), .bool false, .bool false, .pointer (some ⟨w.heap.size, 2, none⟩), .slice A n c, .func (.func 52) #[] #[.pointer (some ⟨w2.heap.size + 1, 0, none⟩)], .agg #[.int .i64 (x.1.1 : Int), .int .i64 (x.1.2 : Int)], undef, undef, undef, undef, undef, undef, undef, undef, undef, undef, undef, undef, undef, undef, undef, undef, undef, undef], defers := [] })
    (fun x a' _ A B row hs hg hr => by obtain ⟨Bx, q1, q2, q3⟩ := hs; exact ⟨Bx, q1, bk_own q2 hg hr, q3⟩)
    ?assign ?body ?done ?stop
  case assign =>
    rintro l pre x W K ⟨⟨⟨v, hv, hrow, _⟩, hsz2⟩, hB⟩ hK
    have hvl := hv.lt
    unfold encr
    gi_wp2
    have hbw : Below (w2.heap.size + 2) W (W.alloc (.cells #[.int .i64 (x.1.1 : Int), .int .i64 (x.1.2 : Int)] 69)) := (Below.refl _ W).alloc hsz2 _
    exact hK _ _ ((KeepsOthers.alloc _ _).from _) (by have := kq_bl (Bo := w2.heap.size) hbw hsz2; simpa using this) ⟨⟨⟨v, hv.alloc _, hrow.alloc _, trivial⟩, by simp; omega⟩, hB.alloc hB.size _⟩ ⟨W.heap.size, hsz2, Bk.nw _ _ _, rfl⟩
  case body =>
    rintro l pre x a' W hl ⟨r, hr⟩ ⟨⟨⟨v, hv, hrow, _⟩, hsz2⟩, hB⟩ ⟨Bx, hBx, hkx, rfl⟩ hlt
    have cm : W.cell? ⟨w.heap.size + 1, 0, none⟩ = some (.int .i64 (m : Int)) := Bel.kp hB cm2
    have hx3 := x.2
    have hpl := stl_len m pre
    have hal := stp_all m pre x
    have hze := stp_zero m pre x
    have hln := stp_len m pre x
    have hnx := stp_next m pre x
    obtain ⟨x1, hx1⟩ : ∃ y, x.1.1 = y := ⟨_, rfl⟩
    obtain ⟨x2, hx2⟩ : ∃ y, x.1.2 = y := ⟨_, rfl⟩
    rw [hx1] at hkx hx3 hnx ⊢
    rw [hx2] at hkx hx3 hal ⊢
    obtain ⟨P, hP⟩ : ∃ k, (stl m pre).length = k := ⟨_, rfl⟩
    rw [hP] at hrow hpl hln
    have hcx : W.cell? ⟨Bx, 0, none⟩ = some (.int .i64 (x1 : Int)) := hkx.cell 0
    have hcy : W.cell? ⟨Bx, 1, none⟩ = some (.int .i64 (x2 : Int)) := hkx.cell 1
    obtain ⟨q, hq⟩ : ∃ q, x2 + 1 - m = q := ⟨_, rfl⟩
    rw [hq] at hal
    have bx1 : (x1 : Int) ≤ 3000 := by omega
    have bx2 : (x2 : Int) ≤ 3000 := by omega
    have hPb : P + 3001 ≤ 9000000 := by omega
    have HX := Lib.hid (And.intro hal (And.intro hze (And.intro hln (And.intro hnx (And.intro hx1 (And.intro hx2 hP))))))
    have HV := Lib.hid (And.intro hv (And.intro hrow (And.intro hsz2 (And.intro hB hkx))))
    clear hal hze hln hnx hx1 hx2 hP hv hrow hsz2 hB hkx hr hlt hpl
    rcases Nat.lt_or_ge x2 m with hlm | hge
    · have h0 : (x2 : Int) - (m : Int) + 1 ≤ 0 := by omega
      have hq0 : q = 0 := by omega
      subst hq0
      clear hq
      gi_wp2
      gi_loopw [25] (fun s25 wr => s25 = .int .i64 0 ∧ W = wr) (fun _ _ => 0)
      case atStart => exact ⟨rfl, rfl⟩
      case round =>
        obtain ⟨rfl, rfl⟩ := hrel
        gi_wp2
        obtain ⟨hv, hrow, hsz2, hB, hkx⟩ := HV.out
        have hal := HX.out.1
        rw [HX.out.2.1] at hal
        refine ⟨(KeepsOthers.refl _).from _, ⟨fun _ _ _ => rfl, by simpa using hsz2⟩, ⟨⟨_, hv, ?_, trivial⟩, hsz2⟩, hB⟩
        rw [← hal, HX.out.2.2.2.2.2.2]
        exact hrow
    · have hqi : (x2 : Int) - (m : Int) + 1 = (q : Int) := by omega
      have hq3 : q ≤ 3001 := by omega
      clear hq
      have HR0 : Hid (∃ (t : Nat) (V : World) (v' : Value), V = W ∧ t ≤ q ∧ (Value.int .i64 0) = .int .i64 (t : Int) ∧ Boxed V w2.heap.size 22 v' ∧ V.ownsRow (w2.heap.size + 2) 3 1 v' (P + t) (zs (stp m pre x t)) ∧ Below w2.heap.size w2 V ∧ w2.heap.size + 2 ≤ V.heap.size ∧ KeepsOthers W V ∧ Kq (w2.heap.size + 2) w2.heap.size W V ∧ Bk V Bx 69 #[.int .i64 (x1 : Int), .int .i64 (x2 : Int)]) := by
        obtain ⟨hv, hrow, hsz2, hB, hkx⟩ := HV.out
        exact ⟨0, _, v, rfl, Nat.zero_le _, rfl, hv, by rw [HX.out.2.1]; exact hrow, hB, hsz2, KeepsOthers.refl _, fun _ _ _ => rfl, hkx⟩
      gi_wp2
      gi_loopw [25] (fun s25 wr => ∃ (t : Nat) (V : World) (v' : Value), V = wr ∧ t ≤ q ∧ s25 = .int .i64 (t : Int) ∧ Boxed V w2.heap.size 22 v' ∧ V.ownsRow (w2.heap.size + 2) 3 1 v' (P + t) (zs (stp m pre x t)) ∧ Below w2.heap.size w2 V ∧ w2.heap.size + 2 ≤ V.heap.size ∧ KeepsOthers W V ∧ Kq (w2.heap.size + 2) w2.heap.size W V ∧ Bk V Bx 69 #[.int .i64 (x1 : Int), .int .i64 (x2 : Int)]) (fun s25 _ => q - (intOf s25).toNat)
      case atStart => exact HR0.out
      case round =>
        clear HR0 HV hcx hcy cm
        obtain ⟨t, wr, v', hwr, ht, rfl, hv, hrow, hB, hsz2, hko, hkq, hkx⟩ := hrel
        subst hwr
        rcases Nat.lt_or_ge t q with htl | htl
        · have hc := hv.cell
          have hcx : wr.cell? ⟨Bx, 0, none⟩ = some (.int .i64 (x1 : Int)) := hkx.cell 0
          have hbl := own_blk_ne hrow hkx (by decide)
          have hvl := hv.lt
          have tq : (t : Int) < (q : Int) := by omega
          have HV := Lib.hid (And.intro hv (And.intro hrow (And.intro hB (And.intro hsz2 (And.intro hko (And.intro hkq (And.intro hkx hbl)))))))
          clear hv hrow hB hsz2 hko hkq hkx hbl
          gi_wp2_with (gi_at_builtin; refine wpListIn_append_own _ rfl _ _ 22 rfl (w2.heap.size + 2) 3 i0 (.int .i64 0) 1 8 Tryz.underlying22 HI.out.1 HI.out.2.1 HI.out.2.2.1 HI.out.2.2.2 rfl (by decide) _ _ _ rfl (HV.out.2.1.alloc _) ⟨wr.heap.size, 0, none⟩ 1 1 [.int .i64 ((x1 : Int) + (t : Int))] rfl rfl (cell_one_new _ _ _) (by simp [Value.oneCell']) (by unfold maxLen; omega) (by omega) (by have := HV.out.2.2.2.1; simp; omega) ?_; intro v2 w1 hown' hgrow _; obtain ⟨g', cap', rfl⟩ := ownsRow_succ hown'; obtain ⟨hv1, hv2, hr2, hk2, hb2⟩ := HV.out.1.appended (by decide) (own_lo HV.out.2.1 (by omega)) HV.out.2.2.1.size (Nat.le_refl _) (own_lo hown' (by omega)) hgrow; have hc1 := hv1.cell; have hf1 := hv1.frozen; have HG := Lib.hid (And.intro hown' (And.intro hgrow (And.intro hv1 (And.intro hv2 (And.intro hk2 hb2))))); clear hown' hgrow hv1 hv2 hr2 hk2 hb2)
          go_roundw
          case rel =>
            obtain ⟨hv, hrow, hB, hsz2, hko, hkq, hkx, hbl⟩ := HV.out
            obtain ⟨hown', hgrow, hv1, hv2, hk2, hb2⟩ := HG.out
            have hne := hgrow.block
            have kc : ∀ b, b ≠ w2.heap.size → b < wr.heap.size → some b ≠ v'.ownBlock → (w1.setCell ⟨w2.heap.size, 0, none⟩ (.slice (some ⟨g', 0, none⟩) (P + t + 1) cap')).heap[b]? = wr.heap[b]? := fun b hb1 hb2 hb3 => by
              refine Eq.trans (Below.heap_setCell _ _ _ b hb1) ?_
              refine (hne b (by rw [World.size_alloc]; omega) hb3).trans ?_
              exact Below.heap_alloc _ _ _ hb2
            have hxl := hkx.lt
            refine ⟨t + 1, _, _, rfl, by omega, by go_num, hv2, ?_, hB.trans hb2, ?_, hko.trans hk2, fun b h1 h2 => (kc b h2 (by omega) (own_ne hrow h1)).trans (hkq b h1 h2), (kc Bx (by omega) hxl (fun e => hbl e.symm)).trans hkx⟩
            · rw [HX.out.2.2.2.1 t, zs_app]
              exact hown'.kept (grownBy_setCell' w1 _ _) (.inr (hv1.not_row (by decide) hown').symm)
            · have := hgrow.size
              simp [World.setCell] at *
              omega
          case measure => simp [intOf]; omega
        · obtain rfl : t = q := by omega
          have HV := Lib.hid (And.intro hv (And.intro hrow (And.intro hB (And.intro hsz2 (And.intro hko hkq)))))
          clear hv hrow hB hsz2 hko hkq hkx
          gi_wp2
          obtain ⟨hv, hrow, hB, hsz2, hko, hkq⟩ := HV.out
          refine ⟨hko.from _, ⟨by simpa using hkq, by simpa using hsz2⟩, ⟨⟨_, hv, ?_, trivial⟩, hsz2⟩, hB⟩
          have hln := HX.out.2.2.1 t
          rw [HX.out.1] at hrow hln
          rw [hln]
          exact hrow
  case done =>
    rintro D ys W hD hys ⟨⟨⟨v, hv, hrow, _⟩, hsz2⟩, hB⟩ hK
    have hc := hv.cell
    have hs := stl_sts (m := m) hys
    rw [hs, List.length_map] at hrow
    clear hs hys
    have HR := Lib.hid hrow
    have HB := Lib.hid hB
    clear hrow hB
    gi_wp2
    refine ⟨by simp, .inl ⟨_, _, rfl, run_takeDeferred hK, ?_⟩⟩
    exact ⟨_, results_tmp rfl _ _ _, _, rfl, own_lo (ownsRow_putObj HR.out _ hK rfl) (by omega), (hbw2.bl.trans (HB.out.mono (by omega))).trans (belowK_b (w := w) (Nat.le_refl _) W D _ _ (by simp at hD; omega) hK rfl rfl)⟩
  case stop =>
    rintro D c pre W _ _ h _
    exact h.elim
end Go.Proofs.YtnjojdmmalmhaaaGreatDoor.Se
namespace Go.Proofs.YtnjojdmmalmhaaaGreatDoor.Se
open Go.ChangeShapes Go.WideShapes Go.RowKit Wo Sr Wi
set_option linter.unusedVariables false
def exL : List Int := [1, 2, 1073741824, 3, 4, 5]
theorem exL_sv : Sv exL := fun x hx => by
  simp [exL] at hx
  omega
/-- a series that was drawn -/
def SomeSer (g n : Nat) (w : World) (e : Ending) (w' : World) : Prop := ∃ (st sp : Int) (A : Option Addr) (m c : Nat) (L : List Int), e = .returned (.agg #[.int .i64 st, .int .i64 sp, .slice A m c]) ∧ 0 ≤ st ∧ st ≤ 1000 ∧ 1 ≤ sp ∧ sp ≤ 20 ∧ m ≤ n ∧ Sv L ∧ Vs w' A m c L ∧ (∀ ad, A = some ad → w.heap.size ≤ ad.block) ∧ Ok w' g ∧ Ch g w w'
theorem own_blk_ne2 {w : World} {base g : Nat} {e t : TypeId} {cs : Array Value} {size n : Nat} {v : Value} {xs : List Value} (h : w.ownsRow base e size v n xs) (hg : Bk w g t cs) (hne : e ≠ t) : v.ownBlock ≠ some g := by
  rcases h.2 with ⟨rfl, _⟩ | ⟨g', cap, cur, rfl, _, hh, _⟩
  · simp [Value.ownBlock]
  · intro he
    have : g' = g := by simpa [Value.ownBlock] using he
    subst this
    unfold Bk at hg
    rw [hg] at hh
    injection hh with hh
    injection hh with _ ht
    exact hne ht.symm
theorem sv_set {L : List Int} (h : Sv L) (k : Nat) : Sv (L.set k 1073741824) := by
  intro x hx
  rcases List.mem_or_eq_of_mem_set hx with h' | rfl
  · exact h x h'
  · exact .inr rfl
set_option maxHeartbeats 8000000 in
set_option maxRecDepth 100000 in
theorem series_any (g n : Nat) (hn : n ≤ 200) (w : World) (h : Ok w g) :
    Calls Tryz.prog 6 #[.pointer (some ⟨g, 0, none⟩), .int .i64 (n : Int)] w (SomeSer g n w) := by
  have HO0 := Lib.hid h
  have HGB := Lib.hid h.lt
  have ni : (n : Int) ≤ 200 := by omega
  have HQ0 := Lib.hid (Bk.nw w 24 #[.int .i64 0, .int .i64 0, .slice none 0 0])
  have HC0 : Hid (Ch g w (w.alloc (.cells #[.int .i64 0, .int .i64 0, .slice none 0 0] 24))) := Ch.rf.al _
  have HO1 : Hid (Ok (w.alloc (.cells #[.int .i64 0, .int .i64 0, .slice none 0 0] 24)) g) := h.bel (Bel.rf.al _)
  clear h
  go_enter Tryz.func6, Tryz.ntmps6
  go_wp2_with fail
  go_at_call 20
  refine (pick_any g (w.heap.size + 1) [0, 5, 1000] 3 (by rfl) (by decide) (by decide) (by have := HGB.out; omega) _ (HO1.out.bel (Bel.rf.al _)) (lst_new _ _ _ _ (by rfl) _ (by simp))).mono ?_
  rintro e w1 ⟨st, rfl, hst, ho, hc⟩
  have st0 : 0 ≤ st := by simp at hst; omega
  have st1 : st ≤ 1000 := by simp at hst; omega
  have HO2 := Lib.hid ho
  have HC2 : Hid (Ch g w w1) := (HC0.out.al _).tr hc
  have HQ2 : Hid (Bk w1 w.heap.size 24 #[.int .i64 0, .int .i64 0, .slice none 0 0]) := hc.bk (HQ0.out.al _) (by have := HGB.out; omega)
  clear ho hc hst
  go_wp2_with fail
  go_at_call 21
  refine (range_any g 1 20 (by decide) (by decide) (by decide) _ HO2.out).mono ?_
  rintro e w2 ⟨sp, rfl, sp0, sp1, ho, hc⟩
  have HO3 := Lib.hid ho
  have HC3 : Hid (Ch g w w2) := HC2.out.tr hc
  have HQ3 : Hid (Bk w2 w.heap.size 24 #[.int .i64 0, .int .i64 0, .slice none 0 0]) := hc.bk HQ2.out (by have := HGB.out; omega)
  clear ho hc
  go_wp2_with fail
  go_at_call 23
  refine (n_any g ((n : Int) + 1) (by omega) (by omega) _ HO3.out).mono ?_
  rintro e w3 ⟨m0, rfl, m00, m01, ho, hc⟩
  obtain ⟨m, rfl⟩ := Int.eq_ofNat_of_zero_le m00
  have HO4 := Lib.hid ho
  have HC4 : Hid (Ch g w w3) := HC3.out.tr hc
  have HQ4 : Hid (Bk w3 w.heap.size 24 #[.int .i64 0, .int .i64 0, .slice none 0 0]) := hc.bk HQ3.out (by have := HGB.out; omega)
  clear ho hc
  go_wp2_with fail
  go_at_call 22
  refine (list_any g m (by omega) _ HO4.out).mono ?_
  rintro e w4 ⟨v, L, rfl, hown, hL, hS, ho, hc⟩
  have HO5 := Lib.hid ho
  have HC5 : Hid (Ch g w w4) := HC4.out.tr hc
  have HQ5 : Hid (Bk w4 w.heap.size 24 #[.int .i64 0, .int .i64 0, .slice none 0 0]) := hc.bk HQ4.out (by have := HGB.out; omega)
  have HW5 : Hid (w4.ownsRow w.heap.size 3 1 v m (zs L)) := by
    have hh := HC4.out.sz
    refine ⟨hown.1, ?_⟩
    rcases hown.2 with hn | ⟨q, cap, cur, rfl, hbb, rest⟩
    · exact .inl hn
    · exact .inr ⟨q, cap, cur, rfl, by omega, rest⟩
  obtain ⟨A, c, rfl, hvs, hfr⟩ := own_vs HW5.out hL
  have HLS := Lib.hid (And.intro hL hS)
  have HFR := Lib.hid hfr
  have HS5 := Lib.hid (Bk.nw w4 24 #[.int .i64 st, .int .i64 sp, .slice A m c])
  have hsz := HC5.out.sz
  clear ho hc hown hL hS hvs hfr
  go_wp2_with fail
  go_at_call 20
  refine (pick_any g (w4.heap.size + 1) [0, 0, 2, 5, 12] 5 (by rfl) (by decide) (by decide) (by have := HGB.out; omega) _ ((HO5.out.bel (Bel.rf.al _)).bel (Bel.rf.al _)) (lst_new _ _ _ _ (by rfl) _ (by simp))).mono ?_
  rintro e w5 ⟨hh, rfl, hmem, ho, hc⟩
  have hh0 : 0 ≤ hh := by simp at hmem; omega
  have hh1 : hh ≤ 12 := by simp at hmem; omega
  have HO6 := Lib.hid ho
  have HC6 : Hid (Ch g w w5) := ((HC5.out.al _).al _).tr hc
  have HQ6 : Hid (Bk w5 w.heap.size 24 #[.int .i64 0, .int .i64 0, .slice none 0 0]) := hc.bk ((HQ5.out.al _).al _) (by have := HGB.out; omega)
  have HS6 : Hid (Bk w5 w4.heap.size 24 #[.int .i64 st, .int .i64 sp, .slice A m c]) := hc.bk (HS5.out.al _) (by have := HGB.out; omega)
  have HW6 : Hid (w5.ownsRow w.heap.size 3 1 (.slice A m c) m (zs L)) := own_ch (own_bel HW5.out ((Bel.rf.al _).al _)) hc HGB.out
  clear ho hc hmem
  have d2 : w5.cell? ⟨w4.heap.size, 2, none⟩ = some (.slice A m c) := HS6.out.cell 2
  have HR0 : Hid (∃ (t : Nat) (M : List Int) (V : World), V = w5 ∧ t ≤ m ∧ (Value.int .i64 0) = .int .i64 (t : Int) ∧ V.ownsRow w.heap.size 3 1 (.slice A m c) m (zs M) ∧ M.length = m ∧ Sv M ∧ Ok V g ∧ Ch g w V ∧ Bk V w4.heap.size 24 #[.int .i64 st, .int .i64 sp, .slice A m c] ∧ Bk V w.heap.size 24 #[.int .i64 0, .int .i64 0, .slice none 0 0]) :=
    ⟨0, L, _, rfl, Nat.zero_le _, rfl, HW6.out, HLS.out.1, fun x hx => .inl (HLS.out.2 x hx), HO6.out, HC6.out, HS6.out, HQ6.out⟩
  go_wp2
  go_loopw [26] (fun s26 wr => ∃ (t : Nat) (M : List Int) (V : World), V = wr ∧ t ≤ m ∧ s26 = .int .i64 (t : Int) ∧ V.ownsRow w.heap.size 3 1 (.slice A m c) m (zs M) ∧ M.length = m ∧ Sv M ∧ Ok V g ∧ Ch g w V ∧ Bk V w4.heap.size 24 #[.int .i64 st, .int .i64 sp, .slice A m c] ∧ Bk V w.heap.size 24 #[.int .i64 0, .int .i64 0, .slice none 0 0]) (fun s26 _ => m - (intOf s26).toNat)
  case atStart => exact HR0.out
  case round =>
    clear HR0 d2
    obtain ⟨t, M, wr, hwr, ht, rfl, hown, hM, hSv, hok, hch, hbs, hbq⟩ := hrel
    subst hwr
    have mi : (m : Int) ≤ 200 := by omega
    rcases Nat.lt_or_ge t m with hlt | hge
    · have ti : (t : Int) < (m : Int) := by omega
      obtain ⟨q, c', e, hcq, hbq2⟩ := row_form hown (by omega)
      injection e with e1 e2 e3
      subst e1 e3
      have hne := own_blk_ne2 hown hbs (by decide)
      have hne2 := own_blk_ne2 hown hbq (by decide)
      have n1 : w4.heap.size ≠ q := fun e => hne (by rw [e]; rfl)
      have n2 : w.heap.size ≠ q := fun e => hne2 (by rw [e]; rfl)
      have HV := Lib.hid (And.intro hown (And.intro hM (And.intro hSv (And.intro hok (And.intro hch (And.intro hbs (And.intro hbq (And.intro n1 (And.intro n2 hbq2)))))))))
      clear hown hM hSv hok hch hbs hbq hne hne2 n1 n2 hbq2
      rcases (show hh = 0 ∨ 0 < hh by omega) with h0 | h0
      · subst h0
        go_wp2
        go_roundw
        case rel => exact ⟨t + 1, M, _, rfl, by omega, by go_num, HV.out.1, HV.out.2.1, HV.out.2.2.1, HV.out.2.2.2.1, HV.out.2.2.2.2.1, HV.out.2.2.2.2.2.1, HV.out.2.2.2.2.2.2.1⟩
        case measure => simp [intOf]; omega
      · go_wp2_with fail
        go_at_call 23
        refine (n_any g hh (by omega) (by omega) _ HV.out.2.2.2.1).mono ?_
        rintro e w6 ⟨x, rfl, x0, x1, ho, hc⟩
        have HN := Lib.hid (And.intro ho hc)
        have HB6 : Hid (Bk w6 w4.heap.size 24 #[.int .i64 st, .int .i64 sp, .slice (some ⟨q, 0, none⟩) m c]) := hc.bk HV.out.2.2.2.2.2.1 (by have := HGB.out; omega)
        have HB7 : Hid (Bk w6 w.heap.size 24 #[.int .i64 0, .int .i64 0, .slice none 0 0]) := hc.bk HV.out.2.2.2.2.2.2.1 (by have := HGB.out; omega)
        have HW7 := Lib.hid (own_ch HV.out.1 hc HGB.out)
        have HC7 := Lib.hid (HV.out.2.2.2.2.1.tr hc)
        clear ho hc
        rcases (show x = 0 ∨ x ≠ 0 by omega) with hx | hx
        · subst hx
          have d2 : w6.cell? ⟨w4.heap.size, 2, none⟩ = some (.slice (some ⟨q, 0, none⟩) m c) := HB6.out.cell 2
          have zq := own_zi HW7.out HV.out.2.1
          have d3 := zq.at t hlt
          have d4 := own_fr HW7.out t
          clear zq
          go_wp2
          go_roundw
          case rel =>
            refine ⟨t + 1, M.set t 1073741824, _, rfl, by omega, by go_num, own_set HW7.out _, by rw [List.length_set]; exact HV.out.2.1, sv_set HV.out.2.2.1 t, HN.out.1.st (by show g < q; have := HGB.out; have := HV.out.2.2.2.2.2.2.2.2.2; omega) _, HC7.out.st2 (by show _ ≤ q; exact HV.out.2.2.2.2.2.2.2.2.2) _, HB6.out.far (by exact HV.out.2.2.2.2.2.2.2.1) _, HB7.out.far (by exact HV.out.2.2.2.2.2.2.2.2.1) _⟩
          case measure => simp [intOf]; omega
        · have hxb : (x == 0) = false := by simpa using hx
          go_wp2
          go_roundw
          case rel => exact ⟨t + 1, M, _, rfl, by omega, by go_num, HW7.out, HV.out.2.1, HV.out.2.2.1, HN.out.1, HC7.out, HB6.out, HB7.out⟩
          case measure => simp [intOf]; omega
    · obtain rfl : t = m := by omega
      obtain ⟨A2, c2, e, hvs, hfr⟩ := own_vs hown hM
      injection e with e1 e2 e3
      subst e1 e3
      have d0 := hbs.cell 0
      have d1 := hbs.cell 1
      have d2 := hbs.cell 2
      have dl := hbs.lt
      have q0 := hbq.cell 0
      have q1 := hbq.cell 1
      have q2 := hbq.cell 2
      have f0 := hbq.fr 0
      have f1 := hbq.fr 1
      have f2 := hbq.fr 2
      have ql := hbq.lt
      have HV := Lib.hid (And.intro hSv (And.intro hok (And.intro hch (And.intro hbq (And.intro hvs hfr)))))
      have hne2 := own_blk_ne2 hown hbq (by decide)
      have HNE := Lib.hid hne2
      clear hown hSv hok hch hbs hbq hvs hfr hne2
      go_wp2
      refine bodyPost_ret (v := .agg #[.int .i64 st, .int .i64 sp, .slice A t c]) (results_s1 Tryz.results6 _ _ w.heap.size (.int .i64 st) (.int .i64 sp) (.slice A t c) rfl (((HV.out.2.2.2.1.st 0 _).st 1 _).st 2 _)) rfl ?_
      have hf : ∀ ad, A = some ad → ad.block ≠ w.heap.size := fun ad e => by subst e; exact fun e => HNE.out (by rw [← e]; rfl)
      have hg := HGB.out
      exact ⟨st, sp, A, t, c, M, rfl, st0, st1, sp0, sp1, by omega, HV.out.1, ((HV.out.2.2.2.2.1.far (q := ⟨w.heap.size, 0, none⟩) hf _).far (q := ⟨w.heap.size, 1, none⟩) hf _).far (q := ⟨w.heap.size, 2, none⟩) hf _, HV.out.2.2.2.2.2, ((HV.out.2.1.st (p := ⟨w.heap.size, 0, none⟩) hg _).st (p := ⟨w.heap.size, 1, none⟩) hg _).st (p := ⟨w.heap.size, 2, none⟩) hg _, ((HV.out.2.2.1.st2 (p := ⟨w.heap.size, 0, none⟩) (Nat.le_refl _) _).st2 (p := ⟨w.heap.size, 1, none⟩) (Nat.le_refl _) _).st2 (p := ⟨w.heap.size, 2, none⟩) (Nat.le_refl _) _⟩
end Go.Proofs.YtnjojdmmalmhaaaGreatDoor.Se
namespace Go.Proofs.YtnjojdmmalmhaaaGreatDoor.By
open Go.ChangeShapes Go.WideShapes Go.RowKit Wo
set_option linter.unusedVariables false
/-- the values of a list of bytes -/
def bys (L : List Nat) : List Value := L.map fun c : Nat => .int .u8 (c : Int)
theorem bys_len (L : List Nat) : (bys L).length = L.length := by simp [bys]
theorem bys_app (L M : List Nat) : bys (L ++ M) = bys L ++ bys M := by simp [bys]
theorem bys_one {L : List Nat} : ∀ v ∈ bys L, v.oneCell' = true := by
  intro v hv
  simp only [bys, List.mem_map] at hv
  obtain ⟨c, _, rfl⟩ := hv
  rfl
theorem bys_at {L : List Nat} {j : Nat} (h : j < L.length) : (bys L)[j]? = some (.int .u8 (L.getD j 0 : Nat)) := by
  simp [bys, List.getD_eq_getElem?_getD, h]
/-- the slice at A of length n reads as the bytes L -/
def Rd (w : World) (A : Option Addr) (n : Nat) (L : List Nat) : Prop := L.length = n ∧ (∀ c ∈ L, c < 256) ∧ (0 < n → ∃ ad : Addr, A = some ad ∧ ad.block < w.heap.size ∧ ∀ j, j < n → w.cell? (ad.add j) = some (.int .u8 (L.getD j 0 : Nat)))
theorem add_blk (a : Addr) (n : Nat) : (a.add n).block = a.block := by unfold Addr.add; split <;> rfl
theorem Rd.bel {w w' : World} {A : Option Addr} {n : Nat} {L : List Nat} (h : Rd w A n L) (hb : Bel w w') : Rd w' A n L :=
  ⟨h.1, h.2.1, fun hn => by
    obtain ⟨ad, e, hx, hc⟩ := h.2.2 hn
    exact ⟨ad, e, by have := hb.size; omega, fun j hj => hb.kp (hc j hj)⟩⟩
theorem Rd.nil (w : World) (A : Option Addr) : Rd w A 0 [] := ⟨rfl, by simp, fun h => by omega⟩
theorem add_row (h j : Nat) : (⟨h, 0, none⟩ : Addr).add j = ⟨h, j, none⟩ := by unfold Addr.add; split <;> simp_all
theorem Rd.own {w : World} {base cap h n : Nat} {e : TypeId} {L : List Nat} (hr : w.ownsRow base e 1 (.slice (some ⟨h, 0, none⟩) n cap) n (bys L)) (hl : ∀ c ∈ L, c < 256) (hn : L.length = n) : Rd w (some ⟨h, 0, none⟩) n L := by
  refine ⟨hn, hl, fun _ => ⟨_, rfl, (hr.lt h rfl).2, fun j hj => ?_⟩⟩
  exact hr.cells (g := h) rfl j _ (bys_at (by omega))
theorem Rd.byte {w : World} {A : Option Addr} {n : Nat} {L : List Nat} (h : Rd w A n L) (j : Nat) : L.getD j 0 < 256 := by
  rw [List.getD_eq_getElem?_getD]
  rcases hj : L[j]? with _ | c
  · simp
  · exact h.2.1 c (List.mem_of_getElem? hj)
/-- 'make([]T, l, c)', the length and the capacity variables -/
theorem wpList_make_any {P : Program} (w : World) {ops : Array Oper} {rest : List Oper} {o : Oper} {a : Act} {Q : Exit → Act → World → Prop}
    (hg : o.guard = none) (l c : Operand) (t : TypeId) (hop : o.op = Op.makeSlice t l c)
    (e : TypeId) (i : TypeInfo) (z : Value) (size : Nat) (h1 : P.underlying t = some (.slice e)) (h2 : P.info? e = some i) (h3 : i.zero = some z) (h4 : i.size = size)
    (kl kc : IntKind) (L C : Int) (m n : Nat) (hl : a.eval l = .int kl L) (hc : a.eval c = .int kc C) (hL : L = (m : Int)) (hC : C = (n : Int)) (hmn : m ≤ n) (b2 : i.bytes * n ≤ 281474976710656) (b3 : n ≤ 4611686018427387904)
    (hK : wpList P ops Q rest (a.put o.dst (.slice (some ⟨w.heap.size, 0, none⟩) m n)) (w.alloc (.cells (madeCells z.cells (n * size)) e))) :
    wpList P ops Q (o :: rest) a w := by
  refine wpList_plain hg fun K hK' => ?_
  have hb' : (i.bytes : Int) * (n : Int) ≤ 281474976710656 := by
    have h : ((i.bytes * n : Nat) : Int) ≤ 281474976710656 := by omega
    rwa [Int.natCast_mul] at h
  have hr := run_make (P := P) w t e i z h1 h2 h3 kl kc m n (by omega) (by omega) hb' (by omega)
  simp only [Int.toNat_natCast] at hr
  subst hL
  subst hC
  subst h4
  unfold Oper.wp
  simp [execOp, hop, hl, hc, hr, Result.andThen]
  exact hK' _ _ hK
theorem made_u8 (n : Nat) : madeCells (Value.int .u8 0).cells (n * 1) = (bys (List.replicate n 0)).toArray := by
  apply Array.ext
  · simp [madeCells, bys]
  · intro i h1 h2
    simp [madeCells, bys, Nat.mod_one, Value.cells]
theorem bk_setCells_aux {g : Nat} {t : TypeId} (vs : List Value) : ∀ (o : Nat) (w : World) (cs : Array Value), Bk w g t cs → o + vs.length ≤ cs.size →
    ∃ cs', Bk (w.setCells g o vs) g t cs' ∧ cs'.size = cs.size ∧ (∀ j, j < vs.length → cs'[o + j]? = vs[j]?) ∧ ∀ j, j < o → cs'[j]? = cs[j]? := by
  induction vs with
  | nil => intro o w cs h hl; exact ⟨cs, h, rfl, fun j hj => by simp at hj, fun _ _ => rfl⟩
  | cons v vs ih =>
    intro o w cs h hl
    simp only [List.length_cons] at hl
    obtain ⟨cs', h1, h2, h3, h4⟩ := ih (o + 1) (w.setCell ⟨g, o, none⟩ v) (cs.setIfInBounds o v) (h.st o v) (by simp; omega)
    refine ⟨cs', h1, by simpa using h2, fun j hj => ?_, fun j hj => ?_⟩
    · rcases Nat.eq_zero_or_pos j with h0 | h0
      · subst h0
        rw [Nat.add_zero, h4 o (by omega)]
        have : o < cs.size := by omega
        simp [this]
      · obtain ⟨k, rfl⟩ : ∃ k, j = k + 1 := ⟨j - 1, by omega⟩
        rw [show o + (k + 1) = o + 1 + k by omega, h3 k (by simp at hj; omega)]
        simp
    · rw [h4 j (by omega), Array.getElem?_setIfInBounds_ne (by omega)]
theorem bk_setCells {g : Nat} {t : TypeId} {w : World} {cs ds : Array Value} (h : Bk w g t cs) (hs : ds.size = cs.size) : Bk (w.setCells g 0 ds.toList) g t ds := by
  obtain ⟨cs', h1, h2, h3, h4⟩ := bk_setCells_aux ds.toList 0 w cs h (by simp; omega)
  have : cs' = ds := by
    apply Array.ext_getElem?
    intro i
    rcases Nat.lt_or_ge i ds.size with hi | hi
    · have := h3 i (by simpa using hi)
      simpa using this
    · rw [Array.getElem?_eq_none (by omega), Array.getElem?_eq_none hi]
  rwa [this] at h1
theorem setCells_far {g : Nat} (vs : List Value) : ∀ (o : Nat) (w : World) (k : Nat), k ≠ g → (w.setCells g o vs).heap[k]? = w.heap[k]? := by
  induction vs with
  | nil => intro o w k h; rfl
  | cons v vs ih => intro o w k h; exact (ih (o + 1) _ k h).trans (Below.heap_setCell w ⟨g, o, none⟩ v k h)
theorem setCells_same {g : Nat} (vs : List Value) : ∀ (o : Nat) (w : World), (w.setCells g o vs).os = w.os ∧ (w.setCells g o vs).tape = w.tape ∧ (w.setCells g o vs).output = w.output ∧ (w.setCells g o vs).heap.size = w.heap.size := by
  induction vs with
  | nil => intro o w; exact ⟨rfl, rfl, rfl, rfl⟩
  | cons v vs ih =>
    intro o w
    obtain ⟨a, b, c, d⟩ := ih (o + 1) (w.setCell ⟨g, o, none⟩ v)
    exact ⟨a, b, c, d.trans (by simp [World.setCell])⟩
theorem bel_setCells {a b : World} {g : Nat} (h : Bel a b) (hg : a.heap.size ≤ g) (vs : List Value) : Bel a (b.setCells g 0 vs) := by
  obtain ⟨x, y, z, s⟩ := setCells_same (g := g) vs 0 b
  exact ⟨x.trans h.bl.os, y.trans h.bl.tape, z.trans h.bl.output, by rw [s]; exact h.size, fun k hk => (setCells_far vs 0 b k (by omega)).trans (h.bl.block k hk)⟩
theorem bk_there {g : Nat} {t : TypeId} {w : World} {cs : Array Value} (h : Bk w g t cs) : w.there g 0 cs.size := fun j hj => by
  rw [Nat.zero_add]
  exact ⟨by rw [h.cell j]; simp [hj], h.fr j⟩
/-- a store of a whole long array into a variable of its own -/
theorem wpList_store_big {P : Program} {ops : Array Oper} {rest : List Oper} {op : Oper} {a : Act} {w : World} {Q : Exit → Act → World → Prop} (hgd : op.guard = none) (ty : TypeId) (x y : Operand) (ho : op.op = .store ty x y)
    (g : Nat) (cells cs : Array Value) (t : TypeId) (hx : a.eval x = .pointer (some ⟨g, 0, none⟩)) (hy : a.eval y = .agg cells) (hb : Bk w g t cs) (hs : cells.size = cs.size)
    (hi : (P.info? ty).map (·.size) = some cells.size) (h1 : cells.all (·.oneCell') = true)
    (h : ∀ w', Hid (Bk w' g t cells) → Hid (∀ b, Bel b w → b.heap.size ≤ g → Bel b w') → wpList P ops Q rest (a.put op.dst undef) w') : wpList P ops Q (op :: rest) a w :=
  wpList_store_mid hgd ty x y ho g 0 cells hx hy (by rw [hs]; exact bk_there hb) hi h1 (h _ (bk_setCells hb hs) (fun b hbb hg => bel_setCells hbb hg _))
theorem Rd.src {w : World} {ad : Addr} {n : Nat} {L : List Nat} (h : Rd w (some ad) n L) : ∀ j v, (bys L)[j]? = some v → w.cell? (ad.add j) = some v := by
  intro j v hv
  have hj : j < L.length := by
    rcases Nat.lt_or_ge j L.length with h | h
    · exact h
    · rw [List.getElem?_eq_none (by rw [bys_len]; exact h)] at hv; cases hv
  obtain ⟨ad', e, _, hc⟩ := h.2.2 (by have := h.1; omega)
  cases e
  rw [bys_at hj] at hv
  cases hv
  exact hc j (by have := h.1; omega)
/-- append of a slice that reads as bytes, nil or not, to a row of the call's own -/
theorem wpList_append_rd {P : Program} {w : World} {ops : Array Oper} {rest : List Oper} {o : Oper} {a : Act} {Q : Exit → Act → World → Prop} (hgd : o.guard = none) (s x : Operand) (t : TypeId)
    (ho : o.op = .call { callee := .builtin .append, args := #[s, x], argTypes := #[t, t] })
    (base : Nat) (e : TypeId) (i : TypeInfo) (z : Value) (ht : P.underlying t = some (.slice e)) (hi : P.info? e = some i) (hz : i.zero = some z) (hsize : i.size = 1) (hby : i.bytes = 1) (hzs : z.cells.size = 1)
    (v : Value) (n : Nat) (xs : List Value) (hs : a.eval s = v) (hown : w.ownsRow base e 1 v n xs)
    (A : Option Addr) (m c : Nat) (M : List Nat) (hx : a.eval x = .slice A m c) (hr : Rd w A m M) (hn : A = none → c = 0) (hm : n + m ≤ 140737488355328) (hbase : base ≤ w.heap.size)
    (h : ∀ v' w', w'.ownsRow base e 1 v' (n + m) (xs ++ bys M) → w.grownBy w' v.ownBlock → wpList P ops Q rest (a.put o.dst v') w') : wpList P ops Q (o :: rest) a w := by
  cases A with
  | none =>
    have hm0 : m = 0 := by
      rcases Nat.eq_zero_or_pos m with h0 | h0
      · exact h0
      · obtain ⟨ad, e, _⟩ := hr.2.2 h0; cases e
    have hc0 := hn rfl
    subst hm0 hc0
    have hM : M = [] := List.eq_nil_of_length_eq_zero hr.1
    subst hM
    refine wpList_append_own_none hgd s x t ho base e i 1 ht hi v n xs hs hown hx ?_
    exact h v w (by simpa [bys] using hown) (World.grownBy.refl _ _)
  | some ad =>
    refine wpList_append_own w hgd s x t ho base e i z 1 1 ht hi hz hsize hby hzs (by decide) v n xs hs hown ad m c (bys M) hx (by rw [bys_len, hr.1]; omega) hr.src bys_one (by unfold maxLen; omega) (by omega) hbase ?_
    intro v' w' h1 h2 _
    exact h v' w' h1 h2
end Go.Proofs.YtnjojdmmalmhaaaGreatDoor.By
namespace Go.Proofs.YtnjojdmmalmhaaaGreatDoor.Bm
set_option linter.unusedVariables false
theorem wrap_id {k : IntKind} {n : Int} (h : k.wrap n = n) : k.wrap n = n := h
theorem wrap_u8 (n : Int) : IntKind.u8.wrap n = n % 256 := by simp [IntKind.wrap, IntKind.bits, IntKind.signed]
theorem xor_u32 {a b : Nat} (ha : a < 4294967296) (hb : b < 4294967296) : bits .xor .u32 (a : Int) (b : Int) = ((a ^^^ b : Nat) : Int) := by
  have hx : a ^^^ b < 4294967296 := Nat.xor_lt_two_pow (n := 32) ha hb
  show IntKind.u32.wrap (((BitVec.ofInt 32 (a : Int) ^^^ BitVec.ofInt 32 (b : Int)).toNat : Nat) : Int) = _
  rw [BitVec.ofInt_natCast, BitVec.ofInt_natCast, BitVec.toNat_xor, BitVec.toNat_ofNat, BitVec.toNat_ofNat, show (2 : Nat) ^ 32 = 4294967296 from rfl, Nat.mod_eq_of_lt ha, Nat.mod_eq_of_lt hb, IntKind.wrap_u32]
  omega
theorem xor_u8 {a b : Nat} (ha : a < 256) (hb : b < 256) : bits .xor .u8 (a : Int) (b : Int) = ((a ^^^ b : Nat) : Int) := by
  have hx : a ^^^ b < 256 := Nat.xor_lt_two_pow (n := 8) ha hb
  show IntKind.u8.wrap (((BitVec.ofInt 8 (a : Int) ^^^ BitVec.ofInt 8 (b : Int)).toNat : Nat) : Int) = _
  rw [BitVec.ofInt_natCast, BitVec.ofInt_natCast, BitVec.toNat_xor, BitVec.toNat_ofNat, BitVec.toNat_ofNat, show (2 : Nat) ^ 8 = 256 from rfl, Nat.mod_eq_of_lt ha, Nat.mod_eq_of_lt hb, wrap_u8]
  omega
theorem and1_u32 {a : Nat} (ha : a < 4294967296) : bits .and .u32 (a : Int) 1 = ((a % 2 : Nat) : Int) := by
  show IntKind.u32.wrap (((BitVec.ofInt 32 (a : Int) &&& BitVec.ofInt 32 ((1 : Nat) : Int)).toNat : Nat) : Int) = _
  rw [BitVec.ofInt_natCast, BitVec.ofInt_natCast, BitVec.toNat_and, BitVec.toNat_ofNat, BitVec.toNat_ofNat, show (2 : Nat) ^ 32 = 4294967296 from rfl, Nat.mod_eq_of_lt ha, show (1 : Nat) % 4294967296 = 1 from rfl, Nat.and_one_is_mod, IntKind.wrap_u32]
  omega
theorem and1_u64 {a : Nat} (ha : a < 18446744073709551616) : bits .and .u64 (a : Int) 1 = ((a % 2 : Nat) : Int) := by
  show IntKind.u64.wrap (((BitVec.ofInt 64 (a : Int) &&& BitVec.ofInt 64 ((1 : Nat) : Int)).toNat : Nat) : Int) = _
  rw [BitVec.ofInt_natCast, BitVec.ofInt_natCast, BitVec.toNat_and, BitVec.toNat_ofNat, BitVec.toNat_ofNat, show (2 : Nat) ^ 64 = 18446744073709551616 from rfl, Nat.mod_eq_of_lt ha, show (1 : Nat) % 18446744073709551616 = 1 from rfl, Nat.and_one_is_mod, IntKind.wrap_u64]
  omega
theorem and127_u8 {a : Nat} (ha : a < 256) : bits .and .u8 (a : Int) 127 = ((a % 128 : Nat) : Int) := by
  have key : ∀ b : Nat, b < 256 → bits .and .u8 ((b : Nat) : Int) 127 = ((b % 128 : Nat) : Int) := by decide +kernel
  exact key a ha
theorem or128_u8 {a : Nat} (ha : a < 256) : bits .or .u8 (a : Int) 128 = ((a % 128 + 128 : Nat) : Int) := by
  have key : ∀ b : Nat, b < 256 → bits .or .u8 ((b : Nat) : Int) 128 = ((b % 128 + 128 : Nat) : Int) := by decide +kernel
  exact key a ha
theorem xor_u64 {a b : Nat} (ha : a < 18446744073709551616) (hb : b < 18446744073709551616) : bits .xor .u64 (a : Int) (b : Int) = ((a ^^^ b : Nat) : Int) := by
  have hx : a ^^^ b < 18446744073709551616 := Nat.xor_lt_two_pow (n := 64) ha hb
  show IntKind.u64.wrap (((BitVec.ofInt 64 (a : Int) ^^^ BitVec.ofInt 64 (b : Int)).toNat : Nat) : Int) = _
  rw [BitVec.ofInt_natCast, BitVec.ofInt_natCast, BitVec.toNat_xor, BitVec.toNat_ofNat, BitVec.toNat_ofNat, show (2 : Nat) ^ 64 = 18446744073709551616 from rfl, Nat.mod_eq_of_lt ha, Nat.mod_eq_of_lt hb, IntKind.wrap_u64]
  omega
theorem nxor_ones (a : Nat) (ha : a < 18446744073709551616) : a ^^^ 18446744073709551615 = 18446744073709551615 - a := by
  apply Nat.eq_of_testBit_eq
  intro i
  have h1 : (18446744073709551615 : Nat) = 2 ^ 64 - 1 := rfl
  rw [Nat.testBit_xor, h1, Nat.testBit_two_pow_sub_one, show 2 ^ 64 - 1 - a = 2 ^ 64 - (a + 1) by omega, Nat.testBit_two_pow_sub_succ (by simpa using ha)]
  rcases Nat.lt_or_ge i 64 with h | h
  · simp [h]
  · have : a.testBit i = false := Nat.testBit_lt_two_pow (Nat.lt_of_lt_of_le (by simpa using ha) (Nat.pow_le_pow_right (by omega) h))
    simp [this]
theorem fold_pos {n : Int} (h0 : 0 ≤ n) (h1 : n ≤ 9223372036854775807) : bits .xor .u64 (IntKind.u64.wrap (IntKind.u64.wrap n * 2)) (IntKind.u64.wrap (n / 9223372036854775808)) = 2 * n := by
  obtain ⟨a, rfl⟩ := Int.eq_ofNat_of_zero_le h0
  rw [IntKind.wrap_u64, IntKind.wrap_u64, IntKind.wrap_u64]
  have e1 : ((a : Int) % 18446744073709551616 * 2) % 18446744073709551616 = ((2 * a : Nat) : Int) := by omega
  have e2 : ((a : Int) / 9223372036854775808) % 18446744073709551616 = ((0 : Nat) : Int) := by omega
  rw [e1, e2, xor_u64 (by omega) (by omega), Nat.xor_zero]
  omega
theorem fold_neg {n : Int} (h0 : n < 0) (h1 : -9223372036854775808 ≤ n) : bits .xor .u64 (IntKind.u64.wrap (IntKind.u64.wrap n * 2)) (IntKind.u64.wrap (n / 9223372036854775808)) = -2 * n - 1 := by
  obtain ⟨a, ha⟩ := Int.eq_ofNat_of_zero_le (show 0 ≤ -n by omega)
  rw [IntKind.wrap_u64, IntKind.wrap_u64, IntKind.wrap_u64]
  have e1 : (n % 18446744073709551616 * 2) % 18446744073709551616 = ((18446744073709551616 - 2 * a : Nat) : Int) := by omega
  have e2 : (n / 9223372036854775808) % 18446744073709551616 = ((18446744073709551615 : Nat) : Int) := by omega
  rw [e1, e2, xor_u64 (by omega) (by omega), nxor_ones _ (by omega)]
  omega
theorem unfold_even {a : Nat} (h : a ≤ 9223372036854775807) : bits .xor .i64 (a : Int) 0 = (a : Int) := by
  show IntKind.i64.wrap (((BitVec.ofInt 64 (a : Int) ^^^ BitVec.ofInt 64 0).toNat : Nat) : Int) = _
  rw [BitVec.ofInt_natCast, show BitVec.ofInt 64 0 = 0#64 from rfl, BitVec.xor_zero, BitVec.toNat_ofNat, Nat.mod_eq_of_lt (by omega)]
  exact IntWalk.i64_in _ (by omega)
theorem unfold_odd {a : Nat} (h : a ≤ 9223372036854775807) : bits .xor .i64 (a : Int) (-1) = -(a : Int) - 1 := by
  show IntKind.i64.wrap (((BitVec.ofInt 64 (a : Int) ^^^ BitVec.ofInt 64 (-1)).toNat : Nat) : Int) = _
  rw [BitVec.ofInt_natCast, show BitVec.ofInt 64 (-1) = 18446744073709551615#64 from rfl, BitVec.toNat_xor, BitVec.toNat_ofNat, BitVec.toNat_ofNat, Nat.mod_eq_of_lt (show a < 2 ^ 64 by omega), show (18446744073709551615 : Nat) % 2 ^ 64 = 18446744073709551615 from rfl, nxor_ones _ (by omega)]
  simp [IntKind.wrap, IntKind.bits, IntKind.signed]
  omega
theorem or_u64 {a : Nat} {x i : Nat} (hi : i ≤ 63) (ha : a < 2 ^ i) (hx : x % 2 ^ i = 0) (hx1 : x < 18446744073709551616) : bits .or .u64 (a : Int) (x : Int) = ((a + x : Nat) : Int) := by
  obtain ⟨y, rfl⟩ : ∃ y, x = 2 ^ i * y := ⟨x / 2 ^ i, by have := Nat.mod_add_div x (2 ^ i); omega⟩
  have hp : 2 ^ i ≤ 2 ^ 63 := Nat.pow_le_pow_right (by omega) hi
  have e : a ||| 2 ^ i * y = a + 2 ^ i * y := by
    rw [Nat.or_comm, Nat.add_comm, Nat.two_pow_add_eq_or_of_lt ha]
  have hlt : a ||| 2 ^ i * y < 18446744073709551616 := Nat.or_lt_two_pow (n := 64) (by omega) hx1
  show IntKind.u64.wrap (((BitVec.ofInt 64 (a : Int) ||| BitVec.ofInt 64 ((2 ^ i * y : Nat) : Int)).toNat : Nat) : Int) = _
  rw [BitVec.ofInt_natCast, BitVec.ofInt_natCast, BitVec.toNat_or, BitVec.toNat_ofNat, BitVec.toNat_ofNat, show (2 : Nat) ^ 64 = 18446744073709551616 from rfl, Nat.mod_eq_of_lt (show a < 18446744073709551616 by omega), Nat.mod_eq_of_lt hx1, IntKind.wrap_u64]
  omega
theorem nxor32 (a : Nat) (ha : a < 4294967296) : a ^^^ 4294967295 = 4294967295 - a := by
  apply Nat.eq_of_testBit_eq
  intro i
  have h1 : (4294967295 : Nat) = 2 ^ 32 - 1 := rfl
  rw [Nat.testBit_xor, h1, Nat.testBit_two_pow_sub_one, show 2 ^ 32 - 1 - a = 2 ^ 32 - (a + 1) by omega, Nat.testBit_two_pow_sub_succ (by simpa using ha)]
  rcases Nat.lt_or_ge i 32 with h | h
  · simp [h]
  · have : a.testBit i = false := Nat.testBit_lt_two_pow (Nat.lt_of_lt_of_le (by simpa using ha) (Nat.pow_le_pow_right (by omega) h))
    simp [this]
theorem not_u32 {r : Nat} (h : r < 4294967296) : bits .xor .u32 IntKind.u32.max (r : Int) = ((4294967295 - r : Nat) : Int) := by
  rw [show IntKind.u32.max = ((4294967295 : Nat) : Int) by decide, xor_u32 (by omega) h, Nat.xor_comm, nxor32 r h]
end Go.Proofs.YtnjojdmmalmhaaaGreatDoor.Bm
namespace Go.Proofs.YtnjojdmmalmhaaaGreatDoor.Cd
set_option linter.unusedVariables false
/-- the folded number, and back -/
def fld (n : Int) : Nat := if 0 ≤ n then (2 * n).toNat else (-2 * n - 1).toNat
def unf (u : Nat) : Int := if u % 2 = 0 then ((u / 2 : Nat) : Int) else -((u / 2 : Nat) : Int) - 1
theorem unf_fld (n : Int) : unf (fld n) = n := by unfold unf fld; split <;> split <;> omega
theorem fld_lt {n : Int} (h0 : -9223372036854775808 ≤ n) (h1 : n ≤ 9223372036854775807) : fld n < 18446744073709551616 := by unfold fld; split <;> omega
/-- the encoding of a folded number, with room for f bytes ahead of the last one -/
def enc : Nat → Nat → List Nat
  | 0, u => [u]
  | f + 1, u => if u < 128 then [u] else (u % 128 + 128) :: enc f (u / 128)
def bytesOf (n : Int) : List Nat := enc 9 (fld n)
theorem enc_small (f : Nat) {u : Nat} (h : u < 128) : enc f u = [u] := by cases f <;> simp [enc, h]
theorem enc_great (f : Nat) {u : Nat} (h : 128 ≤ u) : enc (f + 1) u = (u % 128 + 128) :: enc f (u / 128) := by rw [enc, if_neg (by omega)]
theorem enc_len (f : Nat) : ∀ u, 1 ≤ (enc f u).length ∧ (enc f u).length ≤ f + 1 := by
  induction f with
  | zero => intro u; simp [enc]
  | succ f ih =>
    intro u
    rcases Nat.lt_or_ge u 128 with h | h
    · rw [enc_small _ h]; simp
    · rw [enc_great _ h, List.length_cons]; have := ih (u / 128); omega
/-- the greatest folded number of f bytes and the last one -/
def room : Nat → Nat
  | 0 => 2
  | f + 1 => 128 * room f
theorem enc_byte (f : Nat) : ∀ u, u < room f → ∀ c ∈ enc f u, c < 256 := by
  induction f with
  | zero => intro u hu c hc; simp [enc] at hc; simp [room] at hu; omega
  | succ f ih =>
    intro u hu c hc
    simp [room] at hu
    rcases Nat.lt_or_ge u 128 with h | h
    · rw [enc_small _ h] at hc; simp at hc; omega
    · rw [enc_great _ h] at hc
      rcases List.mem_cons.1 hc with h1 | h1
      · omega
      · exact ih (u / 128) (by omega) c h1
theorem room_nine : room 9 = 18446744073709551616 := by decide
theorem enc_mono (f : Nat) : ∀ u v, u ≤ v → (enc f u).length ≤ (enc f v).length := by
  induction f with
  | zero => intro u v _; simp [enc]
  | succ f ih =>
    intro u v h
    rcases Nat.lt_or_ge u 128 with hu | hu
    · rw [enc_small _ hu]; simpa using (enc_len (f + 1) v).1
    · rw [enc_great _ hu, enc_great _ (by omega)]
      simpa using ih (u / 128) (v / 128) (by omega)
/-- what Int does from byte i of the encoding on, u being what the bytes ahead of it say -/
def decGo (B : List Nat) (at_ : Nat) : Nat → Nat → Nat → Int × Int × Int
  | 0, _, _ => (0, 0, 3)
  | f + 1, i, u =>
    if at_ + i = B.length then (0, 0, 2)
    else if 127 < B.getD (at_ + i) 0 then decGo B at_ f (i + 1) (u + B.getD (at_ + i) 0 % 128 * 128 ^ i % 18446744073709551616)
    else if (i = 9 ∧ 1 < B.getD (at_ + i) 0) ∨ (0 < i ∧ B.getD (at_ + i) 0 = 0) then (0, 0, 3)
    else (unf (u + B.getD (at_ + i) 0 % 128 * 128 ^ i % 18446744073709551616), ((at_ + i + 1 : Nat) : Int), 0)
def dec (B : List Nat) (at_ : Nat) : Int × Int × Int := decGo B at_ 10 0 0
theorem getD_drop {B L : List Nat} {k : Nat} {c : Nat} (h : B.drop k = c :: L) : k < B.length ∧ B.getD k 0 = c ∧ B.drop (k + 1) = L := by
  have hk : k < B.length := by
    rcases Nat.lt_or_ge k B.length with h1 | h1
    · exact h1
    · rw [List.drop_eq_nil_of_le h1] at h; cases h
  rw [List.drop_eq_getElem_cons hk] at h
  injection h with h1 h2
  exact ⟨hk, by rw [List.getD_eq_getElem?_getD, List.getElem?_eq_getElem hk]; exact h1, h2⟩
theorem pow_room (f i : Nat) (h : f + i = 9) : room f * 128 ^ i = 18446744073709551616 := by
  have : i = 9 - f := by omega
  subst this
  have hf : f ≤ 9 := by omega
  revert hf
  match f with
  | 0 => decide
  | 1 => decide
  | 2 => decide
  | 3 => decide
  | 4 => decide
  | 5 => decide
  | 6 => decide
  | 7 => decide
  | 8 => decide
  | 9 => decide
  | _ + 10 => intro h; omega
theorem small_mul {v f i : Nat} (h : f + i = 9) (hv : v < room f) : v * 128 ^ i < 18446744073709551616 := by
  rw [← pow_room f i h]
  exact Nat.mul_lt_mul_of_pos_right hv (Nat.pow_pos (by omega))
/-- the encoding of v is read, whatever stands behind it -/
theorem dec_enc (B rest : List Nat) (at_ : Nat) (f : Nat) : ∀ (i u v : Nat), f + i = 9 → v < room f → (0 < i → 0 < v) → B.drop (at_ + i) = enc f v ++ rest →
    decGo B at_ (f + 1) i u = (unf (u + v * 128 ^ i), ((at_ + i + (enc f v).length : Nat) : Int), 0) := by
  induction f with
  | zero =>
    intro i u v hi hv hp hb
    obtain ⟨h1, h2, h3⟩ := getD_drop (L := rest) (c := v) (by simpa [enc] using hb)
    have hs := small_mul hi hv
    simp [room] at hv
    rw [decGo, if_neg (by omega), h2, if_neg (by omega), if_neg (by have := hp; omega), Nat.mod_eq_of_lt (show v < 128 by omega), Nat.mod_eq_of_lt hs]
    simp [enc]
  | succ f ih =>
    intro i u v hi hv hp hb
    have hs := small_mul hi hv
    rcases Nat.lt_or_ge v 128 with h | h
    · rw [enc_small _ h] at hb ⊢
      obtain ⟨h1, h2, h3⟩ := getD_drop (L := rest) (c := v) (by simpa using hb)
      rw [decGo, if_neg (by omega), h2, if_neg (by omega), if_neg (by have := hp; omega), Nat.mod_eq_of_lt (show v < 128 by omega), Nat.mod_eq_of_lt hs]
      simp
    · rw [enc_great _ h] at hb ⊢
      obtain ⟨h1, h2, h3⟩ := getD_drop (L := enc f (v / 128) ++ rest) (c := v % 128 + 128) (by simpa using hb)
      rw [decGo, if_neg (by omega), h2, if_pos (by omega)]
      have e1 : (v % 128 + 128) % 128 = v % 128 := by omega
      have e2 : v % 128 * 128 ^ i < 18446744073709551616 := by
        have : v % 128 * 128 ^ i ≤ v * 128 ^ i := Nat.mul_le_mul_right _ (Nat.mod_le _ _)
        omega
      rw [e1, Nat.mod_eq_of_lt e2, ih (i + 1) _ (v / 128) (by omega) (by simp [room] at hv; omega) (by intro _; omega) (by rw [← Nat.add_assoc]; exact h3)]
      have e3 : u + v % 128 * 128 ^ i + v / 128 * 128 ^ (i + 1) = u + v * 128 ^ i := by
        have : v * 128 ^ i = (v % 128 + 128 * (v / 128)) * 128 ^ i := by rw [Nat.mod_add_div]
        rw [this, Nat.pow_succ]
        grind
      rw [e3, List.length_cons]
      congr 2
      congr 1
      omega
/-- a beginning of the encoding is too short -/
theorem dec_short (B : List Nat) (at_ : Nat) (f : Nat) : ∀ (i u v j : Nat), j < (enc f v).length → at_ + i ≤ B.length → B.drop (at_ + i) = (enc f v).take j → decGo B at_ (f + 1) i u = (0, 0, 2) := by
  induction f with
  | zero =>
    intro i u v j hj hl hb
    have : j = 0 := by simp [enc] at hj; omega
    subst this
    have : B.length ≤ at_ + i := by simpa using hb
    rw [decGo, if_pos (by omega)]
  | succ f ih =>
    intro i u v j hj hl hb
    rcases Nat.eq_zero_or_pos j with h0 | h0
    · subst h0
      have : B.length ≤ at_ + i := by simpa using hb
      rw [decGo, if_pos (by omega)]
    · rcases Nat.lt_or_ge v 128 with h | h
      · rw [enc_small _ h] at hj; simp at hj; omega
      · rw [enc_great _ h] at hb hj
        obtain ⟨k, rfl⟩ : ∃ k, j = k + 1 := ⟨j - 1, by omega⟩
        rw [List.take_succ_cons] at hb
        obtain ⟨h1, h2, h3⟩ := getD_drop hb
        rw [decGo, if_neg (by omega), h2, if_pos (by omega)]
        exact ih (i + 1) _ (v / 128) k (by simpa using hj) (by omega) (by rw [← Nat.add_assoc]; exact h3)
theorem dec_bytes {B rest : List Nat} {at_ : Nat} {n : Int} (h0 : -9223372036854775808 ≤ n) (h1 : n ≤ 9223372036854775807) (hb : B.drop at_ = bytesOf n ++ rest) :
    dec B at_ = (n, ((at_ + (bytesOf n).length : Nat) : Int), 0) := by
  have := dec_enc B rest at_ 9 0 0 (fld n) rfl (by rw [room_nine]; exact fld_lt h0 h1) (by omega) (by simpa [bytesOf] using hb)
  unfold dec
  rw [this]
  simp [unf_fld, bytesOf]
theorem dec_cut {B : List Nat} {at_ j : Nat} {n : Int} (hl : at_ ≤ B.length) (hj : j < (bytesOf n).length) (hb : B.drop at_ = (bytesOf n).take j) : dec B at_ = (0, 0, 2) :=
  dec_short B at_ 9 0 0 (fld n) j hj (by simpa using hl) (by simpa [bytesOf] using hb)
end Go.Proofs.YtnjojdmmalmhaaaGreatDoor.Cd
namespace Go.Proofs.YtnjojdmmalmhaaaGreatDoor.Cd
open Go.ChangeShapes Go.WideShapes Go.RowKit Wo Bm
set_option linter.unusedVariables false
theorem fold_any (n : Int) (h0 : -9223372036854775808 ≤ n) (h1 : n ≤ 9223372036854775807) (w : World) :
    Calls Tryz.prog 70 #[.int .i64 n] w fun e w' => e = .returned (.int .u64 (fld n : Int)) ∧ w = w' := by
  have HF : Hid (bits .xor .u64 (IntKind.u64.wrap (IntKind.u64.wrap n * 2)) (IntKind.u64.wrap (n / 9223372036854775808)) = (fld n : Int)) := by
    show bits _ _ _ _ = _
    rcases Int.lt_or_le n 0 with h | h
    · rw [fold_neg h h0]; unfold fld; rw [if_neg (by omega)]; omega
    · rw [fold_pos h h1]; unfold fld; rw [if_pos h]; omega
  go_enter Tryz.func70, Tryz.ntmps70
  go_wp2
  go_ret
  exact ⟨ret_int HF.out, rfl⟩
theorem unfold_any (u : Nat) (h1 : u < 18446744073709551616) (w : World) :
    Calls Tryz.prog 87 #[.int .u64 (u : Int)] w fun e w' => e = .returned (.int .i64 (unf u)) ∧ w = w' := by
  have HA := Lib.hid (and1_u64 h1)
  go_enter Tryz.func87, Tryz.ntmps87
  go_wp2
  go_ret
  refine ⟨ret_int ?_, rfl⟩
  rw [HA.out, show (u : Int) / 2 = ((u / 2 : Nat) : Int) by omega]
  unfold unf
  rcases Nat.mod_two_eq_zero_or_one u with h | h
  · rw [h, if_pos rfl, show wrap64 (-wrap64 ((0 : Nat) : Int)) = 0 by decide +kernel]
    exact unfold_even (a := u / 2) (by omega)
  · rw [h, if_neg (by decide), show wrap64 (-wrap64 ((1 : Nat) : Int)) = -1 by decide +kernel]
    exact unfold_odd (a := u / 2) (by omega)
end Go.Proofs.YtnjojdmmalmhaaaGreatDoor.Cd
namespace Go.Proofs.YtnjojdmmalmhaaaGreatDoor.Cd
open Go.ChangeShapes Go.WideShapes Go.RowKit Wo Bm By
set_option linter.unusedVariables false
theorem fits_yes (n : Nat) (k : Nat) (hn : n < 2 ^ k) (hk : k ≤ 32) (w : World) : Calls Tryz.prog 176 #[.int .i64 (n : Int), .int .i64 (k : Int)] w fun e w' => e = .returned (.bool true) ∧ w = w' := by
  have hz : (n : Int) / 2 ^ k = 0 := by
    rw [show (2 : Int) ^ k = ((2 ^ k : Nat) : Int) by simp]
    have : n / 2 ^ k = 0 := Nat.div_eq_of_lt hn
    rw [← Int.natCast_ediv, this]; rfl
  have ki : (k : Int) ≤ 32 := by omega
  have k0 : (0 : Int) ≤ (k : Int) := by omega
  have n0 : (0 : Int) ≤ (n : Int) := by omega
  go_enter Tryz.func176, Tryz.ntmps176
  go_wp2
  go_ret
  exact ⟨rfl, rfl⟩
/-- the slice at A of length n reads as the numbers L -/
def Ri (w : World) (A : Option Addr) (n : Nat) (L : List Nat) : Prop := L.length = n ∧ (0 < n → ∃ ad : Addr, A = some ad ∧ ad.block < w.heap.size ∧ ∀ j, j < n → w.cell? (ad.add j) = some (.int .i64 (L.getD j 0 : Nat)))
def wd (L : List Nat) : Nat := L.foldl (fun m n => max m (Lib.bitLen n)) 0
theorem wd_snoc (L : List Nat) (n : Nat) : wd (L ++ [n]) = max (wd L) (Lib.bitLen n) := by simp [wd, List.foldl_append]
theorem bl_le (n : Nat) (h : n < 4294967296) : Lib.bitLen n ≤ 32 := by
  have hb := Lib.bitLenAux_bounds 64 n (by omega)
  rcases Nat.eq_zero_or_pos n with h0 | h0
  · subst h0; decide
  · obtain ⟨c1, c2, c3⟩ := hb (by omega)
    have e : Lib.bitLen n = Lib.bitLenAux 64 n := rfl
    rw [e]
    rcases Nat.lt_or_ge 32 (Lib.bitLenAux 64 n) with h1 | h1
    · have := Nat.pow_le_pow_right (n := 2) (by omega) (show 32 ≤ Lib.bitLenAux 64 n - 1 by omega)
      omega
    · exact h1
theorem wd_le (L : List Nat) (h : ∀ n ∈ L, n < 4294967296) : wd L ≤ 32 := by
  have : ∀ (L : List Nat) (m : Nat), m ≤ 32 → (∀ n ∈ L, n < 4294967296) → L.foldl (fun m n => max m (Lib.bitLen n)) m ≤ 32 := by
    intro L
    induction L with
    | nil => intro m hm _; exact hm
    | cons n L ih => intro m hm h; exact ih _ (Nat.max_le.2 ⟨hm, bl_le n (h n (by simp))⟩) (fun x hx => h x (by simp [hx]))
  exact this L 0 (by omega) h
set_option maxHeartbeats 8000000 in
set_option maxRecDepth 100000 in
theorem width_any (A : Option Addr) (c : Nat) (L : List Nat) (hL : L.length ≤ 1000000) (hl : ∀ n ∈ L, n < 4294967296) (w : World) (hr : Ri w A L.length L) :
    Calls Tryz.prog 173 #[.slice A L.length c] w fun e w' => e = .returned (.int .i64 (wd L : Int)) ∧ w = w' := by
  have HR := Lib.hid hr
  have HL := Lib.hid hl
  have li : (L.length : Int) ≤ 1000000 := by omega
  clear hr hl
  go_enter Tryz.func173, Tryz.ntmps173
  go_wp2
  go_loop [3, 8] (fun s3 s8 => ∃ k : Nat, k ≤ L.length ∧ s8 = .int .i64 (k : Int) ∧ s3 = .int .i64 (wd (L.take k) : Int)) (fun _ s8 => L.length - (intOf s8).toNat)
  case atStart => exact ⟨0, by omega, rfl, rfl⟩
  case round =>
    obtain ⟨k, hk, rfl, rfl⟩ := hrel
    have hw := wd_le (L.take k) (fun x hx => HL.out x (List.mem_of_mem_take hx))
    rcases Nat.lt_or_ge k L.length with hlt | hge
    · obtain ⟨ad, rfl, hab, hac⟩ := HR.out.2 (by omega)
      have hcell := hac k hlt
      have hsn : wd (L.take (k + 1)) = max (wd (L.take k)) (Lib.bitLen (L.getD k 0)) := by
        rw [← wd_snoc]
        congr 1
        rw [List.take_succ_eq_append_getElem hlt, List.getD_eq_getElem?_getD, List.getElem?_eq_getElem hlt]; rfl
      have hnl : L.getD k 0 < 4294967296 := HL.out _ (by rw [List.getD_eq_getElem?_getD, List.getElem?_eq_getElem hlt]; exact List.getElem_mem hlt)
      have hbl := bl_le _ hnl
      obtain ⟨n, hn⟩ : ∃ n, L.getD k 0 = n := ⟨_, rfl⟩
      rw [hn] at hcell hsn hnl hbl
      have HF : Hid (∀ w, Calls Tryz.prog 176 #[.int .i64 (n : Int), .int .i64 32] w fun e w' => e = .returned (.bool true) ∧ w = w') := fun w => fits_yes n 32 hnl (by omega) w
      obtain ⟨b, hb⟩ : ∃ b, Lib.bitLen n = b := ⟨_, rfl⟩
      have HLN : Hid (∀ w, Calls Tryz.prog 177 #[.int .u64 (n : Int)] w fun e w' => e = .returned (.int .i64 (b : Int)) ∧ w = w') := fun w => by
        refine (Tryz.bits_Len n w (by omega) (by omega)).mono fun e w' ⟨he, hw⟩ => ⟨?_, hw.symm⟩
        rw [he, Int.toNat_natCast, hb]
      rw [hb] at hsn hbl
      obtain ⟨m, hm⟩ : ∃ m, wd (L.take k) = m := ⟨_, rfl⟩
      rw [hm] at hsn hw ⊢
      have HN := Lib.hid hn
      have HM := Lib.hid hm
      have HB := Lib.hid hb
      have ni : (n : Int) < 4294967296 := by omega
      have ki : (k : Int) < (L.length : Int) := by omega
      rcases Nat.lt_trichotomy m b with h | h | h
      · have HS : Hid (wd (L.take (k + 1)) = b) := by show _ = _; rw [hsn]; omega
        clear hsn hn hm hb hac
        go_wp2_with (first | (go_at_call 176; refine (HF.out _).mono ?_; rintro e w' ⟨rfl, rfl⟩) | (go_at_call 177; refine (HLN.out _).mono ?_; rintro e w' ⟨rfl, rfl⟩))
        go_round
        case rel => exact ⟨k + 1, by omega, by go_num, by rw [HS.out]; first | done | (congr 1; omega)⟩
        case measure => simp [intOf]; omega
      · have HS : Hid (wd (L.take (k + 1)) = b) := by show _ = _; rw [hsn]; omega
        subst h
        clear hsn hn hb hac
        go_wp2_with (first | (go_at_call 176; refine (HF.out _).mono ?_; rintro e w' ⟨rfl, rfl⟩) | (go_at_call 177; refine (HLN.out _).mono ?_; rintro e w' ⟨rfl, rfl⟩))
        go_round
        case rel => exact ⟨k + 1, by omega, by go_num, by rw [HS.out]; first | done | (congr 1; omega)⟩
        case measure => simp [intOf]; omega
      · have HS : Hid (wd (L.take (k + 1)) = m) := by show _ = _; rw [hsn]; omega
        clear hsn hn hm hb hac
        go_wp2_with (first | (go_at_call 176; refine (HF.out _).mono ?_; rintro e w' ⟨rfl, rfl⟩) | (go_at_call 177; refine (HLN.out _).mono ?_; rintro e w' ⟨rfl, rfl⟩))
        go_round
        case rel => exact ⟨k + 1, by omega, by go_num, by rw [HS.out]; first | done | (congr 1; omega)⟩
        case measure => simp [intOf]; omega
    · obtain rfl : k = L.length := by omega
      have hall : L.take L.length = L := List.take_of_length_le (Nat.le_refl _)
      rw [hall] at hw ⊢
      obtain ⟨m, hm⟩ : ∃ m, wd L = m := ⟨_, rfl⟩
      rw [hm] at hw ⊢
      have HM := Lib.hid hm
      clear hall hm
      go_wp2
      go_ret
      exact ⟨by rw [← HM.out]; rfl, rfl⟩
end Go.Proofs.YtnjojdmmalmhaaaGreatDoor.Cd
namespace Go.Proofs.YtnjojdmmalmhaaaGreatDoor.Cd
open Go.ChangeShapes Go.WideShapes Go.RowKit Wo Bm By
set_option linter.unusedVariables false
theorem info_u8 : (Tryz.prog.info? 5).map (fun i => (i.zero, i.size, i.bytes)) = some (some (.int .u8 0), 1, 1) := by kernel_rfl
theorem size_u8 : (Tryz.prog.info? 5).map (·.size) = some 1 := by kernel_rfl
def SomePut (B : List Nat) (n : Int) (w : World) (e : Ending) (w' : World) : Prop := ∃ h : Nat, e = .returned (.slice (some ⟨h, 0, none⟩) (B.length + (bytesOf n).length) (B.length + 10)) ∧
  w'.ownsRow w.heap.size 5 1 (.slice (some ⟨h, 0, none⟩) (B.length + (bytesOf n).length) (B.length + 10)) (B.length + (bytesOf n).length) (bys (B ++ bytesOf n)) ∧ Bel w w'
/-- the loop's relation: some bytes have been written, u is what is left -/
def PRel (B : List Nat) (n : Int) (h : Nat) (w : World) (s5 s6 : Value) (wr : World) : Prop := ∃ (k u : Nat) (L : List Nat), k ≤ 9 ∧ L.length = k ∧ L ++ enc (9 - k) u = bytesOf n ∧ u < room (9 - k) ∧ s6 = .int .u64 (u : Int) ∧
  s5 = .slice (some ⟨h, 0, none⟩) (B.length + k) (B.length + 10) ∧ wr.ownsRow w.heap.size 5 1 (.slice (some ⟨h, 0, none⟩) (B.length + k) (B.length + 10)) (B.length + k) (bys (B ++ L)) ∧ Bel w wr
theorem room_le : ∀ f, f ≤ 9 → room f ≤ 18446744073709551616 ∧ (f = 0 → room f = 2) := by decide
theorem low7 (u : Nat) : bits .or .u8 (IntKind.u8.wrap (u : Int)) 128 = ((u % 128 + 128 : Nat) : Int) := by
  rw [wrap_u8, show ((u : Int) % 256) = ((u % 256 : Nat) : Int) by omega, or128_u8 (by omega)]
  omega
set_option maxHeartbeats 8000000 in
set_option maxRecDepth 100000 in
theorem put_any (A : Option Addr) (c : Nat) (B : List Nat) (n : Int) (h0 : -9223372036854775808 ≤ n) (h1 : n ≤ 9223372036854775807) (hB : B.length ≤ 140737488355000) (w : World) (hr : Rd w A B.length B) :
    Calls Tryz.prog 46 #[.slice A B.length c, .int .i64 n] w (SomePut B n w) := by
  obtain ⟨i0, hi0, hz0, hz1, hz2⟩ := info_parts info_u8
  have HF := Lib.hid (fun w => fold_any n h0 h1 w)
  have HI := Lib.hid (And.intro hi0 (And.intro hz0 (And.intro hz1 hz2)))
  have HR := Lib.hid hr
  have bl : (B.length : Int) ≤ 140737488355000 := by omega
  clear hi0 hz0 hz1 hz2 hr
  have HP : Hid (0 < (bys B).length → (some ⟨w.heap.size, 0, none⟩ : Option Addr) = some ⟨w.heap.size, 0, none⟩ ∧ ∃ ad, A = some ad ∧ ∀ j v, (bys B)[j]? = some v → (w.alloc (.cells (bys (List.replicate (B.length + 10) 0)).toArray 5)).cell? (ad.add j) = some v) := by
    show _ → _
    intro hp
    refine ⟨rfl, ?_⟩
    obtain ⟨ad, e, hb, hc⟩ := HR.out.2.2 (by simpa [bys_len] using hp)
    refine ⟨ad, e, fun j v hv => ?_⟩
    have hj : j < B.length := by
      rcases Nat.lt_or_ge j B.length with h | h
      · exact h
      · rw [List.getElem?_eq_none (by rw [bys_len]; exact h)] at hv; cases hv
    rw [bys_at hj] at hv
    cases hv
    exact kp_al (hc j hj) _
  have HH : Hid ((w.alloc (.cells (bys (List.replicate (B.length + 10) 0)).toArray 5)).heap[w.heap.size]? = some (.cells (bys (List.replicate (B.length + 10) 0)).toArray 5)) := heap_alloc_new w _
  have HL : Hid ((bys B).length = Nat.min B.length B.length) := by show _ = _; simp [bys_len]
  have HL2 : Hid (0 + (bys B).length ≤ (bys (List.replicate (B.length + 10) 0)).length) := by show _ ≤ _; simp [bys_len]
  have HBE : Hid (Below w.heap.size w (w.alloc (.cells (bys (List.replicate (B.length + 10) 0)).toArray 5))) := (Bel.rf.al _).bl
  go_enter Tryz.func46, Tryz.ntmps46
  go_upto_region 2 with (refine wpList_make_any _ rfl (.tmp 8) (.tmp 11) 41 rfl 5 i0 (.int .u8 0) 1 Tryz.underlying41 HI.out.1 HI.out.2.1 HI.out.2.2.1 .i64 .i64 _ _ B.length (B.length + 10) rfl rfl rfl (by omega) (by omega) (by rw [HI.out.2.2.2]; omega) (by omega) ?_; rw [made_u8])
  go_wp2_with (first
    | (refine wpList_copy_splice rfl (.tmp 13) (.tmp 14) 41 41 rfl 5 Tryz.underlying41 size_u8 (some ⟨w.heap.size, 0, none⟩) A B.length (B.length + 10) B.length c rfl rfl w.heap.size 0 (bys (List.replicate (B.length + 10) 0)) 5 HH.out (bys B) HL.out HP.out HL2.out bys_one w.heap.size w HBE.out (Nat.le_refl _) ?_; intro w2 HG2 hB2)
    | (go_at_call 70; refine (HF.out _).mono ?_; rintro e w' ⟨rfl, rfl⟩))
  have HS : Hid (PRel B n w.heap.size w (.slice (some ⟨w.heap.size, 0, none⟩) B.length (B.length + 10)) (.int .u64 (fld n : Int)) w2) := by
    refine ⟨0, fld n, [], by omega, rfl, rfl, by rw [room_nine]; exact fld_lt h0 h1, rfl, rfl, ⟨by simp [bys_len], .inr ⟨_, _, _, rfl, Nat.le_refl _, HG2.out, by omega, by unfold maxLen; omega, ?_, ?_⟩⟩, hB2⟩
    · simp [splice, bys_len]
    · simp [splice, bys_len]
  clear HG2 hB2 HP HH HL HL2 HBE HR HF
  go_loopw [5, 6] (fun s5 s6 wr => PRel B n w.heap.size w s5 s6 wr) (fun _ s6 _ => (intOf s6).toNat)
  case atStart => exact HS.out
  case round =>
    clear HS
    obtain ⟨k, u, L, hk, hL, hE, hu, rfl, rfl, hown, hb⟩ := hrel
    rename_i wr
    have HO := Lib.hid hown
    have HB := Lib.hid hb
    have HE := Lib.hid hE
    have HLL := Lib.hid hL
    rcases Nat.lt_or_ge 127 u with hg | hg
    · have hk9 : k < 9 := by
        rcases Nat.lt_or_ge k 9 with h | h
        · exact h
        · have := (room_le (9 - k) (by omega)).2 (by omega); omega
      obtain ⟨f, hf⟩ : ∃ f, 9 - k = f + 1 := ⟨8 - k, by omega⟩
      have hE2 : L ++ [u % 128 + 128] ++ enc f (u / 128) = bytesOf n := by
        have := HE.out
        rw [hf, enc_great f (by omega)] at this
        simpa using this
      have hu2 : u / 128 < room f := by rw [hf] at hu; simp [room] at hu; omega
      obtain ⟨x, hx⟩ : ∃ x, u % 128 + 128 = x := ⟨_, rfl⟩
      have e1 : bits .or .u8 ((u : Int) % 256) 128 = (x : Int) := by rw [← wrap_u8, low7, hx]
      rw [hx] at hE2
      have HE2 := Lib.hid hE2
      have HU2 := Lib.hid hu2
      have HX := Lib.hid hx
      have HF9 := Lib.hid hf
      have gi : (127 : Int) < (u : Int) := by omega
      have HC : Hid (∀ j v, [Value.int .u8 (x : Int)][j]? = some v → (wr.alloc (.cells #[.int .u8 (x : Int)] 5)).cell? ((⟨wr.heap.size, 0, none⟩ : Addr).add j) = some v) := by
        intro j v hv
        rw [add_row, (Bk.nw wr _ _).cell j]
        simpa using hv
      clear hown hb hE hL hE2 hu2 hx hf hu
      go_wp2_with (first
        | (at_builtin; go_loud (refine wpList_append_fits _ rfl (.tmp 22) (.tmp 26) 41 rfl w.heap.size 5 i0 1 Tryz.underlying41 HI.out.1 HI.out.2.2.1 w.heap.size (B.length + k) (B.length + 10) (bys (B ++ L)) rfl (HO.out.alloc _) ⟨wr.heap.size, 0, none⟩ 1 1 [.int .u8 (x : Int)] rfl rfl HC.out (by intro v hv; simp at hv; subst hv; rfl) (by omega) ?_); intro w3 hown3 hg3))
      have HO3 := Lib.hid hown3
      have HG3 := Lib.hid hg3
      clear hown3 hg3 e1
      go_roundw
      case rel =>
        refine ⟨k + 1, u / 128, L ++ [x], by omega, by have := HLL.out; simp [this], ?_, ?_, by go_num, rfl, ?_, ?_⟩
        · have := HF9.out
          rw [show 9 - (k + 1) = f by omega, HE2.out]
        · have := HF9.out
          rw [show 9 - (k + 1) = f by omega]; exact HU2.out
        · have := HO3.out
          rw [show bys (B ++ (L ++ [x])) = bys (B ++ L) ++ [.int .u8 (x : Int)] by simp [bys]]
          exact this
        · exact Below.grown (Bel.al HB.out _).bl HG3.out (by simp; have := HB.out.size; omega) (fun b e => by cases e; exact Nat.le_refl _)
      case measure => simp [intOf]; omega
    · have hE2 : L ++ [u] = bytesOf n := by
        have := HE.out
        rwa [enc_small _ (by omega)] at this
      have HE2 := Lib.hid hE2
      have gi : (u : Int) ≤ 127 := by omega
      have gi0 : (0 : Int) ≤ (u : Int) := by omega
      have HC : Hid (∀ j v, [Value.int .u8 (u : Int)][j]? = some v → (wr.alloc (.cells #[.int .u8 (u : Int)] 5)).cell? ((⟨wr.heap.size, 0, none⟩ : Addr).add j) = some v) := by
        intro j v hv
        rw [add_row, (Bk.nw wr _ _).cell j]
        simpa using hv
      clear hown hb hE hL hE2 hu
      go_wp2_with (first
        | (at_builtin; refine wpList_append_fits _ rfl (.tmp 28) (.tmp 31) 41 rfl w.heap.size 5 i0 1 Tryz.underlying41 HI.out.1 HI.out.2.2.1 w.heap.size (B.length + k) (B.length + 10) (bys (B ++ L)) rfl (HO.out.alloc _) ⟨wr.heap.size, 0, none⟩ 1 1 [.int .u8 (u : Int)] rfl rfl HC.out (by intro v hv; simp at hv; subst hv; rfl) (by omega) ?_; intro w3 hown3 hg3))
      have HO3 := Lib.hid hown3
      have HG3 := Lib.hid hg3
      clear hown3 hg3
      go_ret
      have hln : (bytesOf n).length = k + 1 := by have := HLL.out; rw [← HE2.out]; simp [this]
      refine ⟨w.heap.size, by rw [hln]; rfl, ?_, ?_⟩
      · rw [hln]
        have := HO3.out
        rw [← HE2.out, show bys (B ++ (L ++ [u])) = bys (B ++ L) ++ [.int .u8 (u : Int)] by simp [bys]]
        exact this
      · exact Below.grown (Bel.al HB.out _).bl HG3.out (by simp; have := HB.out.size; omega) (fun b e => by cases e; exact Nat.le_refl _)
end Go.Proofs.YtnjojdmmalmhaaaGreatDoor.Cd
namespace Go.Proofs.YtnjojdmmalmhaaaGreatDoor.Pk
set_option linter.unusedVariables false
/-- byte j of the bits f ahead of place K -/
def pkb (f : Nat → Nat) (K j : Nat) : Nat → Nat
  | 0 => 0
  | t + 1 => pkb f K j t + (if 8 * j + t < K then f (8 * j + t) else 0) * 2 ^ t
def pk (f : Nat → Nat) (K j : Nat) : Nat := pkb f K j 8
theorem pkb_lt {f : Nat → Nat} (hf : ∀ k, f k < 2) (K j : Nat) : ∀ t, pkb f K j t < 2 ^ t
  | 0 => by simp [pkb]
  | t + 1 => by
    have ih := pkb_lt hf K j t
    have : (if 8 * j + t < K then f (8 * j + t) else 0) * 2 ^ t ≤ 1 * 2 ^ t := Nat.mul_le_mul_right _ (by split; have := hf (8 * j + t); omega; omega)
    rw [pkb, Nat.pow_succ]
    omega
theorem pk_lt {f : Nat → Nat} (hf : ∀ k, f k < 2) (K j : Nat) : pk f K j < 256 := pkb_lt hf K j 8
/-- places from t on that are not ahead of K count nothing -/
theorem pkb_stop {f : Nat → Nat} (K j : Nat) : ∀ (t : Nat), K ≤ 8 * j + t → ∀ d, pkb f K j (t + d) = pkb f K j t
  | t, h, 0 => rfl
  | t, h, d + 1 => by rw [← Nat.add_assoc, pkb, pkb_stop K j t h d, if_neg (by omega)]; simp
theorem pkb_same {f : Nat → Nat} (K j : Nat) : ∀ (t : Nat), 8 * j + t ≤ K → pkb f (K + 1) j t = pkb f K j t
  | 0, _ => rfl
  | t + 1, h => by rw [pkb, pkb, pkb_same K j t (by omega), if_pos (by omega), if_pos (by omega)]
/-- one more bit: its own byte grows, the others stay -/
theorem pk_step {f : Nat → Nat} (hf : ∀ k, f k < 2) (K : Nat) : pk f (K + 1) (K / 8) = pk f K (K / 8) + f K * 2 ^ (K % 8) ∧ pk f K (K / 8) < 2 ^ (K % 8) := by
  obtain ⟨j, t, hK, ht⟩ : ∃ j t, K = 8 * j + t ∧ t < 8 := ⟨K / 8, K % 8, by omega, by omega⟩
  have e1 : K / 8 = j := by omega
  have e2 : K % 8 = t := by omega
  rw [e1, e2]
  have a1 : pk f K j = pkb f K j t := by
    have := pkb_stop (f := f) K j t (by omega) (8 - t)
    rwa [show t + (8 - t) = 8 by omega] at this
  have a2 : pk f (K + 1) j = pkb f (K + 1) j (t + 1) := by
    have := pkb_stop (f := f) (K + 1) j (t + 1) (by omega) (8 - (t + 1))
    rwa [show t + 1 + (8 - (t + 1)) = 8 by omega] at this
  have a3 : pkb f (K + 1) j (t + 1) = pkb f K j t + f K * 2 ^ t := by
    rw [pkb, pkb_same K j t (by omega), if_pos (by omega), hK]
  exact ⟨by rw [a2, a3, a1], by rw [a1]; exact pkb_lt hf K j t⟩
theorem pkb_else {f : Nat → Nat} (K j : Nat) (h : j ≠ K / 8) : ∀ t, t ≤ 8 → pkb f (K + 1) j t = pkb f K j t
  | 0, _ => rfl
  | t + 1, ht => by
    rw [pkb, pkb, pkb_else K j h t (by omega)]
    congr 2
    have : (8 * j + t < K + 1) = (8 * j + t < K) := by
      apply propext
      constructor <;> intro _ <;> omega
    simp only [this]
theorem pk_else {f : Nat → Nat} (K j : Nat) (h : j ≠ K / 8) : pk f (K + 1) j = pk f K j := pkb_else K j h 8 (by omega)
theorem pk_zero (f : Nat → Nat) (j : Nat) : pk f 0 j = 0 := by simp [pk, pkb]
/-- the bits of a byte -/
theorem pkb_bit {f : Nat → Nat} (hf : ∀ k, f k < 2) (K j : Nat) : ∀ (t s : Nat), s < t → pkb f K j t / 2 ^ s % 2 = if 8 * j + s < K then f (8 * j + s) else 0
  | 0, s, h => by omega
  | t + 1, s, h => by
    rw [pkb]
    rcases Nat.lt_or_ge s t with h1 | h1
    · have ih := pkb_bit hf K j t s h1
      have e : (2 : Nat) ^ t = 2 ^ s * (2 * 2 ^ (t - s - 1)) := by
        rw [← Nat.pow_succ', ← Nat.pow_add]; congr 1; omega
      rw [e, show ∀ x : Nat, x * (2 ^ s * (2 * 2 ^ (t - s - 1))) = 2 ^ s * (2 * (x * 2 ^ (t - s - 1))) from fun x => by grind, Nat.add_mul_div_left _ _ (Nat.two_pow_pos s), Nat.add_mul_mod_self_left]
      exact ih
    · obtain rfl : s = t := by omega
      have hl := pkb_lt hf K j s
      rw [Nat.add_mul_div_right _ _ (Nat.two_pow_pos s), Nat.div_eq_of_lt hl, Nat.zero_add]
      have : (if 8 * j + s < K then f (8 * j + s) else 0) < 2 := by split; exact hf _; omega
      omega
theorem pk_bit {f : Nat → Nat} (hf : ∀ k, f k < 2) (K k : Nat) : pk f K (k / 8) / 2 ^ (k % 8) % 2 = if k < K then f k else 0 := by
  have := pkb_bit hf K (k / 8) 8 (k % 8) (by omega)
  rw [show 8 * (k / 8) + k % 8 = k by omega] at this
  exact this
/-- the bits of a list of numbers of a width -/
def fb (L : List Nat) (w k : Nat) : Nat := L.getD (k / w) 0 / 2 ^ (k % w) % 2
theorem fb_lt (L : List Nat) (w k : Nat) : fb L w k < 2 := Nat.mod_lt _ (by decide)
theorem fb_at {w j : Nat} (L : List Nat) (i : Nat) (hj : j < w) : fb L w (i * w + j) = L.getD i 0 / 2 ^ j % 2 := by
  unfold fb
  rw [show i * w + j = j + i * w by omega, Nat.add_mul_div_right _ _ (by omega), Nat.div_eq_of_lt hj, Nat.zero_add, Nat.add_mul_mod_self_right, Nat.mod_eq_of_lt hj]
/-- the bytes of a list packed as far as bit K -/
def bytesK (L : List Nat) (w n K : Nat) : List Nat := (List.range n).map (pk (fb L w) K)
def packed (L : List Nat) (w : Nat) : List Nat := bytesK L w ((L.length * w + 7) / 8) (L.length * w)
theorem bytesK_len (L : List Nat) (w n K : Nat) : (bytesK L w n K).length = n := by simp [bytesK]
theorem bytesK_at {L : List Nat} {w n K j : Nat} (h : j < n) : (bytesK L w n K).getD j 0 = pk (fb L w) K j := by simp [bytesK, List.getD_eq_getElem?_getD, h]
theorem bytesK_lt (L : List Nat) (w n K : Nat) : ∀ c ∈ bytesK L w n K, c < 256 := by
  intro c hc
  simp only [bytesK, List.mem_map] at hc
  obtain ⟨j, _, rfl⟩ := hc
  exact pk_lt (fb_lt L w) K j
theorem bytesK_step {L : List Nat} {w n K : Nat} (h : K / 8 < n) : (bytesK L w n K).set (K / 8) (pk (fb L w) K (K / 8) + fb L w K * 2 ^ (K % 8)) = bytesK L w n (K + 1) := by
  apply List.ext_getElem?
  intro i
  rw [List.getElem?_set, bytesK_len]
  rcases Classical.em (K / 8 = i) with hi | hi
  · subst hi
    simp [bytesK, h, (pk_step (fb_lt L w) K).1]
  · rw [if_neg hi]
    rcases Nat.lt_or_ge i n with hn | hn
    · simp [bytesK, hn, pk_else K i (fun e => hi e.symm)]
    · simp [bytesK, Nat.not_lt.2 hn]
theorem bytesK_zero (L : List Nat) (w n : Nat) : bytesK L w n 0 = List.replicate n 0 := by
  apply List.ext_getElem?
  intro i
  rcases Nat.lt_or_ge i n with hn | hn
  · simp [bytesK, hn, pk_zero]
  · simp [bytesK, Nat.not_lt.2 hn]
/-- the sum of the first t bits from place s on -/
def val (g : Nat → Nat) : Nat → Nat
  | 0 => 0
  | t + 1 => val g t + g t * 2 ^ t
theorem val_lt {g : Nat → Nat} (hg : ∀ k, g k < 2) : ∀ t, val g t < 2 ^ t
  | 0 => by simp [val]
  | t + 1 => by
    have ih := val_lt hg t
    have : g t * 2 ^ t ≤ 1 * 2 ^ t := Nat.mul_le_mul_right _ (by have := hg t; omega)
    rw [val, Nat.pow_succ]
    omega
theorem val_bits (n : Nat) : ∀ t, val (fun j => n / 2 ^ j % 2) t = n % 2 ^ t
  | 0 => by simp [val, Nat.mod_one]
  | t + 1 => by
    rw [val, val_bits n t, Nat.pow_succ, Nat.mod_mul]
    rw [Nat.mul_comm]
theorem val_full {n t : Nat} (h : n < 2 ^ t) : val (fun j => n / 2 ^ j % 2) t = n := by rw [val_bits, Nat.mod_eq_of_lt h]
theorem val_congr {g h : Nat → Nat} : ∀ t, (∀ j, j < t → g j = h j) → val g t = val h t
  | 0, _ => rfl
  | t + 1, e => by rw [val, val, val_congr t (fun j hj => e j (by omega)), e t (by omega)]
end Go.Proofs.YtnjojdmmalmhaaaGreatDoor.Pk
namespace Go.Proofs.YtnjojdmmalmhaaaGreatDoor.Pk
open Go.ChangeShapes Go.WideShapes Go.RowKit Wo Bm By Cd
set_option linter.unusedVariables false
theorem size_any (n k N : Nat) (hN : (n * k + 7) / 8 = N) (hn : n ≤ 2000) (hk : k ≤ 32) (w : World) : Calls Tryz.prog 174 #[.int .i64 (n : Int), .int .i64 (k : Int)] w fun e w' => e = .returned (.int .i64 (N : Int)) ∧ w = w' := by
  have hm : n * k ≤ 2000 * 32 := Nat.mul_le_mul hn hk
  obtain ⟨m, hmm⟩ : ∃ m, n * k = m := ⟨_, rfl⟩
  rw [hmm] at hm hN
  have e1 : (n : Int) * (k : Int) = (m : Int) := by rw [← hmm]; simp
  have HN : Hid (((m : Int) + 7) / 8 = (N : Int)) := by show _ = _; omega
  have mi : (m : Int) ≤ 64000 := by omega
  clear hmm hN hn hk hm
  go_enter Tryz.func174, Tryz.ntmps174
  go_wp2
  go_ret
  exact ⟨ret_int HN.out, rfl⟩
theorem fits_no (n : Nat) (k : Nat) (hn : 2 ^ k ≤ n) (hn2 : n ≤ 4611686018427387904) (hk : k ≤ 32) (w : World) : Calls Tryz.prog 176 #[.int .i64 (n : Int), .int .i64 (k : Int)] w fun e w' => e = .returned (.bool false) ∧ w = w' := by
  have hz : ((n : Int) / 2 ^ k == 0) = false := by
    rw [beq_eq_false_iff_ne, show (2 : Int) ^ k = ((2 ^ k : Nat) : Int) by simp, ← Int.natCast_ediv]
    have : 0 < n / 2 ^ k := Nat.div_pos hn (Nat.two_pow_pos k)
    omega
  have ki : (k : Int) ≤ 32 := by omega
  have k0 : (0 : Int) ≤ (k : Int) := by omega
  have n0 : (0 : Int) ≤ (n : Int) := by omega
  clear hn hn2
  go_enter Tryz.func176, Tryz.ntmps176
  go_wp2
  go_ret
  exact ⟨rfl, rfl⟩
theorem bys_set (L : List Nat) (j c : Nat) : (bys L).toArray.setIfInBounds j (.int .u8 (c : Int)) = (bys (L.set j c)).toArray := by simp [bys]
theorem rd_bk {w : World} {h : Nat} {t : TypeId} {L : List Nat} (hb : Bk w h t (bys L).toArray) (hl : ∀ c ∈ L, c < 256) (n : Nat) (hn : L.length = n) : Rd w (some ⟨h, 0, none⟩) n L := by
  subst hn
  refine ⟨rfl, hl, fun _ => ⟨_, rfl, hb.lt, fun j hj => ?_⟩⟩
  rw [add_row, hb.cell j]
  simpa using bys_at hj
def PackOk (L : List Nat) (k N : Nat) (w : World) (e : Ending) (w' : World) : Prop := ∃ h : Nat, e = .returned (.tuple #[.slice (some ⟨h, 0, none⟩) N N, .int .i64 0]) ∧ Rd w' (some ⟨h, 0, none⟩) N (packed L k) ∧ (w.heap.size ≤ h ∧ Bk w' h 5 (bys (packed L k)).toArray) ∧ Bel w w'
def SomePack (L : List Nat) (k N : Nat) (w : World) (e : Ending) (w' : World) : Prop :=
  ((∀ n ∈ L, n < 2 ^ k) ∧ PackOk L k N w e w') ∨ ((∃ n ∈ L, 2 ^ k ≤ n) ∧ e = .returned (.tuple #[.slice none 0 0, .int .i64 1]) ∧ Bel w w')
def ORel (L : List Nat) (k N g : Nat) (w : World) (s27 : Value) (wr : World) : Prop := ∃ i : Nat, i ≤ L.length ∧ s27 = .int .i64 (i : Int) ∧ (∀ j, j < i → L.getD j 0 < 2 ^ k) ∧ Bk wr g 5 (bys (bytesK L k N (i * k))).toArray ∧ Bel w wr
theorem and1_i64 {a : Nat} (ha : a ≤ 9223372036854775807) : bits .and .i64 (a : Int) 1 = ((a % 2 : Nat) : Int) := by
  show IntKind.i64.wrap (((BitVec.ofInt 64 (a : Int) &&& BitVec.ofInt 64 ((1 : Nat) : Int)).toNat : Nat) : Int) = _
  rw [BitVec.ofInt_natCast, BitVec.ofInt_natCast, BitVec.toNat_and, BitVec.toNat_ofNat, BitVec.toNat_ofNat, show (2 : Nat) ^ 64 = 18446744073709551616 from rfl, Nat.mod_eq_of_lt (by omega), show (1 : Nat) % 18446744073709551616 = 1 from rfl, Nat.and_one_is_mod]
  exact IntWalk.i64_in _ (by omega)
theorem or_u8 {a x i : Nat} (hi : i ≤ 7) (ha : a < 2 ^ i) (hx : x < 2) : bits .or .u8 (a : Int) ((x * 2 ^ i : Nat) : Int) = ((a + x * 2 ^ i : Nat) : Int) := by
  have hp : 2 ^ i ≤ 2 ^ 7 := Nat.pow_le_pow_right (by omega) hi
  have hx2 : x * 2 ^ i ≤ 1 * 2 ^ i := Nat.mul_le_mul_right _ (by omega)
  have e : a ||| x * 2 ^ i = a + x * 2 ^ i := by
    rw [Nat.mul_comm, Nat.or_comm, Nat.add_comm, Nat.two_pow_add_eq_or_of_lt ha]
  show IntKind.u8.wrap (((BitVec.ofInt 8 (a : Int) ||| BitVec.ofInt 8 ((x * 2 ^ i : Nat) : Int)).toNat : Nat) : Int) = _
  rw [BitVec.ofInt_natCast, BitVec.ofInt_natCast, BitVec.toNat_or, BitVec.toNat_ofNat, BitVec.toNat_ofNat, show (2 : Nat) ^ 8 = 256 from rfl, Nat.mod_eq_of_lt (by omega), Nat.mod_eq_of_lt (by omega), e, wrap_u8]
  omega
set_option maxHeartbeats 16000000 in
set_option maxRecDepth 100000 in
theorem pack_any (A : Option Addr) (c : Nat) (L : List Nat) (k N : Nat) (hN : (L.length * k + 7) / 8 = N) (hL : L.length ≤ 2000) (hk : k ≤ 32) (hl : ∀ n ∈ L, n ≤ 4611686018427387904) (w : World) (hr : Ri w A L.length L) :
    Calls Tryz.prog 172 #[.slice A L.length c, .int .i64 (k : Int)] w (SomePack L k N w) := by
  obtain ⟨i0, hi0, hz0, hz1, hz2⟩ := info_parts info_u8
  have HI := Lib.hid (And.intro hi0 (And.intro hz0 (And.intro hz1 hz2)))
  have HR := Lib.hid hr
  have HL := Lib.hid hl
  have HS : Hid (∀ W, Calls Tryz.prog 174 #[.int .i64 (L.length : Int), .int .i64 (k : Int)] W fun e w' => e = .returned (.int .i64 (N : Int)) ∧ W = w') := fun W => size_any L.length k N hN hL hk W
  have hNb : N ≤ 8001 := by have := Nat.mul_le_mul hL hk; omega
  have li : (L.length : Int) ≤ 2000 := by omega
  have ki : (k : Int) ≤ 32 := by omega
  have k0 : (0 : Int) ≤ (k : Int) := by omega
  have HN := Lib.hid hN
  clear hi0 hz0 hz1 hz2 hr hl hN
  go_enter Tryz.func172, Tryz.ntmps172
  go_wp2_with (first
    | (go_at_call 174; refine (HS.out _).mono ?_; rintro e w' ⟨rfl, rfl⟩)
    | (refine wpList_make_any _ rfl (.tmp 23) (.tmp 23) 41 rfl 5 i0 (.int .u8 0) 1 Tryz.underlying41 HI.out.1 HI.out.2.1 HI.out.2.2.1 .i64 .i64 _ _ N N rfl rfl rfl (by omega) (by omega) (by rw [HI.out.2.2.2]; omega) (by omega) ?_; rw [made_u8]))
  have HB0 : Hid (ORel L k N w.heap.size w (.int .i64 0) (w.alloc (.cells (bys (List.replicate N 0)).toArray 5))) := by
    refine ⟨0, by omega, rfl, fun j hj => by omega, ?_, Bel.rf.al _⟩
    rw [Nat.zero_mul, bytesK_zero]
    exact Bk.nw _ _ _
  clear HS
  go_loopw [27] (fun s27 wr => ORel L k N w.heap.size w s27 wr) (fun s27 _ => L.length - (intOf s27).toNat)
  case atStart => exact HB0.out
  case round =>
    clear HB0
    obtain ⟨i, hi, rfl, hf, hb, hbe⟩ := hrel
    rename_i wr
    have HF := Lib.hid hf
    have HB := Lib.hid hb
    have HX := Lib.hid hbe
    clear hf hb hbe
    rcases Nat.lt_or_ge i L.length with hlt | hge
    · obtain ⟨ad, hA, hab, hac⟩ := HR.out.2 (by omega)
      subst hA
      have hcell := HX.out.kp (hac i hlt)
      have hmem : L.getD i 0 ∈ L := by rw [List.getD_eq_getElem?_getD, List.getElem?_eq_getElem hlt]; exact List.getElem_mem hlt
      have hnb := HL.out _ hmem
      obtain ⟨n, hn⟩ : ∃ n, L.getD i 0 = n := ⟨_, rfl⟩
      rw [hn] at hcell hmem hnb
      have HN2 := Lib.hid hn
      have HM := Lib.hid hmem
      have ii : (i : Int) < (L.length : Int) := by omega
      have nb : (n : Int) ≤ 4611686018427387904 := by omega
      clear hac hn hmem
      rcases Nat.lt_or_ge n (2 ^ k) with hfit | hfit
      · have HFY : Hid (∀ w, Calls Tryz.prog 176 #[.int .i64 (n : Int), .int .i64 (k : Int)] w fun e w' => e = .returned (.bool true) ∧ w = w') := fun w => fits_yes n k hfit hk w
        have HFIT := Lib.hid hfit
        clear hfit
        obtain ⟨W, rfl⟩ : ∃ W : World, W = wr := ⟨_, rfl⟩
        go_wp2_with (go_at_call 176; refine (HFY.out _).mono ?_; rintro e w' ⟨rfl, rfl⟩)
        go_loopw [37] (fun s37 wr => ∃ (j : Nat) (V : World), V = wr ∧ j ≤ k ∧ s37 = .int .i64 (j : Int) ∧ Bk wr w.heap.size 5 (bys (bytesK L k N (i * k + j))).toArray ∧ Bel w wr) (fun s37 _ => k - (intOf s37).toNat)
        case atStart => exact ⟨0, _, rfl, by omega, rfl, HB.out, HX.out⟩
        case round =>
          obtain ⟨j, wq, hwq, hj, rfl, hb, hbe⟩ := hrel
          subst hwq
          have HBQ := Lib.hid hb
          have HXQ := Lib.hid hbe
          clear hb hbe
          rcases Nat.lt_or_ge j k with hjk | hjk
          · obtain ⟨K, hK⟩ : ∃ K, i * k + j = K := ⟨_, rfl⟩
            have hKt : K < L.length * k := by
              have : (i + 1) * k ≤ L.length * k := Nat.mul_le_mul_right _ hlt
              rw [Nat.add_mul] at this
              omega
            have hKN : K / 8 < N := by have := HN.out; omega
            have hKb : K ≤ 64000 := by have := Nat.mul_le_mul hL hk; omega
            have hbit : fb L k K = n / 2 ^ j % 2 := by rw [← hK, fb_at L i hjk, HN2.out]
            have hst := pk_step (fb_lt L k) K
            have hset := bytesK_step (L := L) (w := k) (n := N) hKN
            have hbl := pk_lt (fb_lt L k) K (K / 8)
            have hxl := fb_lt L k K
            have hget := bytesK_at (L := L) (w := k) (K := K) hKN
            obtain ⟨x, hx⟩ : ∃ x, fb L k K = x := ⟨_, rfl⟩
            obtain ⟨b, hb⟩ : ∃ b, pk (fb L k) K (K / 8) = b := ⟨_, rfl⟩
            rw [hx] at hbit hst hset hxl
            rw [hb] at hst hset hbl hget
            have e0 : (i : Int) * (k : Int) = ((i * k : Nat) : Int) := by simp
            have e1 : bits .and .i64 ((n : Int) / 2 ^ j) 1 = (x : Int) := by
              rw [show (n : Int) / 2 ^ j = ((n / 2 ^ j : Nat) : Int) by simp, and1_i64 (by have := Nat.div_le_self n (2 ^ j); omega), hbit]
            obtain ⟨y, hy⟩ : ∃ y, x * 2 ^ (K % 8) = y := ⟨_, rfl⟩
            have e2 : (x : Int) * 2 ^ (K % 8) % 256 = (y : Int) := by
              have h1 : (2 : Nat) ^ (K % 8) ≤ 2 ^ 7 := Nat.pow_le_pow_right (by omega) (by omega)
              have h2 : x * 2 ^ (K % 8) ≤ 1 * 2 ^ (K % 8) := Nat.mul_le_mul_right _ (by omega)
              rw [show (x : Int) * 2 ^ (K % 8) = ((x * 2 ^ (K % 8) : Nat) : Int) by simp, hy]
              rw [hy] at h2
              omega
            obtain ⟨z, hz⟩ : ∃ z, b + y = z := ⟨_, rfl⟩
            have e3 : bits .or .u8 (b : Int) (y : Int) = (z : Int) := by
              have := or_u8 (by omega) hst.2 hxl
              rwa [hy, hz] at this
            rw [hy, hz] at hset
            have HYZ := Lib.hid (And.intro hy hz)
            clear hy hz
            have hc8 : wq.cell? ⟨w.heap.size, K / 8, none⟩ = some (.int .u8 (b : Int)) := by
              rw [HBQ.out.cell (K / 8), hK]
              have : (bys (bytesK L k N K))[K / 8]? = some (.int .u8 ((bytesK L k N K).getD (K / 8) 0 : Nat)) := bys_at (by rw [bytesK_len]; exact hKN)
              rw [hget] at this
              simpa using this
            have hf8 : wq.frozen? ⟨w.heap.size, K / 8, none⟩ = false := HBQ.out.fr _
            have hib : (i * k : Nat) ≤ 64000 := by omega
            obtain ⟨m, hm⟩ : ∃ m, i * k = m := ⟨_, rfl⟩
            rw [hm] at e0 hK hib
            have HKH := Lib.hid hK
            have eK : (m : Int) + (j : Int) = (K : Int) := by omega
            have Ki : (K : Int) ≤ 64000 := by omega
            have KN : (K : Int) / 8 < (N : Int) := by omega
            have ji : (j : Int) < (k : Int) := by omega
            have xi : (x : Int) < 2 := by omega
            have HSET := Lib.hid hset
            have HGET := Lib.hid hget
            have HMM := Lib.hid hm
            clear hst hset hget hbit hx hb hm hK hKt
            go_wp2
            go_region
            go_wp2
            go_roundw
            case rel =>
              refine ⟨j + 1, _, rfl, by omega, by go_num, ?_, (HXQ.out.st (Nat.le_refl _) _).drw⟩
              have h1 := HKH.out
              have h2 := HMM.out
              have h3 := HBQ.out
              rw [h2, h1] at h3
              have h4 := h3.st (K / 8) (.int .u8 (z : Int))
              rw [bys_set, HSET.out] at h4
              rw [h2, show m + (j + 1) = K + 1 by omega]
              exact h4.drw
            case measure => simp [intOf]; omega
          · obtain rfl : j = k := by omega
            go_wp2
            go_roundw
            case rel =>
              refine ⟨i + 1, by omega, by go_num, fun x hx => ?_, ?_, HXQ.out⟩
              · rcases Nat.lt_or_ge x i with h | h
                · exact HF.out x h
                · obtain rfl : x = i := by omega
                  rw [HN2.out]; exact HFIT.out
              · have := HBQ.out
                rwa [show i * j + j = (i + 1) * j by rw [Nat.add_mul]; omega] at this
            case measure => simp [intOf]; omega
      · have HFN : Hid (∀ w, Calls Tryz.prog 176 #[.int .i64 (n : Int), .int .i64 (k : Int)] w fun e w' => e = .returned (.bool false) ∧ w = w') := fun w => fits_no n k hfit hnb hk w
        have HFIT := Lib.hid hfit
        clear hfit
        go_wp2_with (go_at_call 176; refine (HFN.out _).mono ?_; rintro e w' ⟨rfl, rfl⟩)
        go_ret2
        exact .inr ⟨⟨n, HM.out, HFIT.out⟩, rfl, HX.out⟩
    · obtain rfl : i = L.length := by omega
      have hall : ∀ n ∈ L, n < 2 ^ k := fun n hn => by
        obtain ⟨j, hj, rfl⟩ := List.getElem_of_mem hn
        have := HF.out j hj
        rwa [List.getD_eq_getElem?_getD, List.getElem?_eq_getElem hj] at this
      have HALL := Lib.hid hall
      have hb : Bk wr w.heap.size 5 (bys (packed L k)).toArray := by
        have h1 := HB.out
        have h2 := HN.out
        unfold packed
        rwa [h2]
      have HBB := Lib.hid hb
      clear hall hb
      go_wp2
      go_ret2
      refine .inl ⟨HALL.out, w.heap.size, rfl, rd_bk HBB.out (bytesK_lt _ _ _ _) N ?_, ⟨Nat.le_refl _, HBB.out⟩, HX.out⟩
      have := HN.out
      unfold packed
      rw [bytesK_len, this]
end Go.Proofs.YtnjojdmmalmhaaaGreatDoor.Pk
namespace Go.Proofs.YtnjojdmmalmhaaaGreatDoor.Pk
open Go.ChangeShapes Go.WideShapes Go.RowKit Wo Bm By Cd
set_option linter.unusedVariables false
def bitB (B : List Nat) (K : Nat) : Nat := B.getD (K / 8) 0 / 2 ^ (K % 8) % 2
theorem bitB_lt (B : List Nat) (K : Nat) : bitB B K < 2 := Nat.mod_lt _ (by decide)
theorem and1_u8 {a : Nat} (ha : a < 256) : bits .and .u8 (a : Int) 1 = ((a % 2 : Nat) : Int) := by
  have key : ∀ b : Nat, b < 256 → bits .and .u8 ((b : Nat) : Int) 1 = ((b % 2 : Nat) : Int) := by decide +kernel
  exact key a ha
theorem bit_any (A : Option Addr) (c N : Nat) (B : List Nat) (K : Nat) (hK : K / 8 < N) (hKb : K ≤ 1000000) (hN : N ≤ 1000000) (w : World) (hr : Rd w A N B) (x : Nat) (hx : bitB B K = x) :
    Calls Tryz.prog 175 #[.slice A N c, .int .i64 (K : Int)] w fun e w' => e = .returned (.int .i64 (x : Int)) ∧ w = w' := by
  obtain ⟨ad, rfl, hab, hac⟩ := hr.2.2 (by omega)
  have hcell := hac _ hK
  have hb := hr.byte (K / 8)
  unfold bitB at hx
  obtain ⟨b, hbb⟩ : ∃ b, B.getD (K / 8) 0 = b := ⟨_, rfl⟩
  rw [hbb] at hcell hb hx
  have hd : b / 2 ^ (K % 8) < 256 := by have := Nat.div_le_self b (2 ^ (K % 8)); omega
  have e1 : bits .and .u8 ((b : Int) / 2 ^ (K % 8)) 1 = (x : Int) := by
    rw [show (b : Int) / 2 ^ (K % 8) = ((b / 2 ^ (K % 8) : Nat) : Int) by simp, and1_u8 hd, hx]
  have xl : x < 2 := by rw [← hx]; exact Nat.mod_lt _ (by decide)
  have xi : (x : Int) < 2 := by omega
  have Ki : (K : Int) ≤ 1000000 := by omega
  have KN : (K : Int) / 8 < (N : Int) := by omega
  have HX := Lib.hid hx
  have HB := Lib.hid hbb
  clear hx hbb hac hd hr
  go_enter Tryz.func175, Tryz.ntmps175
  go_wp2
  go_ret
  exact ⟨rfl, rfl⟩
/-- the values while number i is read up to bit j -/
def gB (B : List Nat) (k t : Nat) : Nat → Nat := fun s => bitB B (t * k + s)
theorem gB_lt (B : List Nat) (k t s : Nat) : gB B k t s < 2 := bitB_lt _ _
def valsK (B : List Nat) (k n i j : Nat) : List Nat := (List.range n).map fun t => if t < i then val (gB B k t) k else if t = i then val (gB B k t) j else 0
def vals (B : List Nat) (k n : Nat) : List Nat := (List.range n).map fun t => val (gB B k t) k
theorem valsK_next (B : List Nat) (k n i : Nat) : valsK B k n (i + 1) 0 = valsK B k n i k := by
  unfold valsK
  apply List.map_congr_left
  intro t _
  rcases Nat.lt_trichotomy t i with h | h | h
  · simp [show t < i + 1 by omega, h]
  · subst h
    simp
  · have h1 : ¬ t < i + 1 := by omega
    have h2 : ¬ t < i := by omega
    have h3 : ¬ t = i := by omega
    simp only [if_neg h1, if_neg h2, if_neg h3, val]
    split <;> rfl
theorem valsK_end (B : List Nat) (k n : Nat) : valsK B k n n 0 = vals B k n := by
  unfold valsK vals
  apply List.map_congr_left
  intro t ht
  rw [if_pos (by simpa using ht)]
theorem valsK_zero (B : List Nat) (k n : Nat) : valsK B k n 0 0 = List.replicate n 0 := by
  apply List.ext_getElem?
  intro t
  rcases Nat.lt_or_ge t n with h | h
  · simp [valsK, h, val]
  · simp [valsK, Nat.not_lt.2 h]
theorem valsK_at {B : List Nat} {k n i j : Nat} (h : i < n) : (valsK B k n i j).getD i 0 = val (gB B k i) j := by simp [valsK, List.getD_eq_getElem?_getD, h]
theorem valsK_set {B : List Nat} {k n i j : Nat} (h : i < n) : (valsK B k n i j).set i (val (gB B k i) (j + 1)) = valsK B k n i (j + 1) := by
  apply List.ext_getElem?
  intro t
  rw [List.getElem?_set]
  rcases Classical.em (i = t) with ht | ht
  · subst ht
    simp [valsK, h]
  · rw [if_neg ht]
    rcases Nat.lt_or_ge t n with hn | hn
    · have : ¬ t = i := fun e => ht e.symm
      simp [valsK, hn, this]
    · simp [valsK, Nat.not_lt.2 hn]
def nums (L : List Nat) : List Value := L.map fun c : Nat => .int .i64 (c : Int)
theorem nums_at {L : List Nat} {j : Nat} (h : j < L.length) : (nums L)[j]? = some (.int .i64 (L.getD j 0 : Nat)) := by simp [nums, List.getD_eq_getElem?_getD, h]
theorem nums_set (L : List Nat) (j c : Nat) : (nums L).toArray.setIfInBounds j (.int .i64 (c : Int)) = (nums (L.set j c)).toArray := by simp [nums]
theorem ri_bk {w : World} {h : Nat} {t : TypeId} {L : List Nat} (hb : Bk w h t (nums L).toArray) (n : Nat) (hn : L.length = n) : Ri w (some ⟨h, 0, none⟩) n L := by
  subst hn
  refine ⟨rfl, fun _ => ⟨_, rfl, hb.lt, fun j hj => ?_⟩⟩
  rw [add_row, hb.cell j]
  simpa using nums_at hj
theorem made_i64 (n : Nat) : madeCells (Value.int .i64 0).cells (n * 1) = (nums (List.replicate n 0)).toArray := by
  apply Array.ext
  · simp [madeCells, nums]
  · intro i h1 h2
    simp [madeCells, nums, Nat.mod_one, Value.cells]
theorem info_int : (Tryz.prog.info? 3).map (fun i => (i.zero, i.size, i.bytes)) = some (some (.int .i64 0), 1, 8) := by kernel_rfl
theorem or_i64 {a x i : Nat} (hi : i ≤ 32) (ha : a < 2 ^ i) (hx : x < 2) : bits .or .i64 (a : Int) ((x * 2 ^ i : Nat) : Int) = ((a + x * 2 ^ i : Nat) : Int) := by
  have hp : 2 ^ i ≤ 2 ^ 32 := Nat.pow_le_pow_right (by omega) hi
  have hx2 : x * 2 ^ i ≤ 1 * 2 ^ i := Nat.mul_le_mul_right _ (by omega)
  have e : a ||| x * 2 ^ i = a + x * 2 ^ i := by
    rw [Nat.mul_comm, Nat.or_comm, Nat.add_comm, Nat.two_pow_add_eq_or_of_lt ha]
  show IntKind.i64.wrap (((BitVec.ofInt 64 (a : Int) ||| BitVec.ofInt 64 ((x * 2 ^ i : Nat) : Int)).toNat : Nat) : Int) = _
  rw [BitVec.ofInt_natCast, BitVec.ofInt_natCast, BitVec.toNat_or, BitVec.toNat_ofNat, BitVec.toNat_ofNat, show (2 : Nat) ^ 64 = 18446744073709551616 from rfl, Nat.mod_eq_of_lt (by omega), Nat.mod_eq_of_lt (by omega), e]
  exact IntWalk.i64_in _ (by omega)
def SomeUnpack (B : List Nat) (k n N : Nat) (w : World) (e : Ending) (w' : World) : Prop :=
  ((∀ K, n * k ≤ K → K < 8 * N → bitB B K = 0) ∧ ∃ h : Nat, e = .returned (.tuple #[.slice (some ⟨h, 0, none⟩) n n, .int .i64 0]) ∧ Ri w' (some ⟨h, 0, none⟩) n (vals B k n) ∧ (w.heap.size ≤ h ∧ Bk w' h 3 (nums (vals B k n)).toArray) ∧ Bel w w') ∨
  ((∃ K, n * k ≤ K ∧ K < 8 * N ∧ bitB B K ≠ 0) ∧ e = .returned (.tuple #[.slice none 0 0, .int .i64 3]) ∧ Bel w w')
def URel (B : List Nat) (k n g : Nat) (w : World) (s : Value) (wr : World) : Prop := ∃ (i : Nat) (V : World), V = wr ∧ i ≤ n ∧ s = .int .i64 (i : Int) ∧ Bk wr g 3 (nums (valsK B k n i 0)).toArray ∧ Bel w wr
set_option maxHeartbeats 16000000 in
set_option maxRecDepth 100000 in
theorem unpack_any (A : Option Addr) (c : Nat) (B : List Nat) (k n N : Nat) (hN : (n * k + 7) / 8 = N) (hn : n ≤ 2000) (hk : k ≤ 32) (w : World) (hr : Rd w A N B) :
    Calls Tryz.prog 171 #[.slice A N c, .int .i64 (k : Int), .int .i64 (n : Int)] w (SomeUnpack B k n N w) := by
  obtain ⟨i0, hi0, hz0, hz1, hz2⟩ := info_parts info_int
  have HI := Lib.hid (And.intro hi0 (And.intro hz0 (And.intro hz1 hz2)))
  have HR := Lib.hid hr
  have HS : Hid (∀ W, Calls Tryz.prog 174 #[.int .i64 (n : Int), .int .i64 (k : Int)] W fun e w' => e = .returned (.int .i64 (N : Int)) ∧ W = w') := fun W => size_any n k N hN hn hk W
  have hmb : n * k ≤ 2000 * 32 := Nat.mul_le_mul hn hk
  have hNb : N ≤ 8001 := by omega
  have ni : (n : Int) ≤ 2000 := by omega
  have ki : (k : Int) ≤ 32 := by omega
  have k0 : (0 : Int) ≤ (k : Int) := by omega
  have n0 : (0 : Int) ≤ (n : Int) := by omega
  have Ni : (N : Int) ≤ 8001 := by omega
  obtain ⟨m, hm⟩ : ∃ m, n * k = m := ⟨_, rfl⟩
  have em : (n : Int) * (k : Int) = (m : Int) := by rw [← hm]; simp
  rw [hm] at hmb hN
  have HN := Lib.hid hN
  have HM := Lib.hid hm
  have mi : (m : Int) ≤ 64000 := by omega
  clear hi0 hz0 hz1 hz2 hr hm hN
  go_enter Tryz.func171, Tryz.ntmps171
  go_wp2_with (go_at_call 174; refine (HS.out _).mono ?_; rintro e w' ⟨rfl, rfl⟩)
  go_loop [8] (fun s8 => ∃ K : Nat, m ≤ K ∧ K ≤ 8 * N ∧ s8 = .int .i64 (K : Int) ∧ ∀ j, m ≤ j → j < K → bitB B j = 0) (fun s8 => 8 * N - (intOf s8).toNat)
  case atStart => exact ⟨m, by omega, by have := HN.out; omega, rfl, fun j h1 h2 => by omega⟩
  case round =>
    obtain ⟨K, hK1, hK2, rfl, hz⟩ := hrel
    have HZ := Lib.hid hz
    clear hz
    rcases Nat.lt_or_ge K (8 * N) with hlt | hge
    · have Ki : (K : Int) < 8 * (N : Int) := by omega
      obtain ⟨x, hx⟩ : ∃ x, bitB B K = x := ⟨_, rfl⟩
      have HB : Hid (∀ w, Rd w A N B → Calls Tryz.prog 175 #[.slice A N c, .int .i64 (K : Int)] w fun e w' => e = .returned (.int .i64 (x : Int)) ∧ w = w') := fun w hw => bit_any A c N B K (by omega) (by omega) (by omega) w hw x hx
      rcases Nat.eq_zero_or_pos x with h0 | h0
      · have HX : Hid (bitB B K = 0) := by show _ = _; rw [hx, h0]
        subst h0
        clear hx
        go_wp2_with (go_at_call 175; refine (HB.out _ HR.out).mono ?_; rintro e w' ⟨rfl, rfl⟩)
        go_round
        case rel =>
          refine ⟨K + 1, by omega, by omega, by go_num, fun j h1 h2 => ?_⟩
          rcases Nat.lt_or_ge j K with h | h
          · exact HZ.out j h1 h
          · obtain rfl : j = K := by omega
            exact HX.out
        case measure => simp [intOf]; omega
      · have HX : Hid (bitB B K ≠ 0) := by show _ ≠ _; rw [hx]; omega
        have tx : ((x : Int) != 0) = true := by simp; omega
        clear hx
        go_wp2_with (go_at_call 175; refine (HB.out _ HR.out).mono ?_; rintro e w' ⟨rfl, rfl⟩)
        go_ret2
        exact .inr ⟨⟨K, by have := HM.out; omega, hlt, HX.out⟩, rfl, Bel.rf⟩
    · obtain rfl : K = 8 * N := by omega
      go_wp2_with (refine wpList_make_any _ rfl (.tmp 50) (.tmp 50) 22 rfl 3 i0 (.int .i64 0) 1 Tryz.underlying22 HI.out.1 HI.out.2.1 HI.out.2.2.1 .i64 .i64 _ _ n n rfl rfl rfl (by omega) (by omega) (by rw [HI.out.2.2.2]; omega) (by omega) ?_; rw [made_i64])
      have HZA : Hid (∀ K, n * k ≤ K → K < 8 * N → bitB B K = 0) := by
        show ∀ _, _
        intro K h1 h2
        exact HZ.out K (by have := HM.out; omega) h2
      have HB0 : Hid (URel B k n w.heap.size w (.int .i64 0) (w.alloc (.cells (nums (List.replicate n 0)).toArray 3))) := by
        refine ⟨0, _, rfl, by omega, rfl, ?_, Bel.rf.al _⟩
        rw [valsK_zero]
        exact Bk.nw _ _ _
      clear HZ HS
      go_loopw [54] (fun s54 wr => URel B k n w.heap.size w s54 wr) (fun s54 _ => n - (intOf s54).toNat)
      case atStart => exact HB0.out
      case round =>
        clear HB0
        obtain ⟨i, wr, hwr, hi, rfl, hb, hbe⟩ := hrel
        subst hwr
        have HB := Lib.hid hb
        have HX := Lib.hid hbe
        clear hb hbe
        rcases Nat.lt_or_ge i n with hlt | hge
        · have ii : (i : Int) < (n : Int) := by omega
          go_wp2
          go_loopw [58] (fun s58 wr => ∃ (j : Nat) (V : World), V = wr ∧ j ≤ k ∧ s58 = .int .i64 (j : Int) ∧ Bk wr w.heap.size 3 (nums (valsK B k n i j)).toArray ∧ Bel w wr) (fun s58 _ => k - (intOf s58).toNat)
          case atStart => exact ⟨0, _, rfl, by omega, rfl, HB.out, HX.out⟩
          case round =>
            obtain ⟨j, wq, hwq, hj, rfl, hb, hbe⟩ := hrel
            subst hwq
            have HBQ := Lib.hid hb
            have HXQ := Lib.hid hbe
            clear hb hbe
            rcases Nat.lt_or_ge j k with hjk | hjk
            · obtain ⟨K, hK⟩ : ∃ K, i * k + j = K := ⟨_, rfl⟩
              have hKt : K < n * k := by
                have : (i + 1) * k ≤ n * k := Nat.mul_le_mul_right _ hlt
                rw [Nat.add_mul] at this
                omega
              have hKN : K / 8 < N := by have := HN.out; have := HM.out; omega
              have hKb : K ≤ 64000 := by have := HM.out; omega
              obtain ⟨x, hx⟩ : ∃ x, bitB B K = x := ⟨_, rfl⟩
              have hg : gB B k i j = x := by unfold gB; rw [hK, hx]
              have hxl : x < 2 := by rw [← hx]; exact bitB_lt _ _
              have hBIT : Hid (∀ W, Bel w W → Calls Tryz.prog 175 #[.slice A N c, .int .i64 (K : Int)] W fun e w' => e = .returned (.int .i64 (x : Int)) ∧ W = w') := fun W hW => bit_any A c N B K hKN (by omega) (by omega) W (HR.out.bel hW) x hx
              have hvl := val_lt (gB_lt B k i) j
              have hset := valsK_set (B := B) (k := k) (j := j) hlt
              have hat := valsK_at (B := B) (k := k) (j := j) hlt
              rw [val, hg] at hset
              obtain ⟨b, hb⟩ : ∃ b, val (gB B k i) j = b := ⟨_, rfl⟩
              rw [hb] at hvl hset hat
              obtain ⟨y, hy⟩ : ∃ y, x * 2 ^ j = y := ⟨_, rfl⟩
              have hyb : y ≤ 4294967296 := by
                have h1 : (2 : Nat) ^ j ≤ 2 ^ 32 := Nat.pow_le_pow_right (by omega) (by omega)
                have h2 : x * 2 ^ j ≤ 1 * 2 ^ j := Nat.mul_le_mul_right _ (by omega)
                rw [hy] at h2
                omega
              have e2 : IntKind.i64.wrap ((x : Int) * 2 ^ j) = (y : Int) := by
                rw [show (x : Int) * 2 ^ j = ((x * 2 ^ j : Nat) : Int) by simp, hy]
                exact IntWalk.i64_in _ (by omega)
              obtain ⟨z, hz⟩ : ∃ z, b + y = z := ⟨_, rfl⟩
              have e3 : bits .or .i64 (b : Int) (y : Int) = (z : Int) := by
                have := or_i64 (a := b) (x := x) (i := j) (by omega) hvl hxl
                rwa [hy, hz] at this
              rw [hy, hz] at hset
              have hc8 : wq.cell? ⟨w.heap.size, i, none⟩ = some (.int .i64 (b : Int)) := by
                rw [HBQ.out.cell i]
                have : (nums (valsK B k n i j))[i]? = some (.int .i64 ((valsK B k n i j).getD i 0 : Nat)) := nums_at (by simp [valsK]; exact hlt)
                rw [hat] at this
                simpa using this
              have hf8 : wq.frozen? ⟨w.heap.size, i, none⟩ = false := HBQ.out.fr _
              have e0 : (i : Int) * (k : Int) = ((i * k : Nat) : Int) := by simp
              have hib : (i * k : Nat) ≤ 64000 := by omega
              obtain ⟨m2, hm2⟩ : ∃ m, i * k = m := ⟨_, rfl⟩
              rw [hm2] at e0 hK hib
              have eK : (m2 : Int) + (j : Int) = (K : Int) := by omega
              have Ki : (K : Int) ≤ 64000 := by omega
              have ji : (j : Int) < (k : Int) := by omega
              have HSET := Lib.hid hset
              have HALL := Lib.hid (And.intro hK (And.intro hm2 (And.intro hy (And.intro hz (And.intro hb hx)))))
              have q1 : IntKind.i64.wrap (m2 : Int) = (m2 : Int) := IntWalk.i64_in _ (by omega)
              have q2 : IntKind.i64.wrap (K : Int) = (K : Int) := IntWalk.i64_in _ (by omega)
              clear hset hat hvl hg hx hy hz hb hK hm2 hKt hib
              go_wp2
              go_region_with (go_at_call 175; refine (hBIT.out _ (by repeat (first | exact HXQ.out | (with_reducible refine Bel.drwN ?_ _) | (with_reducible refine Bel.drw ?_)))).mono ?_; rintro e w' ⟨rfl, rfl⟩)
              all_goals
                go_wp2
                go_roundw
                case rel =>
                  refine ⟨j + 1, _, rfl, by omega, by go_num, ?_, ?_⟩
                  · have h4 := HBQ.out.st i (.int .i64 (z : Int))
                    rw [nums_set, HSET.out] at h4
                    first | exact h4 | exact h4.drw | exact h4.drwN _
                  · first | exact (HXQ.out.st (Nat.le_refl _) _) | exact (HXQ.out.st (Nat.le_refl _) _).drw | exact (HXQ.out.st (Nat.le_refl _) _).drwN _
                case measure => simp [intOf]; omega
            · obtain rfl : j = k := by omega
              go_wp2
              go_roundw
              case rel => exact ⟨i + 1, _, rfl, by omega, by go_num, by rw [valsK_next]; exact HBQ.out, HXQ.out⟩
              case measure => simp [intOf]; omega
        · obtain rfl : i = n := by omega
          have hb : Bk wr w.heap.size 3 (nums (vals B k i)).toArray := by have := HB.out; rwa [valsK_end] at this
          have HBB := Lib.hid hb
          clear hb
          go_wp2
          go_ret2
          exact .inl ⟨HZA.out, w.heap.size, rfl, ri_bk HBB.out i (by simp [vals]), ⟨Nat.le_refl _, HBB.out⟩, HX.out⟩
end Go.Proofs.YtnjojdmmalmhaaaGreatDoor.Pk
namespace Go.Proofs.YtnjojdmmalmhaaaGreatDoor.Pk
open Go.ChangeShapes Go.WideShapes Go.RowKit Wo Bm By Cd Sr
set_option linter.unusedVariables false
theorem bitB_packed (L : List Nat) (k K : Nat) (h : K / 8 < (L.length * k + 7) / 8) : bitB (packed L k) K = if K < L.length * k then fb L k K else 0 := by
  unfold bitB packed
  rw [bytesK_at h]
  exact pk_bit (fb_lt L k) _ K
theorem packed_rest (L : List Nat) (k N : Nat) (hN : (L.length * k + 7) / 8 = N) : ∀ K, L.length * k ≤ K → K < 8 * N → bitB (packed L k) K = 0 := by
  intro K h1 h2
  rw [bitB_packed L k K (by omega), if_neg (by omega)]
theorem vals_packed (L : List Nat) (k : Nat) (hf : ∀ n ∈ L, n < 2 ^ k) : vals (packed L k) k L.length = L := by
  apply List.ext_getElem?
  intro t
  rcases Nat.lt_or_ge t L.length with ht | ht
  · have hn := hf _ (List.getElem_mem ht)
    simp only [vals, List.getElem?_map, List.getElem?_range ht, Option.map_some, List.getElem?_eq_getElem ht]
    congr 1
    rw [← val_full hn]
    apply val_congr
    intro j hj
    have hlt : t * k + j < L.length * k := by
      have : (t + 1) * k ≤ L.length * k := Nat.mul_le_mul_right _ ht
      rw [Nat.add_mul] at this
      omega
    show bitB (packed L k) (t * k + j) = _
    rw [bitB_packed L k _ (by omega), if_pos hlt, fb_at L t hj, List.getD_eq_getElem?_getD, List.getElem?_eq_getElem ht]
    rfl
  · simp [vals, Nat.not_lt.2 ht]
theorem lt_bl {n : Nat} (h : n < 4294967296) : n < 2 ^ Lib.bitLen n := by
  rcases Nat.eq_zero_or_pos n with h0 | h0
  · subst h0; exact Nat.two_pow_pos _
  · exact (Lib.bitLenAux_bounds 64 n (by omega) (by omega)).2.2
theorem bl_le_n {n : Nat} (h : n < 4294967296) (h0 : n ≠ 0) : 1 ≤ Lib.bitLen n ∧ 2 ^ (Lib.bitLen n - 1) ≤ n := by
  have := Lib.bitLenAux_bounds 64 n (by omega) h0
  exact ⟨this.1, this.2.1⟩
theorem wd_fold (L : List Nat) : ∀ m, (∀ n ∈ L, Lib.bitLen n ≤ L.foldl (fun m n => max m (Lib.bitLen n)) m) ∧ m ≤ L.foldl (fun m n => max m (Lib.bitLen n)) m ∧ (L.foldl (fun m n => max m (Lib.bitLen n)) m = m ∨ ∃ n ∈ L, Lib.bitLen n = L.foldl (fun m n => max m (Lib.bitLen n)) m) := by
  induction L with
  | nil => intro m; exact ⟨by simp, Nat.le_refl _, .inl rfl⟩
  | cons a L ih =>
    intro m
    obtain ⟨h1, h2, h3⟩ := ih (max m (Lib.bitLen a))
    simp only [List.foldl_cons]
    refine ⟨fun n hn => ?_, by omega, ?_⟩
    · rcases List.mem_cons.1 hn with rfl | h
      · omega
      · exact h1 n h
    · rcases h3 with h3 | ⟨n, hn, he⟩
      · rcases Nat.lt_or_ge m (Lib.bitLen a) with h | h
        · exact .inr ⟨a, by simp, by rw [h3]; omega⟩
        · exact .inl (by rw [h3]; omega)
      · exact .inr ⟨n, by simp [hn], he⟩
theorem wd_fits {L : List Nat} (h : ∀ n ∈ L, n < 4294967296) : ∀ n ∈ L, n < 2 ^ wd L := fun n hn =>
  Nat.lt_of_lt_of_le (lt_bl (h n hn)) (Nat.pow_le_pow_right (by omega) ((wd_fold L 0).1 n hn))
theorem wd_least {L : List Nat} (h : ∀ n ∈ L, n < 4294967296) (h1 : 1 ≤ wd L) : ∃ n ∈ L, 2 ^ (wd L - 1) ≤ n := by
  rcases (wd_fold L 0).2.2 with h2 | ⟨n, hn, he⟩
  · have : wd L = 0 := h2
    omega
  · have hne : n ≠ 0 := by
      rintro rfl
      have : Lib.bitLen 0 = 0 := by decide
      have h3 : Lib.bitLen 0 = wd L := he
      omega
    have := (bl_le_n (h n hn) hne).2
    rw [show Lib.bitLen n = wd L from he] at this
    exact ⟨n, hn, this⟩
theorem row_ri {w : World} {base k : Nat} {v : Value} {L : List Nat} (h : w.ownsRow base 3 1 v k (nums L)) (hk : L.length = k) : ∃ A c, v = .slice A k c ∧ Ri w A k L ∧ (A = none → c = 0) := by
  rcases Nat.eq_zero_or_pos k with h0 | h0
  · subst h0
    have hL : L = [] := List.eq_nil_of_length_eq_zero hk
    subst hL
    rcases h.2 with ⟨rfl, _⟩ | ⟨g, cap, cur, rfl, _⟩
    · exact ⟨none, 0, rfl, ⟨rfl, fun h => by omega⟩, fun _ => rfl⟩
    · exact ⟨some ⟨g, 0, none⟩, cap, rfl, ⟨rfl, fun h => by omega⟩, fun h => by cases h⟩
  · obtain ⟨g, cap, rfl, hb, hlt⟩ := h.form h0
    refine ⟨some ⟨g, 0, none⟩, cap, rfl, ⟨hk, fun _ => ⟨_, rfl, hlt, fun j hj => ?_⟩⟩, fun h => by cases h⟩
    exact h.cells (g := g) rfl j _ (nums_at (by omega))
theorem Ri.bel {w w' : World} {A : Option Addr} {n : Nat} {L : List Nat} (h : Ri w A n L) (hb : Bel w w') : Ri w' A n L :=
  ⟨h.1, fun hn => by
    obtain ⟨ad, e, hx, hc⟩ := h.2 hn
    exact ⟨ad, e, by have := hb.size; omega, fun j hj => hb.kp (hc j hj)⟩⟩
theorem int_ne_self (x : Int) : (x != x) = false := by simp
set_option maxHeartbeats 4000000 in
theorem ints_same (A A' : Option Addr) (c c' n : Nat) (L : List Nat) (hn : n ≤ 1000000) (w : World) (h1 : Ri w A n L) (h2 : Ri w A' n L) :
    Calls Tryz.prog 11 #[.slice A n c, .slice A' n c'] w fun e w' => e = .returned (.bool true) ∧ Bel w w' := by
  have H1 := Lib.hid h1
  have H2 := Lib.hid h2
  have ni : (n : Int) ≤ 1000000 := by omega
  clear h1 h2
  go_enter Tryz.func11, Tryz.ntmps11
  go_wp2
  go_loopw [13] (fun s13 wr => ∃ (k : Nat) (V : World), V = wr ∧ k ≤ n ∧ s13 = .int .i64 (k : Int) ∧ Bel w wr) (fun s13 _ => n - (intOf s13).toNat)
  case atStart => exact ⟨0, _, rfl, by omega, rfl, Bel.rf⟩
  case round =>
    obtain ⟨k, wr, hwr, hk, rfl, hb⟩ := hrel
    subst hwr
    have HB := Lib.hid hb
    rcases Nat.lt_or_ge k n with hlt | hge
    · obtain ⟨ad, rfl, hab, hac⟩ := (Ri.bel H1.out hb).2 (by omega)
      obtain ⟨ad', rfl, hab', hac'⟩ := (Ri.bel H2.out hb).2 (by omega)
      have c1 := hac k hlt
      have c2 := hac' k hlt
      obtain ⟨x, hx⟩ : ∃ x, L.getD k 0 = x := ⟨_, rfl⟩
      rw [hx] at c1 c2
      have ki : (k : Int) < (n : Int) := by omega
      have kn := int_ne_self (x : Int)
      clear hb hac hac' hab hab' hx
      go_wp2
      go_quiet (fail)
      go_wp2
      go_roundw
      case rel => exact ⟨k + 1, _, rfl, by omega, by go_num, HB.out.drwN _⟩
      case measure => simp [intOf]; omega
    · obtain rfl : k = n := by omega
      clear hb
      go_wp2
      go_ret
      exact ⟨rfl, HB.out⟩
end Go.Proofs.YtnjojdmmalmhaaaGreatDoor.Pk
namespace Go.Proofs.YtnjojdmmalmhaaaGreatDoor.Cr
set_option linter.unusedVariables false
/-- one shift of the register -/
def step1 (n : Nat) : Nat := if n % 2 = 1 then (n / 2) ^^^ 3988292384 else n / 2
def tab (i : Nat) : Nat := step1 (step1 (step1 (step1 (step1 (step1 (step1 (step1 i)))))))
def stp (r c : Nat) : Nat := (r / 256) ^^^ tab ((r % 256) ^^^ c)
def reg (l : List Nat) : Nat := l.foldl stp 4294967295
def crc (l : List Nat) : Nat := 4294967295 - reg l
theorem step1_lt {n : Nat} (h : n < 4294967296) : step1 n < 4294967296 := by
  unfold step1
  split
  · exact Nat.xor_lt_two_pow (n := 32) (by omega) (by omega)
  · omega
theorem tab_lt {i : Nat} (h : i < 4294967296) : tab i < 4294967296 := by
  unfold tab
  exact step1_lt (step1_lt (step1_lt (step1_lt (step1_lt (step1_lt (step1_lt (step1_lt h)))))))
theorem idx_lt {r c : Nat} (hc : c < 256) : (r % 256) ^^^ c < 256 := Nat.xor_lt_two_pow (n := 8) (by omega) (by omega)
theorem stp_lt {r c : Nat} (hr : r < 4294967296) (hc : c < 256) : stp r c < 4294967296 := by
  unfold stp
  exact Nat.xor_lt_two_pow (n := 32) (by omega) (tab_lt (by have := idx_lt (r := r) hc; omega))
theorem fold_lt (l : List Nat) : ∀ (r : Nat), r < 4294967296 → (∀ c ∈ l, c < 256) → l.foldl stp r < 4294967296 := by
  induction l with
  | nil => intro r hr _; exact hr
  | cons c l ih =>
    intro r hr h
    exact ih _ (stp_lt hr (h c (by simp))) (fun x hx => h x (by simp [hx]))
theorem reg_lt {l : List Nat} (h : ∀ c ∈ l, c < 256) : reg l < 4294967296 := fold_lt l _ (by decide) h
theorem reg_snoc (l : List Nat) (c : Nat) : reg (l ++ [c]) = stp (reg l) c := by simp [reg, List.foldl_append]
/-- a shift turned back -/
def undo1 (n : Nat) : Nat := if 2147483648 ≤ n then ((n ^^^ 3988292384) * 2 + 1) % 4294967296 else n * 2 % 4294967296
def undo (t : Nat) : Nat := undo1 (undo1 (undo1 (undo1 (undo1 (undo1 (undo1 (undo1 (t * 16777216)))))))) % 256
theorem undo_tab : ∀ i, i < 256 → undo (tab i / 16777216) = i := by decide +kernel
theorem top_inj {i j : Nat} (hi : i < 256) (hj : j < 256) (h : tab i / 16777216 = tab j / 16777216) : i = j := by
  rw [← undo_tab i hi, ← undo_tab j hj, h]
theorem xor_top {a b : Nat} (ha : a < 16777216) : (a ^^^ b) / 16777216 = b / 16777216 := by
  have h := @Nat.shiftRight_xor_distrib 24 a b
  rw [Nat.shiftRight_eq_div_pow, Nat.shiftRight_eq_div_pow, Nat.shiftRight_eq_div_pow] at h
  rw [show (2 : Nat) ^ 24 = 16777216 from rfl] at h
  rw [h, Nat.div_eq_of_lt ha, Nat.zero_xor]
theorem xor_cancel {a b c : Nat} (h : a ^^^ c = b ^^^ c) : a = b := by
  have := congrArg (· ^^^ c) h
  simpa [Nat.xor_assoc] using this
theorem xor_cancel' {a b c : Nat} (h : c ^^^ a = c ^^^ b) : a = b := by
  rw [Nat.xor_comm c a, Nat.xor_comm c b] at h
  exact xor_cancel h
theorem stp_inj {r s c : Nat} (hr : r < 4294967296) (hs : s < 4294967296) (hc : c < 256) (h : stp r c = stp s c) : r = s := by
  unfold stp at h
  have ht := congrArg (· / 16777216) h
  simp only [xor_top (show r / 256 < 16777216 by omega), xor_top (show s / 256 < 16777216 by omega)] at ht
  have hi := top_inj (idx_lt hc) (idx_lt hc) ht
  rw [hi] at h
  have h1 := xor_cancel h
  have h2 := xor_cancel hi
  omega
theorem stp_byte {r c d : Nat} (hr : r < 4294967296) (hc : c < 256) (hd : d < 256) (h : stp r c = stp r d) : c = d := by
  unfold stp at h
  have h1 := xor_cancel' h
  exact xor_cancel' (top_inj (idx_lt hc) (idx_lt hd) (by rw [h1]))
theorem fold_inj (l : List Nat) : ∀ (r s : Nat), r < 4294967296 → s < 4294967296 → (∀ c ∈ l, c < 256) → l.foldl stp r = l.foldl stp s → r = s := by
  induction l with
  | nil => intro r s _ _ _ h; exact h
  | cons c l ih =>
    intro r s hr hs hl h
    have hc := hl c (by simp)
    exact stp_inj hr hs hc (ih _ _ (stp_lt hr hc) (stp_lt hs hc) (fun x hx => hl x (by simp [hx])) h)
/-- one byte that differs changes the sum -/
theorem crc_set {l : List Nat} {i d : Nat} (hl : ∀ c ∈ l, c < 256) (hi : i < l.length) (hd : d < 256) (hne : l[i] ≠ d) : crc (l.set i d) ≠ crc l := by
  have hs : ∀ c ∈ l.set i d, c < 256 := fun c hc => by
    rcases List.mem_or_eq_of_mem_set hc with h | h
    · exact hl c h
    · omega
  have e1 : l.set i d = l.take i ++ d :: l.drop (i + 1) := List.set_eq_take_append_cons_drop.trans (by simp [hi])
  have e2 : l = l.take i ++ l[i] :: l.drop (i + 1) := by
    rw [← List.drop_eq_getElem_cons hi, List.take_append_drop]
  intro h
  have r1 := reg_lt hs
  have r2 := reg_lt hl
  unfold crc at h
  have h2 : reg (l.set i d) = reg l := by omega
  rw [e1] at h2
  have h3 : reg (l.take i ++ d :: l.drop (i + 1)) = reg (l.take i ++ l[i] :: l.drop (i + 1)) := h2.trans (congrArg reg e2)
  unfold reg at h3
  rw [List.foldl_append, List.foldl_append, List.foldl_cons, List.foldl_cons] at h3
  have ht : ∀ c ∈ l.take i, c < 256 := fun c hc => hl c (List.mem_of_mem_take hc)
  have hr := fold_lt (l.take i) 4294967295 (by decide) ht
  have hli := hl l[i] (List.getElem_mem hi)
  have h4 := fold_inj _ _ _ (stp_lt hr hd) (stp_lt hr hli) (fun c hc => hl c (List.mem_of_mem_drop hc)) h3
  exact hne (stp_byte hr hd hli h4).symm
theorem crc_digits : crc [49, 50, 51, 52, 53, 54, 55, 56, 57] = 3421780262 := by decide +kernel
end Go.Proofs.YtnjojdmmalmhaaaGreatDoor.Cr
namespace Go.Proofs.YtnjojdmmalmhaaaGreatDoor.Pk
open Cd Cr
set_option linter.unusedVariables false
def seal4 (s : Nat) : List Nat := [s % 256, s / 256 % 256, s / 65536 % 256, s / 16777216 % 256]
def In64 (n : Int) : Prop := -9223372036854775808 ≤ n ∧ n ≤ 9223372036854775807
theorem bytes_inj {n m : Int} {r s : List Nat} (hn : In64 n) (hm : In64 m) (h : bytesOf n ++ r = bytesOf m ++ s) : n = m ∧ r = s := by
  have h1 := dec_bytes (B := bytesOf n ++ r) (rest := r) (at_ := 0) hn.1 hn.2 rfl
  have h2 := dec_bytes (B := bytesOf n ++ r) (rest := s) (at_ := 0) hm.1 hm.2 (by simpa using h)
  rw [h1] at h2
  have e : n = m := by injection h2
  subst e
  exact ⟨rfl, List.append_cancel_left h⟩
theorem bytesOf_byte {n : Int} (h : In64 n) : ∀ c ∈ bytesOf n, c < 256 := enc_byte 9 _ (by rw [room_nine]; exact fld_lt h.1 h.2)
theorem bytesOf_len (n : Int) : 1 ≤ (bytesOf n).length ∧ (bytesOf n).length ≤ 10 := enc_len 9 _
theorem seal4_byte (s : Nat) : ∀ c ∈ seal4 s, c < 256 := fun c hc => by simp [seal4] at hc; omega
theorem seal4_inj {s t : Nat} (hs : s < 4294967296) (ht : t < 4294967296) (h : seal4 s = seal4 t) : s = t := by
  unfold seal4 at h
  injection h with h1 h
  injection h with h2 h
  injection h with h3 h
  injection h with h4 h
  omega
theorem drop_at (B : List Nat) (p : Nat) (h : p < B.length) : B.drop p = B.getD p 0 :: B.drop (p + 1) := by
  rw [List.drop_eq_getElem_cons h, List.getD_eq_getElem?_getD, List.getElem?_eq_getElem h]; rfl
theorem getD_byte {B : List Nat} (hB : ∀ c ∈ B, c < 256) (p : Nat) : B.getD p 0 < 256 := by
  rw [List.getD_eq_getElem?_getD]
  rcases Nat.lt_or_ge p B.length with h | h
  · rw [List.getElem?_eq_getElem h]; exact hB _ (List.getElem_mem _)
  · rw [List.getElem?_eq_none h]; decide
theorem fld_unf (u : Nat) : fld (unf u) = u := by unfold fld unf; split <;> split <;> omega
theorem unf_in {u : Nat} (h : u < 18446744073709551616) : In64 (unf u) := by unfold In64 unf; split <;> omega
theorem room_pos (f : Nat) : 128 ≤ room (f + 1) := by
  induction f with
  | zero => decide
  | succ f ih => rw [room]; omega
theorem go_canon (B : List Nat) (hB : ∀ c ∈ B, c < 256) (at_ : Nat) (f : Nat) : ∀ (i u : Nat) (n k : Int), f + i = 9 → at_ + i ≤ B.length → decGo B at_ (f + 1) i u = (n, k, 0) →
    ∃ v j : Nat, v < room f ∧ (0 < i → 0 < v) ∧ n = unf (u + v * 128 ^ i) ∧ k = (j : Int) ∧ at_ + i < j ∧ j ≤ B.length ∧ B.drop (at_ + i) = enc f v ++ B.drop j := by
  induction f with
  | zero =>
    intro i u n k hfi hle h
    obtain rfl : i = 9 := by omega
    rw [decGo] at h
    split at h
    · simp at h
    · rename_i hne
      split at h
      · rw [decGo] at h; simp at h
      · split at h
        · simp at h
        · rename_i hc hnz
          have hc1 : B.getD (at_ + 9) 0 = 1 := by omega
          simp only [Prod.mk.injEq] at h
          obtain ⟨h1, h2, _⟩ := h
          refine ⟨1, at_ + 9 + 1, by decide, fun _ => by decide, ?_, h2.symm, by omega, by omega, ?_⟩
          · rw [← h1, hc1]
          · rw [drop_at B (at_ + 9) (by omega), hc1]; rfl
  | succ f ih =>
    intro i u n k hfi hle h
    rw [decGo] at h
    split at h
    · simp at h
    · rename_i hne
      have hb := getD_byte hB (at_ + i)
      have hd := drop_at B (at_ + i) (by omega)
      obtain ⟨c, hc⟩ : ∃ c, B.getD (at_ + i) 0 = c := ⟨_, rfl⟩
      rw [hc] at h hb hd
      split at h
      · rename_i h127
        obtain ⟨v, j, hv, hp, hn, hk, hj, hl, hdr⟩ := ih (i + 1) _ n k (by omega) (by omega) h
        have hv1 := hp (by omega)
        have hsm : c % 128 * 128 ^ i < 18446744073709551616 := small_mul (f := f + 1) (by omega) (Nat.lt_of_lt_of_le (Nat.mod_lt _ (by decide)) (room_pos f))
        have e1 : (c % 128 + 128 * v) % 128 = c % 128 := by omega
        have e2 : (c % 128 + 128 * v) / 128 = v := by omega
        refine ⟨c % 128 + 128 * v, j, by rw [room]; omega, fun _ => by omega, ?_, hk, by omega, hl, ?_⟩
        · rw [hn, Nat.mod_eq_of_lt hsm, Nat.pow_succ, Nat.add_mul]
          congr 1
          have : v * (128 ^ i * 128) = 128 * v * 128 ^ i := by rw [Nat.mul_comm (128 ^ i) 128, ← Nat.mul_assoc, Nat.mul_comm v 128]
          omega
        · rw [enc_great f (by omega), e1, e2, hd, Nat.add_assoc, hdr, List.cons_append]
          congr 1
          omega
      · split at h
        · simp at h
        · rename_i hc1 hnz
          simp only [Prod.mk.injEq] at h
          obtain ⟨h1, h2, _⟩ := h
          have hsm : c % 128 * 128 ^ i < 18446744073709551616 := small_mul (f := f + 1) (by omega) (Nat.lt_of_lt_of_le (Nat.mod_lt _ (by decide)) (room_pos f))
          have e1 : c % 128 = c := Nat.mod_eq_of_lt (by omega)
          refine ⟨c, at_ + i + 1, Nat.lt_of_lt_of_le (by omega) (room_pos f), fun _ => by omega, ?_, h2.symm, by omega, by omega, ?_⟩
          · rw [← h1, Nat.mod_eq_of_lt hsm, e1]
          · rw [enc_small _ (by omega), hd]; rfl
theorem dec_canon {B : List Nat} (hB : ∀ c ∈ B, c < 256) {at_ : Nat} (hle : at_ ≤ B.length) {n k : Int} (h : dec B at_ = (n, k, 0)) :
    In64 n ∧ ∃ j : Nat, k = (j : Int) ∧ at_ < j ∧ j ≤ B.length ∧ B.drop at_ = bytesOf n ++ B.drop j := by
  obtain ⟨v, j, hv, _, hn, hk, hj, hl, hd⟩ := go_canon B hB at_ 9 0 0 n k rfl hle h
  rw [room_nine] at hv
  have e : n = unf v := by rw [hn]; simp
  subst e
  refine ⟨unf_in hv, j, hk, by omega, hl, ?_⟩
  unfold bytesOf
  rw [fld_unf]
  exact hd
end Go.Proofs.YtnjojdmmalmhaaaGreatDoor.Pk
namespace Go.Proofs.YtnjojdmmalmhaaaGreatDoor.Sg
open Pk Cd Cr Wi
set_option linter.unusedVariables false
def mn (x : List Int) : Int := Lib.minOf x
def mx (x : List Int) : Int := Lib.maxOf x
theorem fold_min (l : List Int) : ∀ m : Int, l.foldl min m ≤ m ∧ (∀ n ∈ l, l.foldl min m ≤ n) ∧ (l.foldl min m = m ∨ l.foldl min m ∈ l) := by
  induction l with
  | nil => intro m; exact ⟨Int.le_refl _, by simp, .inl rfl⟩
  | cons a l ih =>
    intro m
    obtain ⟨h1, h2, h3⟩ := ih (min m a)
    simp only [List.foldl_cons]
    refine ⟨by omega, fun n hn => ?_, ?_⟩
    · rcases List.mem_cons.1 hn with rfl | h
      · omega
      · exact h2 n h
    · rcases h3 with h3 | h3
      · rcases Int.lt_or_le m a with h | h
        · exact .inl (by rw [h3]; omega)
        · exact .inr (by rw [h3, show min m a = a by omega]; simp)
      · exact .inr (by simp [h3])
theorem fold_max (l : List Int) : ∀ m : Int, m ≤ l.foldl max m ∧ (∀ n ∈ l, n ≤ l.foldl max m) ∧ (l.foldl max m = m ∨ l.foldl max m ∈ l) := by
  induction l with
  | nil => intro m; exact ⟨Int.le_refl _, by simp, .inl rfl⟩
  | cons a l ih =>
    intro m
    obtain ⟨h1, h2, h3⟩ := ih (max m a)
    simp only [List.foldl_cons]
    refine ⟨by omega, fun n hn => ?_, ?_⟩
    · rcases List.mem_cons.1 hn with rfl | h
      · omega
      · exact h2 n h
    · rcases h3 with h3 | h3
      · rcases Int.lt_or_le a m with h | h
        · exact .inl (by rw [h3]; omega)
        · exact .inr (by rw [h3, show max m a = a by omega]; simp)
      · exact .inr (by simp [h3])
theorem mn_le {x : List Int} {n : Int} (h : n ∈ x) : mn x ≤ n := (fold_min x _).2.1 n h
theorem le_mx {x : List Int} {n : Int} (h : n ∈ x) : n ≤ mx x := (fold_max x _).2.1 n h
theorem head_mem {x : List Int} (h : 0 < x.length) : x.headD 0 ∈ x := by cases x with
  | nil => simp at h
  | cons a l => simp
theorem mn_mem {x : List Int} (h : 0 < x.length) : mn x ∈ x := by
  rcases (fold_min x (x.headD 0)).2.2 with h1 | h1
  · unfold mn Lib.minOf; rw [h1]; exact head_mem h
  · exact h1
theorem mx_mem {x : List Int} (h : 0 < x.length) : mx x ∈ x := by
  rcases (fold_max x (x.headD 0)).2.2 with h1 | h1
  · unfold mx Lib.maxOf; rw [h1]; exact head_mem h
  · exact h1
theorem mn_in {x : List Int} (hs : Sam x) (h : 0 < x.length) : -1000 ≤ mn x ∧ mn x ≤ 1000 := hs _ (mn_mem h)
theorem mx_in {x : List Int} (hs : Sam x) (h : 0 < x.length) : -1000 ≤ mx x ∧ mx x ≤ 1000 := hs _ (mx_mem h)
theorem mn_mx {x : List Int} (h : 0 < x.length) : mn x ≤ mx x := mn_le (mx_mem h)
theorem all_eq {x : List Int} (h : mn x = mx x) : x = List.replicate x.length (mn x) := by
  apply List.eq_replicate_iff.2
  refine ⟨rfl, fun n hn => ?_⟩
  have := mn_le hn
  have := le_mx hn
  omega
theorem sum_in (x : List Int) (hs : Sam x) : -1000 * (x.length : Int) ≤ x.sum ∧ x.sum ≤ 1000 * (x.length : Int) := by
  induction x with
  | nil => simp
  | cons a l ih =>
    have h1 := hs a (by simp)
    have h2 := ih (fun n hn => hs n (by simp [hn]))
    simp only [List.sum_cons, List.length_cons]
    omega
/-- the samples above the least one, and their width -/
def ab (x : List Int) : List Nat := x.map fun n => (n - mn x).toNat
def dD (x : List Int) : Nat := (mx x - mn x).toNat
def pd (x : List Int) : List Nat := packed (ab x) (wd [dD x])
theorem ab_len (x : List Int) : (ab x).length = x.length := by simp [ab]
theorem wd_one (d : Nat) : wd [d] = Lib.bitLen d := by simp [wd]
theorem dD_le {x : List Int} (hs : Sam x) (h : 0 < x.length) : dD x ≤ 2000 := by
  have := mn_in hs h
  have := mx_in hs h
  unfold dD
  omega
theorem dD_int {x : List Int} (h : 0 < x.length) : ((dD x : Nat) : Int) = mx x - mn x := by
  have := mn_mx h
  unfold dD
  omega
theorem ab_at {x : List Int} {i : Nat} (h : i < x.length) : (((ab x).getD i 0 : Nat) : Int) = x.getD i 0 - mn x := by
  have h1 := mn_le (List.getElem_mem h)
  simp only [ab, List.getD_eq_getElem?_getD, List.getElem?_map, List.getElem?_eq_getElem h, Option.map_some, Option.getD_some]
  omega
theorem ab_le {x : List Int} (h : 0 < x.length) : ∀ n ∈ ab x, n ≤ dD x := by
  intro n hn
  simp only [ab, List.mem_map] at hn
  obtain ⟨m, hm, rfl⟩ := hn
  have := mn_le hm
  have := le_mx hm
  unfold dD
  omega
theorem bl_small {n : Nat} (h : n < 4096) : Lib.bitLen n ≤ 12 := by
  rcases Nat.eq_zero_or_pos n with h0 | h0
  · subst h0; decide
  · obtain ⟨c1, c2⟩ := bl_le_n (n := n) (by omega) (by omega)
    rcases Nat.lt_or_ge 12 (Lib.bitLen n) with h1 | h1
    · have := Nat.pow_le_pow_right (n := 2) (by omega) (show 12 ≤ Lib.bitLen n - 1 by omega)
      omega
    · exact h1
theorem pw_le {x : List Int} (hs : Sam x) (h : 0 < x.length) : wd [dD x] ≤ 12 := by
  rw [wd_one]
  exact bl_small (by have := dD_le hs h; omega)
theorem ab_fits {x : List Int} (hs : Sam x) (h : 0 < x.length) : ∀ n ∈ ab x, n < 2 ^ wd [dD x] := by
  intro n hn
  have h1 := ab_le h n hn
  have h2 := dD_le hs h
  rw [wd_one]
  have := lt_bl (n := dD x) (by omega)
  omega
/-- the steps between samples, folded -/
def stp (x : List Int) : List Nat := (List.range (x.length - 1)).map fun i => fld (x.getD (i + 1) 0 - x.getD i 0)
theorem stp_len (x : List Int) : (stp x).length = x.length - 1 := by simp [stp]
theorem stp_at {x : List Int} {i : Nat} (h : i < x.length - 1) : (stp x).getD i 0 = fld (x.getD (i + 1) 0 - x.getD i 0) := by
  simp [stp, List.getD_eq_getElem?_getD, h]
theorem stp_lt {x : List Int} (hs : Sam x) : ∀ n ∈ stp x, n < 4096 := by
  intro n hn
  simp only [stp, List.mem_map] at hn
  obtain ⟨i, _, rfl⟩ := hn
  have h1 := hs.at i
  have h2 := hs.at (i + 1)
  unfold fld
  split <;> omega
theorem wd_small {L : List Nat} (h : ∀ n ∈ L, n < 4096) : wd L ≤ 12 := by
  rcases (wd_fold L 0).2.2 with h2 | ⟨n, hn, he⟩
  · have : wd L = 0 := h2
    omega
  · have h3 : Lib.bitLen n = wd L := he
    rw [← h3]
    exact bl_small (h n hn)
def dd (x : List Int) : List Nat := bytesOf (x.getD 0 0) ++ (wd (stp x) :: packed (stp x) (wd (stp x)))
theorem stp_fits {x : List Int} (hs : Sam x) : ∀ n ∈ stp x, n < 2 ^ wd (stp x) := wd_fits (fun n hn => by have := stp_lt hs n hn; omega)
theorem dw_le {x : List Int} (hs : Sam x) : wd (stp x) ≤ 12 := wd_small (stp_lt hs)
/-- the kind and the data -/
def kd (x : List Int) : Nat := if mn x = mx x then 0 else if (dd x).length < (pd x).length then 2 else 1
def dt (x : List Int) : List Nat := if mn x = mx x then [] else if (dd x).length < (pd x).length then dd x else pd x
/-- what stands ahead of the sum -/
def bod (x : List Int) : List Nat := [kd x] ++ bytesOf (x.length : Int) ++ bytesOf (mn x) ++ bytesOf (mx x - mn x) ++ bytesOf x.sum ++ dt x
def seg (x : List Int) : List Nat := bod x ++ seal4 (crc (bod x))
/-- samples that have a segment -/
def Vx (x : List Int) : Prop := 1 ≤ x.length ∧ x.length ≤ 64 ∧ Sam x
theorem packed_len (L : List Nat) (k : Nat) : (packed L k).length = (L.length * k + 7) / 8 := bytesK_len _ _ _ _
theorem packed_byte (L : List Nat) (k : Nat) : ∀ c ∈ packed L k, c < 256 := bytesK_lt _ _ _ _
theorem pd_len {x : List Int} (h : Vx x) : (pd x).length = (x.length * wd [dD x] + 7) / 8 ∧ (pd x).length ≤ 96 := by
  have h1 := pw_le h.2.2 h.1
  have e : (pd x).length = (x.length * wd [dD x] + 7) / 8 := by unfold pd; rw [packed_len, ab_len]
  refine ⟨e, ?_⟩
  have := Nat.mul_le_mul h.2.1 h1
  omega
theorem sum_i64 {x : List Int} (h : Vx x) : In64 x.sum := by
  have := sum_in x h.2.2
  have := h.2.1
  unfold In64
  omega
theorem heads_in {x : List Int} (h : Vx x) : In64 (x.length : Int) ∧ In64 (mn x) ∧ In64 (mx x - mn x) ∧ In64 x.sum ∧ In64 (x.getD 0 0) := by
  have h1 := mn_in h.2.2 h.1
  have h2 := mx_in h.2.2 h.1
  have h3 := h.2.1
  have h4 := sum_i64 h
  have h5 := h.2.2.at 0
  refine ⟨?_, ?_, ?_, h4, ?_⟩ <;> unfold In64 <;> omega
theorem dd_len {x : List Int} (h : Vx x) : 2 ≤ (dd x).length ∧ (dd x).length ≤ 107 := by
  have h1 := dw_le h.2.2
  have h2 := bytesOf_len (x.getD 0 0)
  have h3 := Nat.mul_le_mul (show (stp x).length ≤ 64 by rw [stp_len]; have := h.2.1; omega) h1
  have h4 := packed_len (stp x) (wd (stp x))
  unfold dd
  simp only [List.length_append, List.length_cons]
  omega
theorem dt_len {x : List Int} (h : Vx x) : (dt x).length ≤ 107 := by
  have := dd_len h
  have := pd_len h
  unfold dt
  split
  · simp
  · split <;> omega
theorem dd_byte {x : List Int} (h : Vx x) : ∀ c ∈ dd x, c < 256 := by
  intro c hc
  unfold dd at hc
  rcases List.mem_append.1 hc with h1 | h1
  · exact bytesOf_byte (heads_in h).2.2.2.2 c h1
  · rcases List.mem_cons.1 h1 with rfl | h2
    · have := dw_le h.2.2; omega
    · exact packed_byte _ _ c h2
theorem dt_byte {x : List Int} (h : Vx x) : ∀ c ∈ dt x, c < 256 := by
  unfold dt
  split
  · simp
  · split
    · exact dd_byte h
    · exact packed_byte _ _
theorem kd_lt (x : List Int) : kd x < 3 := by unfold kd; split; omega; split <;> omega
theorem bod_byte {x : List Int} (h : Vx x) : ∀ c ∈ bod x, c < 256 := by
  obtain ⟨a1, a2, a3, a4, _⟩ := heads_in h
  intro c hc
  unfold bod at hc
  simp only [List.mem_append, List.mem_singleton] at hc
  rcases hc with ((((rfl | h1) | h1) | h1) | h1) | h1
  · have := kd_lt x; omega
  · exact bytesOf_byte a1 c h1
  · exact bytesOf_byte a2 c h1
  · exact bytesOf_byte a3 c h1
  · exact bytesOf_byte a4 c h1
  · exact dt_byte h c h1
theorem bod_len {x : List Int} (h : Vx x) : 5 ≤ (bod x).length ∧ (bod x).length ≤ 148 := by
  have h1 := bytesOf_len (x.length : Int)
  have h2 := bytesOf_len (mn x)
  have h3 := bytesOf_len (mx x - mn x)
  have h4 := bytesOf_len x.sum
  have h5 := dt_len h
  unfold bod
  simp only [List.length_append, List.length_singleton]
  omega
theorem seg_byte {x : List Int} (h : Vx x) : ∀ c ∈ seg x, c < 256 := by
  intro c hc
  rcases List.mem_append.1 hc with h1 | h1
  · exact bod_byte h c h1
  · exact seal4_byte _ c h1
theorem seg_len {x : List Int} (h : Vx x) : 9 ≤ (seg x).length ∧ (seg x).length ≤ 152 ∧ (seg x).length = (bod x).length + 4 := by
  have h1 := bod_len h
  have h2 : (seg x).length = (bod x).length + 4 := by unfold seg; rw [List.length_append]; rfl
  omega
/-- what a body says, read -/
theorem bod_read {x : List Int} (h : Vx x) : ∃ p1 p2 p3 p4 : Nat, (bod x).getD 0 0 = kd x ∧ dec (bod x) 1 = ((x.length : Int), (p1 : Int), 0) ∧ dec (bod x) p1 = (mn x, (p2 : Int), 0) ∧ dec (bod x) p2 = (mx x - mn x, (p3 : Int), 0) ∧
    dec (bod x) p3 = (x.sum, (p4 : Int), 0) ∧ (bod x).drop p4 = dt x ∧ p1 ≤ (bod x).length ∧ p2 ≤ (bod x).length ∧ p3 ≤ (bod x).length ∧ p4 ≤ (bod x).length := by
  obtain ⟨a1, a2, a3, a4, _⟩ := heads_in h
  have e1 : (bod x).drop 1 = bytesOf (x.length : Int) ++ (bytesOf (mn x) ++ (bytesOf (mx x - mn x) ++ (bytesOf x.sum ++ dt x))) := by simp [bod]
  obtain ⟨p1, hp1⟩ : ∃ p, 1 + (bytesOf (x.length : Int)).length = p := ⟨_, rfl⟩
  have e2 : (bod x).drop p1 = bytesOf (mn x) ++ (bytesOf (mx x - mn x) ++ (bytesOf x.sum ++ dt x)) := by
    rw [← hp1, ← List.drop_drop, e1, List.drop_left]
  obtain ⟨p2, hp2⟩ : ∃ p, p1 + (bytesOf (mn x)).length = p := ⟨_, rfl⟩
  have e3 : (bod x).drop p2 = bytesOf (mx x - mn x) ++ (bytesOf x.sum ++ dt x) := by
    rw [← hp2, ← List.drop_drop, e2, List.drop_left]
  obtain ⟨p3, hp3⟩ : ∃ p, p2 + (bytesOf (mx x - mn x)).length = p := ⟨_, rfl⟩
  have e4 : (bod x).drop p3 = bytesOf x.sum ++ dt x := by
    rw [← hp3, ← List.drop_drop, e3, List.drop_left]
  obtain ⟨p4, hp4⟩ : ∃ p, p3 + (bytesOf x.sum).length = p := ⟨_, rfl⟩
  have e5 : (bod x).drop p4 = dt x := by
    rw [← hp4, ← List.drop_drop, e4, List.drop_left]
  have d1 := dec_bytes a1.1 a1.2 e1
  have d2 := dec_bytes a2.1 a2.2 e2
  have d3 := dec_bytes a3.1 a3.2 e3
  have d4 := dec_bytes a4.1 a4.2 e4
  rw [hp1] at d1
  rw [hp2] at d2
  rw [hp3] at d3
  rw [hp4] at d4
  have hl : (bod x).length = p4 + (dt x).length := by
    have : (bod x).length = 1 + (bytesOf (x.length : Int)).length + (bytesOf (mn x)).length + (bytesOf (mx x - mn x)).length + (bytesOf x.sum).length + (dt x).length := by
      unfold bod
      simp only [List.length_append, List.length_singleton]
    omega
  exact ⟨p1, p2, p3, p4, by simp [bod], d1, d2, d3, d4, e5, by omega, by omega, by omega, by omega⟩
theorem dd_read {x : List Int} (h : Vx x) : ∃ p : Nat, dec (dd x) 0 = (x.getD 0 0, (p : Int), 0) ∧ p < (dd x).length ∧ (dd x).getD p 0 = wd (stp x) ∧ (dd x).drop (p + 1) = packed (stp x) (wd (stp x)) := by
  obtain ⟨_, _, _, _, a5⟩ := heads_in h
  have d1 := dec_bytes (at_ := 0) (B := dd x) a5.1 a5.2 rfl
  obtain ⟨p, hp⟩ : ∃ p, (bytesOf (x.getD 0 0)).length = p := ⟨_, rfl⟩
  rw [Nat.zero_add, hp] at d1
  have e : (dd x).drop p = wd (stp x) :: packed (stp x) (wd (stp x)) := by rw [← hp]; unfold dd; rw [List.drop_left]
  obtain ⟨h1, h2, h3⟩ := getD_drop e
  exact ⟨p, d1, h1, h2, h3⟩
theorem seg_parts {x : List Int} : (seg x).take (bod x).length = bod x ∧ (seg x).drop (bod x).length = seal4 (crc (bod x)) := by
  unfold seg
  exact ⟨List.take_left, List.drop_left⟩
/-- a step back -/
theorem step_back {x : List Int} (hs : Sam x) {i : Nat} (h : i + 1 < x.length) : x.getD i 0 + unf ((stp x).getD i 0) = x.getD (i + 1) 0 := by
  rw [stp_at (by omega), unf_fld]
  omega
theorem take_next (x : List Int) (i : Nat) (h : i < x.length) : x.take (i + 1) = x.take i ++ [x.getD i 0] := by
  rw [List.take_succ_eq_append_getElem h, List.getD_eq_getElem?_getD, List.getElem?_eq_getElem h]
  rfl
end Go.Proofs.YtnjojdmmalmhaaaGreatDoor.Sg
namespace Go.Proofs.YtnjojdmmalmhaaaGreatDoor.Sg
open Go.ChangeShapes Go.WideShapes Go.RowKit Wo Bm By Cd Pk
set_option linter.unusedVariables false
/-- what Unpack gives of any bytes -/
def SomeUnp (P : List Nat) (k : Int) (n : Nat) (w : World) (e : Ending) (w' : World) : Prop := ∃ (A : Option Addr) (m : Nat) (L : List Nat) (er : Int), e = .returned (.tuple #[.slice A m m, .int .i64 er]) ∧ Ri w' A m L ∧ m ≤ n ∧ (∀ v ∈ L, v < 4294967296) ∧
  (A = none → m = 0) ∧ (∀ ad, A = some ad → ∃ h, ad = ⟨h, 0, none⟩ ∧ w.heap.size ≤ h ∧ Bk w' h 3 (nums L).toArray) ∧ Bel w w' ∧
  (∀ (L0 : List Nat) (q : Nat), q ≤ 32 → L0.length = n → (∀ v ∈ L0, v < 2 ^ q) → k = (q : Int) → P = packed L0 q → er = 0 ∧ m = n ∧ L = L0)
theorem vals_lt (B : List Nat) (k n : Nat) (hk : k ≤ 32) : ∀ v ∈ vals B k n, v < 4294967296 := by
  intro v hv
  simp only [vals, List.mem_map] at hv
  obtain ⟨i, _, rfl⟩ := hv
  have h1 := val_lt (gB_lt B k i) k
  have h2 := Nat.pow_le_pow_right (n := 2) (by omega) hk
  have h3 : val (gB B k i) k < 2 ^ 32 := by omega
  exact h3
theorem unp_err (P : List Nat) (k : Int) (n : Nat) (w w' : World) (er : Int) (hb : Bel w w') (h : ∀ (L0 : List Nat) (q : Nat), q ≤ 32 → L0.length = n → (∀ v ∈ L0, v < 2 ^ q) → k = (q : Int) → P = packed L0 q → False) :
    SomeUnp P k n w (.returned (.tuple #[.slice none 0 0, .int .i64 er])) w' :=
  ⟨none, 0, [], er, rfl, ⟨rfl, fun h => by omega⟩, Nat.zero_le _, by simp, fun _ => rfl, fun ad e => (by cases e), hb, fun L0 q a b c d e => (h L0 q a b c d e).elim⟩
set_option maxHeartbeats 2000000 in
theorem unp_all (A : Option Addr) (c M n : Nat) (P : List Nat) (k : Int) (hk : -1 ≤ k) (hk2 : k ≤ 255) (hn : n ≤ 64) (hM : M ≤ 1000000) (w : World) (hr : Rd w A M P) :
    Calls Tryz.prog 171 #[.slice A M c, .int .i64 k, .int .i64 (n : Int)] w (SomeUnp P k n w) := by
  rcases (show k < 0 ∨ 32 < k ∨ (0 ≤ k ∧ k ≤ 32) by omega) with h | h | ⟨h0, h1⟩
  · clear hr
    go_enter Tryz.func171, Tryz.ntmps171
    go_wp2
    go_ret2
    exact unp_err _ _ _ _ _ _ Bel.rf (fun L0 q a _ _ d _ => by omega)
  · have q0 : ¬ k < 0 := by omega
    clear hr
    go_enter Tryz.func171, Tryz.ntmps171
    go_wp2
    go_ret2
    exact unp_err _ _ _ _ _ _ Bel.rf (fun L0 q a _ _ d _ => by omega)
  · obtain ⟨q, rfl⟩ := Int.eq_ofNat_of_zero_le h0
    have hq : q ≤ 32 := by omega
    obtain ⟨N, hN⟩ : ∃ N, (n * q + 7) / 8 = N := ⟨_, rfl⟩
    rcases Classical.em (M = N) with hMN | hMN
    · subst hMN
      refine (unpack_any A c P q n M hN (by omega) hq w hr).mono ?_
      rintro e w' (⟨hz, g, rfl, hri, ⟨hg, hbk⟩, hb⟩ | ⟨⟨K, hK1, hK2, hK3⟩, rfl, hb⟩)
      · refine ⟨_, _, vals P q n, 0, rfl, hri, Nat.le_refl _, vals_lt _ _ _ hq, fun e => (by cases e), fun ad e => ⟨g, (by cases e; rfl), hg, hbk⟩, hb, fun L0 q' a b cc d ee => ⟨rfl, rfl, ?_⟩⟩
        obtain rfl : q = q' := by omega
        subst ee
        rw [← b]
        exact vals_packed L0 q cc
      · refine unp_err _ _ _ _ _ _ hb (fun L0 q' a b cc d ee => ?_)
        obtain rfl : q = q' := by omega
        subst ee
        exact hK3 (packed_rest L0 q M (by rw [b]; exact hN) K (by rw [b]; exact hK1) hK2)
    · have HS : Hid (∀ W, Calls Tryz.prog 174 #[.int .i64 (n : Int), .int .i64 (q : Int)] W fun e w' => e = .returned (.int .i64 (N : Int)) ∧ W = w') := fun W => size_any n q N hN (by omega) hq W
      have HE : Hid (∀ (L0 : List Nat) (q' : Nat), q' ≤ 32 → L0.length = n → (∀ v ∈ L0, v < 2 ^ q') → (q : Int) = (q' : Int) → P = packed L0 q' → False) := fun L0 q' a b cc d ee => by
        obtain rfl : q = q' := by omega
        subst ee
        have h5 := hr.1
        rw [packed_len, b, hN] at h5
        exact hMN h5.symm
      have hNb : N ≤ 257 := by have := Nat.mul_le_mul hn hq; omega
      have ki : (q : Int) ≤ 32 := by omega
      have k0 : (0 : Int) ≤ (q : Int) := by omega
      have n0 : (0 : Int) ≤ (n : Int) := by omega
      have n1 : (n : Int) ≤ 64 := by omega
      clear hr hN h1 hk2 hk
      rcases Nat.lt_or_ge M N with hl | hl
      · have e1 : (M : Int) < (N : Int) := by omega
        clear hMN
        go_enter Tryz.func171, Tryz.ntmps171
        go_wp2_with (go_at_call 174; refine (HS.out _).mono ?_; rintro e w' ⟨rfl, rfl⟩)
        go_ret2
        exact unp_err _ _ _ _ _ _ Bel.rf HE.out
      · have e1 : ¬ (M : Int) < (N : Int) := by omega
        have e2 : (N : Int) < (M : Int) := by omega
        clear hMN
        go_enter Tryz.func171, Tryz.ntmps171
        go_wp2_with (go_at_call 174; refine (HS.out _).mono ?_; rintro e w' ⟨rfl, rfl⟩)
        go_ret2
        exact unp_err _ _ _ _ _ _ Bel.rf HE.out
theorem fits_bad (D : Int) (h : D < 0 ∨ 4294967296 ≤ D) (h2 : D ≤ 9223372036854775807) (w : World) : Calls Tryz.prog 176 #[.int .i64 D, .int .i64 32] w fun e w' => e = .returned (.bool false) ∧ w = w' := by
  rcases (show D < 0 ∨ (0 ≤ D ∧ 4294967296 ≤ D) by omega) with h1 | ⟨h1, h3⟩
  · have q : ¬ 0 ≤ D := by omega
    clear h
    go_enter Tryz.func176, Tryz.ntmps176
    go_wp2
    go_ret
    exact ⟨rfl, rfl⟩
  · have hz : (D / 4294967296 == 0) = false := by simp; omega
    clear h h3 h2
    go_enter Tryz.func176, Tryz.ntmps176
    go_wp2
    go_ret
    exact ⟨rfl, rfl⟩
/-- the width of one number of whatever size -/
def WdOf (D : Int) (r : Int) : Prop := -1 ≤ r ∧ r ≤ 32 ∧ ∀ d : Nat, d < 4294967296 → D = (d : Int) → r = (wd [d] : Int)
theorem width1 (D : Int) (h1 : -9223372036854775808 ≤ D) (h2 : D ≤ 9223372036854775807) (g : Nat) (w : World) (hb : Bk w g 3 #[.int .i64 D]) :
    Calls Tryz.prog 173 #[.slice (some ⟨g, 0, none⟩) 1 1] w fun e w' => (∃ r, e = .returned (.int .i64 r) ∧ WdOf D r) ∧ w = w' := by
  rcases (show (D < 0 ∨ 4294967296 ≤ D) ∨ (0 ≤ D ∧ D < 4294967296) by omega) with h | ⟨h3, h4⟩
  · have c0 : w.cell? ⟨g, 0, none⟩ = some (.int .i64 D) := hb.cell 0
    have HF := Lib.hid (fun W => fits_bad D h h2 W)
    have HW : Hid (WdOf D (-1)) := ⟨by omega, by omega, fun d a b => by omega⟩
    clear hb h
    go_enter Tryz.func173, Tryz.ntmps173
    go_wp2
    go_loop [3, 8] (fun s3 s8 => s3 = .int .i64 0 ∧ s8 = .int .i64 0) (fun _ _ => 0)
    case atStart => exact ⟨rfl, rfl⟩
    case round =>
      obtain ⟨rfl, rfl⟩ := hrel
      go_wp2_with (go_at_call 176; refine (HF.out _).mono ?_; rintro e w' ⟨rfl, rfl⟩)
      go_ret
      exact ⟨⟨-1, rfl, HW.out⟩, rfl⟩
  · obtain ⟨d, rfl⟩ := Int.eq_ofNat_of_zero_le h3
    have hr : Ri w (some ⟨g, 0, none⟩) 1 [d] := ri_bk (L := [d]) hb 1 rfl
    refine (width_any (some ⟨g, 0, none⟩) 1 [d] (by simp) (fun n hn => by simp at hn; omega) w hr).mono ?_
    rintro e w' ⟨rfl, rfl⟩
    have hle := wd_le [d] (fun n hn => by simp at hn; omega)
    refine ⟨⟨_, rfl, ⟨by omega, by omega, fun d' a b => ?_⟩⟩, rfl⟩
    obtain rfl : d = d' := by omega
    rfl
def hdv (K C L G S : Int) : Value := .agg #[.int .i64 K, .int .i64 C, .int .i64 L, .int .i64 G, .int .i64 S]
end Go.Proofs.YtnjojdmmalmhaaaGreatDoor.Sg
