/- Merged: RtY Half Res1 Res2 Res3 Asc Res4 Res5 ZiS AppS SerMath Ser1 Ser4 Ser5 Ser2. -/
import Derived.Test.YtnjojdmmalmhaaaGreatDoorRows
import Derived.Test.YtnjojdmmalmhaaaGreatDoorGl1
import Derived.Test.YtnjojdmmalmhaaaGreatDoorGl2
import Derived.WalkLawsBesides
import Derived.WalkSpells
import Derived.Outline
import Derived.IntWalk
import Derived.Deep.QuietTactic
import Derived.BigQuiet
import Derived.RegionTactic
import Derived.Deep.RegionLaw
import Derived.Maps.AppendAt
import Derived.Lib.Hide
import Derived.Deep.RegionHeld3
import Derived.RangeFuncBox
import Derived.RangeFuncLeaves
import Derived.RangeFuncNested
import Derived.RangeFuncBound
import Derived.RangeFuncCalls
import Derived.Shelf.Abstract
import Derived.Shelf.RegionOpen
import Derived.OwnWalkIn
import Derived.TacticsInMore
import Derived.LoopNIn
import Derived.LoopIn
namespace Go.Proofs.YtnjojdmmalmhaaaGreatDoor.Rt
open Go.ChangeShapes Go.WideShapes Go.RowKit Wo Un Rg Go.MapKept Sr
open Rm (Rp tm vl)
set_option linter.unusedVariables false
/-- what Parse returns: the readings and no error, or nothing, a line and its error -/
def ParR (US : List Ut) (s : ByteArray) (w : World) (e : Ending) (w' : World) : Prop :=
  ∃ (l : List Rp) (k : Nat) (er : Int) (v : Value), run US (lns s.data.toList) 1 [] = (l, k, er) ∧ e = .returned (.tuple #[v, .int .i64 (k : Int), .int .i64 er]) ∧ w'.ownsRow w.heap.size 57 2 v l.length (rs l) ∧ Bel w w'
theorem own_base {w : World} {b1 b2 n s : Nat} {e : TypeId} {v : Value} {xs : List Value} (h : w.ownsRow b1 e s v n xs) (hb : b2 ≤ b1) : w.ownsRow b2 e s v n xs := by
  refine ⟨h.1, ?_⟩
  rcases h.2 with h' | ⟨g, c, cur, h1, h2, h3⟩
  · exact .inl h'
  · exact .inr ⟨g, c, cur, h1, Nat.le_trans hb h2, h3⟩
theorem own_st {w : World} {b1 n s : Nat} {e : TypeId} {v : Value} {xs : List Value} (h : w.ownsRow b1 e s v n xs) {p : Addr} (hp : p.block < b1) (u : Value) : (w.setCell p u).ownsRow b1 e s v n xs := by
  refine ⟨h.1, ?_⟩
  rcases h.2 with h' | ⟨g, c, cur, h1, h2, h3, h4⟩
  · exact .inl h'
  · exact .inr ⟨g, c, cur, h1, h2, (Below.heap_setCell w p u g (by omega)).trans h3, h4⟩
theorem own_bel {w w' : World} {b1 n s : Nat} {e : TypeId} {v : Value} {xs : List Value} (h : w.ownsRow b1 e s v n xs) (hb : Bel w w') : w'.ownsRow b1 e s v n xs := by
  refine ⟨h.1, ?_⟩
  rcases h.2 with h' | ⟨g, c, cur, h1, h2, h3, h4⟩
  · exact .inl h'
  · refine .inr ⟨g, c, cur, h1, h2, (Below.block hb g ?_).trans h3, h4⟩
    rcases Nat.lt_or_ge g w.heap.size with h5 | h5
    · exact h5
    · rw [Array.getElem?_eq_none h5] at h3; cases h3
theorem own_cells {w : World} {b1 n s : Nat} {e : TypeId} {v : Value} {xs : List Value} (h : w.ownsRow b1 e s v n xs) (g : Nat) (hg : v.ownBlock = some g) : ∃ cs fz, w.heap[g]? = some (.cells cs e fz) := by
  rcases h.2 with ⟨rfl, _⟩ | ⟨g', c, cur, rfl, h2, h3, _⟩
  · cases hg
  · cases hg
    exact ⟨_, _, h3⟩
theorem grown_bk {a c : World} {B n s k : Nat} {e t : TypeId} {v : Value} {xs : List Value} {cs : Array Value} (hg : a.grownBy c v.ownBlock) (ho : a.ownsRow B e s v n xs) (h : Bk a k t cs) (hk : k < B) : Bk c k t cs :=
  (hg.block k h.lt (fun e => by have := (ho.lt k e.symm).1; omega)).trans h
theorem grown_mp {a c : World} {B n s r : Nat} {e : TypeId} {v : Value} {xs : List Value} {US : List Ut} (hg : a.grownBy c v.ownBlock) (ho : a.ownsRow B e s v n xs) (h : Mp a r US) : Mp c r US :=
  (hg.block r h.lt (fun e => by
    obtain ⟨cs, fz, h1⟩ := own_cells ho r e.symm
    unfold Mp at h
    rw [h1] at h; cases h)).trans h
theorem grown_bel {w a c : World} {B n s : Nat} {e : TypeId} {v : Value} {xs : List Value} (hb : Bel w a) (hg : a.grownBy c v.ownBlock) (ho : a.ownsRow B e s v n xs) (hB : w.heap.size ≤ B) : Bel w c :=
  Below.grown hb hg hb.size (fun k hk => by have := (ho.lt k hk).1; omega)
theorem results_par (tmps : Array Value) (w : World) (b : Nat) (v : Value) (k er : Int) (h4 : tmps.getD 4 undef = .pointer (some ⟨b, 0, none⟩)) (h5 : tmps.getD 5 undef = .pointer (some ⟨b + 1, 0, none⟩)) (h6 : tmps.getD 6 undef = .pointer (some ⟨b + 1 + 1, 0, none⟩))
    (h1 : Bk w b 46 #[v]) (h2 : Bk w (b + 1) 3 #[.int .i64 k]) (h3 : Bk w (b + 2) 29 #[.int .i64 er]) :
    (results Tryz.f31 tmps).run Tryz.prog w = .ok (.tuple #[v, .int .i64 k, .int .i64 er]) w := by
  have c1 : w.cell? ⟨b, 0, none⟩ = some v := by rw [h1.cell]; rfl
  have c2 : w.cell? ⟨b + 1, 0, none⟩ = some (.int .i64 k) := by rw [h2.cell]; rfl
  have c3 : w.cell? ⟨b + 1 + 1, 0, none⟩ = some (.int .i64 er) := by rw [show b + 1 + 1 = b + 2 from rfl, h3.cell]; rfl
  have e4 : tmps[4]?.getD undef = .pointer (some ⟨b, 0, none⟩) := by simpa using h4
  have e5 : tmps[5]?.getD undef = .pointer (some ⟨b + 1, 0, none⟩) := by simpa using h5
  have e6 : tmps[6]?.getD undef = .pointer (some ⟨b + 1 + 1, 0, none⟩) := by simpa using h6
  simp [results, Tryz.results31, e4, e5, e6, go_sem, c1, c2, c3]
def szOf : Value → Nat
  | .string x => x.size
  | _ => 0
/-- the loop -/
def LoopR (US : List Ut) (s : ByteArray) (FIN : List Rp × Nat × Int) (r b : Nat) (w : World) (s0 s8 : Value) (wr : World) : Prop :=
  ∃ (x : ByteArray) (k : Nat) (acc : List Rp) (v : Value) (V : World), V = wr ∧ s0 = .string x ∧ s8 = .int .i64 (k : Int) ∧ x.size ≤ 16384 ∧ k + x.size ≤ 16385 ∧ acc.length < k ∧ acc.length ≤ 2000 ∧ run US (lns x.data.toList) k acc = FIN ∧ wr.ownsRow (b + 3) 57 2 v acc.length (rs acc) ∧
    Bk wr b 46 #[v] ∧ Bk wr (b + 1) 3 #[.int .i64 0] ∧ Bk wr (b + 2) 29 #[.int .i64 0] ∧ Mp wr r US ∧ Bel w wr ∧ b + 3 ≤ wr.heap.size
set_option maxHeartbeats 4000000 in
set_option maxRecDepth 100000 in
theorem parse_go (s : ByteArray) (hs : s.size ≤ 16384) (US : List Ut) (hU : ∀ u ∈ US, GoodU u) (hN : (US.map (·.nm)).Nodup) (n c g : Nat) (hn : US.length = n) (h16 : n ≤ 16) (w : World) (hZ : Zu w g US) (hPW : Pows w) :
    Calls Tryz.prog 31 #[.string s, .slice (some ⟨g, 0, none⟩) n c] w (ParR US s w) := by
  have hmf : ∀ (fn : Fn) (first cap : Array Value) (w : World), (Instr.makeFunc fn first cap).run Tryz.prog w = .ok (.func fn first cap) w := fun _ _ _ _ => rfl
  obtain ⟨FIN, hF⟩ : ∃ F, run US (lns s.data.toList) 1 [] = F := ⟨_, rfl⟩
  have HF := Lib.hid hF
  have HX := Lib.hid (index_any s hs US hU hN n c g hn h16)
  have HL := Lib.hid (fun (C : ByteArray) (hC : C.size ≤ 20000) (r : Nat) (W : World) (hM : Mp W r US) (hp : Pows W) => line_any C hC US hU r W hM hp)
  have HZ := Lib.hid hZ
  have HP := Lib.hid hPW
  clear hF hU hN hn hZ hPW
  go_enter_defers Tryz.func31, Tryz.ntmps31
  go_wp2_with fail
  go_at_call 57
  refine (HX.out _ (((HZ.out.bel (Bel.rf.al _)).bel (Bel.rf.al _)).bel (Bel.rf.al _))).mono ?_
  rintro e w1 ⟨r, rfl, hr, hM, hb⟩
  have hbw : Bel w w1 := (((Bel.rf.al _).al _).al _).tr hb
  have b0 : Bk w1 w.heap.size 46 #[.slice none 0 0] := Bk.bel (((Bk.nw w _ _).al _).al _) hb
  have b1 : Bk w1 (w.heap.size + 1) 3 #[.int .i64 0] := Bk.bel ((Bk.nq (w.alloc _) _ _ (by simp)).al _) hb
  have b2 : Bk w1 (w.heap.size + 1 + 1) 29 #[.int .i64 0] := Bk.bel (Bk.nq ((w.alloc _).alloc _) _ _ (by simp)) hb
  have c2 : w1.cell? ⟨w.heap.size + 1 + 1, 0, none⟩ = some (.int .i64 0) := by rw [b2.cell]; rfl
  have f2 := b2.fr 0
  have lt2 := b2.lt
  have HS : Hid (LoopR US s FIN r w.heap.size w (.string s) (.int .i64 1) (w1.setCell ⟨w.heap.size + 1 + 1, 0, none⟩ (.int .i64 0))) :=
    ⟨s, 1, [], .slice none 0 0, _, rfl, rfl, rfl, hs, by omega, by simp, by simp, HF.out, World.ownsRow_nil _ _ _ _, b0.far (by show w.heap.size ≠ w.heap.size + 1 + 1; omega) _, b1.far (by show w.heap.size + 1 ≠ w.heap.size + 1 + 1; omega) _, b2.st 0 _, (Below.heap_setCell w1 ⟨w.heap.size + 1 + 1, 0, none⟩ _ r (by show r ≠ w.heap.size + 1 + 1; simp at hr; omega)).trans hM, hbw.st (by show _ ≤ w.heap.size + 1 + 1; omega) _, by simp; omega⟩
  have HRS : Hid (w.heap.size + 3 ≤ r) := by simp at hr; exact hr
  clear hM hb hbw b0 b1 b2 hr
  go_wp2
  go_loopw [0, 8] (fun s0 s8 wr => LoopR US s FIN r w.heap.size w s0 s8 wr) (fun s0 _ _ => szOf s0)
  case atStart => exact HS.out
  case round =>
    clear HS
    obtain ⟨x, k, acc, v, wr, hwr, rfl, rfl, hx, hkx, hak, ha2, hrun, hown, b0, b1, b2, hM, hb, hsz⟩ := hrel
    subst hwr
    obtain ⟨A, cc, rfl, hZr⟩ := own_zr hown rfl
    obtain ⟨q, hq⟩ : ∃ q, acc.length = q := ⟨_, rfl⟩
    rw [hq] at hown b0 hak ha2 hZr
    have c0 : wr.cell? ⟨w.heap.size, 0, none⟩ = some (.slice A q cc) := by rw [b0.cell]; rfl
    have c1 : wr.cell? ⟨w.heap.size + 1, 0, none⟩ = some (.int .i64 0) := by rw [b1.cell]; rfl
    have c2 : wr.cell? ⟨w.heap.size + 1 + 1, 0, none⟩ = some (.int .i64 0) := by rw [show w.heap.size + 1 + 1 = w.heap.size + 2 from rfl, b2.cell]; rfl
    have f0 := b0.fr 0
    have f1 := b1.fr 0
    have f2 : wr.frozen? ⟨w.heap.size + 1 + 1, 0, none⟩ = false := b2.fr 0
    have lt0 := b0.lt
    have lt1 := b1.lt
    have lt2 : w.heap.size + 1 + 1 < wr.heap.size := b2.lt
    have HQ := Lib.hid hq
    have HO := Lib.hid hown
    have HB0 := Lib.hid b0
    have HB1 := Lib.hid b1
    have HB2 := Lib.hid b2
    have HM := Lib.hid hM
    have HB := Lib.hid hb
    have HRN := Lib.hid hrun
    clear hq hown b0 b1 b2 hM hb hrun hZr
    rcases Nat.eq_zero_or_pos x.size with h0 | h0
    · have xl : x.data.toList = [] := List.length_eq_zero_iff.1 (by rw [← Lib.size_eq]; exact h0)
      have HFIN : Hid (FIN = (acc, 0, 0)) := by
        have := HRN.out
        rw [xl, lns_nil] at this
        exact this.symm
      have e0 : x.toList = [] := by rw [Lib.toList_data]; exact xl
      have e1 : x.toList.isEmpty = true := by rw [e0]; rfl
      clear xl
      go_wp2
      refine leaves_cons (f := 56) (args := #[.pointer (some ⟨w.heap.size, 0, none⟩), .pointer (some ⟨w.heap.size + 1, 0, none⟩), .pointer (some ⟨w.heap.size + 1 + 1, 0, none⟩)]) (by simp) (by simp [go_sem]) ?_
      refine (catch_idle _ _ _ _).mono ?_
      rintro e u' w'' ⟨rfl, rfl, rfl⟩
      exact ⟨_, results_par _ _ w.heap.size (.slice A q cc) 0 0 rfl rfl rfl (((HB0.out.st 0 _).far (by show w.heap.size ≠ w.heap.size + 1; omega) _).far (by show w.heap.size ≠ w.heap.size + 1 + 1; omega) _) (((HB1.out.far (by show w.heap.size + 1 ≠ w.heap.size; omega) _).st 0 _).far (by show w.heap.size + 1 ≠ w.heap.size + 1 + 1; omega) _) (((HB2.out.far (by show w.heap.size + 2 ≠ w.heap.size; omega) _).far (by show w.heap.size + 2 ≠ w.heap.size + 1; omega) _).st 0 _),
        acc, 0, 0, .slice A q cc, HF.out.trans HFIN.out, rfl, by rw [HQ.out]; exact own_base (own_st (own_st (own_st HO.out (by show w.heap.size < w.heap.size + 3; omega) _) (by show w.heap.size + 1 < w.heap.size + 3; omega) _) (by show w.heap.size + 1 + 1 < w.heap.size + 3; omega) _) (by omega),
        ((HB.out.st (by show w.heap.size ≤ w.heap.size; omega) _).st (by show w.heap.size ≤ w.heap.size + 1; omega) _).st (by show w.heap.size ≤ w.heap.size + 1 + 1; omega) _⟩
    · have xne : x.data.toList ≠ [] := fun e => by rw [Lib.size_eq, e] at h0; simp at h0
      have e0 : x.toList.isEmpty = false := by rw [Lib.toList_data]; cases hq : x.data.toList with | nil => exact absurd hq xne | cons c l => rfl
      have e1 : (x.toList == []) = false := by rw [Lib.toList_data]; cases hq : x.data.toList with | nil => exact absurd hq xne | cons c l => rfl
      obtain ⟨bf, hcut⟩ := cutN_any x (by omega)
      have hCs := cutN_le x.data.toList
      have hDs := cutN_lt x.data.toList xne
      have hln := HRN.out
      rw [lns_ne _ xne] at hln
      obtain ⟨C, hC⟩ : ∃ C : ByteArray, (⟨(cutN x.data.toList).1.toArray⟩ : ByteArray) = C := ⟨_, rfl⟩
      obtain ⟨D, hD⟩ : ∃ D : ByteArray, (⟨(cutN x.data.toList).2.toArray⟩ : ByteArray) = D := ⟨_, rfl⟩
      rw [hC, hD] at hcut
      have hCd : C.data.toList = (cutN x.data.toList).1 := by rw [← hC]
      have hDd : D.data.toList = (cutN x.data.toList).2 := by rw [← hD]
      rw [← hCd, ← hDd] at hln
      rw [← hCd] at hCs
      rw [← hDd] at hDs
      rw [← Lib.size_eq, ← Lib.size_eq] at hCs hDs
      have HC := Lib.hid hcut
      have ksz : (k : Int) ≤ 16385 := by omega
      clear hcut hC hD hCd hDd xne HRN
      go_wp2_with fail
      go_at_call 58
      refine (HC.out _).mono ?_
      rintro e w2 ⟨rfl, hb2⟩
      have HO2 := Lib.hid (own_bel HO.out hb2)
      have HB02 := Lib.hid (HB0.out.bel hb2)
      have HB12 := Lib.hid (HB1.out.bel hb2)
      have HB22 := Lib.hid (HB2.out.bel hb2)
      have HM2 := Lib.hid (HM.out.bel hb2)
      have HBB2 := Lib.hid (HB.out.tr hb2)
      clear HO HB0 HB1 HB2 HM HB c0 c1 c2 f0 f1 f2 lt0 lt1 lt2 hb2
      have HO := HO2
      have HB0 := HB02
      have HB1 := HB12
      have HB2 := HB22
      have HM := HM2
      have HB := HBB2
      clear HO2 HB02 HB12 HB22 HM2 HBB2
      have c0 : w2.cell? ⟨w.heap.size, 0, none⟩ = some (.slice A q cc) := by rw [HB0.out.cell]; rfl
      have c1 : w2.cell? ⟨w.heap.size + 1, 0, none⟩ = some (.int .i64 0) := by rw [HB1.out.cell]; rfl
      have c2 : w2.cell? ⟨w.heap.size + 1 + 1, 0, none⟩ = some (.int .i64 0) := by rw [show w.heap.size + 1 + 1 = w.heap.size + 2 from rfl, HB2.out.cell]; rfl
      have f0 := HB0.out.fr 0
      have f1 := HB1.out.fr 0
      have f2 : w2.frozen? ⟨w.heap.size + 1 + 1, 0, none⟩ = false := HB2.out.fr 0
      have lt0 := HB0.out.lt
      have lt1 := HB1.out.lt
      have lt2 : w.heap.size + 1 + 1 < w2.heap.size := HB2.out.lt
      rcases Nat.eq_zero_or_pos C.size with g0 | g0
      · have cl : C.data.toList = [] := List.length_eq_zero_iff.1 (by rw [← Lib.size_eq]; exact g0)
        have HFN : Hid (run US (lns D.data.toList) (k + 1) acc = FIN) := by
          have := hln
          rw [run_skip US _ _ _ _ (.inl cl)] at this
          exact this
        have HS2 : Hid (LoopR US s FIN r w.heap.size w (.string D) (.int .i64 ((k + 1 : Nat) : Int)) w2) :=
          ⟨D, k + 1, acc, .slice A q cc, _, rfl, rfl, rfl, by omega, by omega, by have := HQ.out; omega, by have := HQ.out; omega, HFN.out, by rw [HQ.out]; exact HO.out, HB0.out, HB1.out, HB2.out, HM.out, HB.out, by have := HB2.out.lt; omega⟩
        have q0 : C.toList = [] := by rw [Lib.toList_data]; exact cl
        have q1 : C.toList.isEmpty = true := by rw [q0]; rfl
        clear cl hln
        go_wp2
        go_roundw
        case rel => exact HS2.out
        case measure => simp [szOf]; omega
      · obtain ⟨ch, rest, hl⟩ : ∃ c rest, C.data.toList = c :: rest := by
          rcases hq : C.data.toList with _ | ⟨c, rest⟩
          · rw [Lib.size_eq, hq] at g0; simp at g0
          · exact ⟨c, rest, rfl⟩
        have h00 : C[0] = ch := by
          have : C.data.toList[0]? = some ch := by rw [hl]; rfl
          have e2 : C.data.toList[0]? = some C[0] := by rw [Array.getElem?_toList]; exact Array.getElem?_eq_getElem _
          rw [e2] at this
          exact Option.some.inj this
        have q0 : C.toList.isEmpty = false := by rw [Lib.toList_data, hl]; rfl
        have q1 : (C.toList == []) = false := by rw [Lib.toList_data, hl]; rfl
        have q2 : (0 : Int) < (C.size : Int) := by omega
        rcases Classical.em (ch.toNat = 35) with h35 | h35
        · have c35 : ((ch.toNat : Int) == 35) = true := by simpa using (by omega : (ch.toNat : Int) = 35)
          have d35 : (ch.toNat : Int) = 35 := by omega
          have hch : ch = 35 := UInt8.toNat_inj.1 (by simpa using h35)
          have HFN : Hid (run US (lns D.data.toList) (k + 1) acc = FIN) := by
            have := hln
            rw [run_skip US _ _ _ _ (.inr (by rw [hl, hch]; rfl))] at this
            exact this
          have HS2 : Hid (LoopR US s FIN r w.heap.size w (.string D) (.int .i64 ((k + 1 : Nat) : Int)) w2) :=
            ⟨D, k + 1, acc, .slice A q cc, _, rfl, rfl, rfl, by omega, by omega, by have := HQ.out; omega, by have := HQ.out; omega, HFN.out, by rw [HQ.out]; exact HO.out, HB0.out, HB1.out, HB2.out, HM.out, HB.out, by have := HB2.out.lt; omega⟩
          clear hln hch
          go_wp2
          go_roundw
          case rel => exact HS2.out
          case measure => simp [szOf]; omega
        · have c35 : ((ch.toNat : Int) == 35) = false := by simpa using (by omega : ¬ (ch.toNat : Int) = 35)
          have d35 : ¬ (ch.toNat : Int) = 35 := by omega
          have hno : ¬ (C.data.toList = [] ∨ C.data.toList.head? = some 35) := by
            rw [hl]
            rintro (h | h)
            · cases h
            · cases h; exact h35 rfl
          obtain ⟨⟨⟨t, v⟩, er⟩, hls⟩ : ∃ p, lineS US C.data.toList = p := ⟨_, rfl⟩
          have HLC := Lib.hid (HL.out C (by omega) r w2 HM.out (HP.out.bel HB.out))
          have HLN := Lib.hid (And.intro hln (And.intro hno hls))
          clear hln hno
          go_wp2_with fail
          go_at_call 59
          refine HLC.out.mono ?_
          rintro e w3 ⟨he, hb3⟩
          rw [hls] at he
          have he2 : e = .returned (.tuple #[.agg #[.int .i64 t, .int .i64 v], .int .i64 er]) := he
          clear he
          subst he2
          clear hls HLC
          have HO3 := Lib.hid (own_bel HO.out hb3)
          have HB03 := Lib.hid (HB0.out.bel hb3)
          have HB13 := Lib.hid (HB1.out.bel hb3)
          have HB23 := Lib.hid (HB2.out.bel hb3)
          have HM3 := Lib.hid (HM.out.bel hb3)
          have HBB3 := Lib.hid (HB.out.tr hb3)
          clear HO HB0 HB1 HB2 HM HB c0 c1 c2 f0 f1 f2 lt0 lt1 lt2 hb3
          have HO := HO3
          have HB0 := HB03
          have HB1 := HB13
          have HB2 := HB23
          have HM := HM3
          have HB := HBB3
          clear HO3 HB03 HB13 HB23 HM3 HBB3
          have c0 : w3.cell? ⟨w.heap.size, 0, none⟩ = some (.slice A q cc) := by rw [HB0.out.cell]; rfl
          have c1 : w3.cell? ⟨w.heap.size + 1, 0, none⟩ = some (.int .i64 0) := by rw [HB1.out.cell]; rfl
          have c2 : w3.cell? ⟨w.heap.size + 1 + 1, 0, none⟩ = some (.int .i64 0) := by rw [show w.heap.size + 1 + 1 = w.heap.size + 2 from rfl, HB2.out.cell]; rfl
          have f0 := HB0.out.fr 0
          have f1 := HB1.out.fr 0
          have f2 : w3.frozen? ⟨w.heap.size + 1 + 1, 0, none⟩ = false := HB2.out.fr 0
          have lt0 := HB0.out.lt
          have lt1 := HB1.out.lt
          have lt2 : w.heap.size + 1 + 1 < w3.heap.size := HB2.out.lt
          rcases Classical.em (er = 0) with her | her
          · subst her
            rcases Classical.em (q = 2000) with h2 | h2
            · subst h2
              have HFIN : Hid (FIN = ([], k, 4)) := by
                have := HLN.out
                rw [run_full US _ _ _ _ this.2.1 (by rw [this.2.2]) HQ.out] at this
                exact this.1.symm
              go_wp2
              refine leaves_cons (f := 56) (args := #[.pointer (some ⟨w.heap.size, 0, none⟩), .pointer (some ⟨w.heap.size + 1, 0, none⟩), .pointer (some ⟨w.heap.size + 1 + 1, 0, none⟩)]) (by simp) (by simp [go_sem]) ?_
              refine (catch_thrown (n := (k : Int)) (er := 4) (HB0.out.al _) (HB1.out.al _) (HB2.out.al _)).mono ?_
              rintro e u' w'' ⟨rfl, rfl, k0, k1, k2, kb⟩
              exact ⟨_, results_par _ _ w.heap.size _ (k : Int) 4 rfl rfl rfl k0 k1 k2, [], k, 4, .slice none 0 0, HF.out.trans HFIN.out, rfl, World.ownsRow_nil _ _ _ _, Below.trans (HB.out.al _) kb⟩
            · have kq : ((q : Int) == 2000) = false := by simp; omega
              have kq2 : ¬ (q : Int) = 2000 := by omega
              have HFN : Hid (run US (lns D.data.toList) (k + 1) (acc ++ [(t, v)]) = FIN) := by
                have := HLN.out
                rw [run_good US _ _ _ _ this.2.1 (by rw [this.2.2]) (by rw [HQ.out]; exact h2), this.2.2] at this
                exact this.1
              have WA := Lib.hid (own_bel HO.out ((Bel.rf.al (.cells #[.int .i64 t, .int .i64 v] 57)).al (.cells #[.int .i64 t, .int .i64 v] 57)))
              have d0 : ∀ o, (w3.alloc o).cell? ⟨w.heap.size, 0, none⟩ = some (.slice A q cc) := fun o => kp_al c0 o
              clear HLN
              go_wp2_with (at_builtin; refine list_appr _ rfl (.tmp 58) (.tmp 60) rfl (w.heap.size + 3) (.slice A q cc) q acc rfl WA.out (w3.heap.size + 1) 1 (t, v) rfl (Bk.nq _ _ _ (by simp)) (by omega) (by simp; omega) ?_; intro v9 w9 h9 hg9 hat9; obtain ⟨A9, c9, rfl, hz9⟩ := own_zr h9 (by rw [List.length_append, HQ.out, List.length_singleton]); have B9 := grown_bk hg9 WA.out ((HB0.out.al _).al _) (by omega); have e9 : w9.cell? ⟨w.heap.size, 0, none⟩ = some (.slice A q cc) := (by rw [B9.cell]; rfl); have f9 := B9.fr 0; have l9 := B9.lt)
              have HS2 : Hid (LoopR US s FIN r w.heap.size w (.string D) (.int .i64 ((k + 1 : Nat) : Int)) (w9.setCell ⟨w.heap.size, 0, none⟩ (.slice A9 (q + 1) c9))) :=
                ⟨D, k + 1, acc ++ [(t, v)], .slice A9 (q + 1) c9, _, rfl, rfl, rfl, by omega, by omega, by rw [List.length_append, HQ.out, List.length_singleton]; omega, by rw [List.length_append, HQ.out, List.length_singleton]; omega, HFN.out, by rw [List.length_append, HQ.out, List.length_singleton]; exact own_st h9 (by show w.heap.size < w.heap.size + 3; omega) _, B9.st 0 _, (grown_bk hg9 WA.out ((HB1.out.al _).al _) (by omega)).far (by show w.heap.size + 1 ≠ w.heap.size; omega) _, (grown_bk hg9 WA.out ((HB2.out.al _).al _) (by omega)).far (by show w.heap.size + 2 ≠ w.heap.size; omega) _, (Below.heap_setCell w9 ⟨w.heap.size, 0, none⟩ _ r (by show r ≠ w.heap.size; have := HRS.out; omega)).trans (grown_mp hg9 WA.out ((HM.out.bel (Bel.rf.al _)).bel (Bel.rf.al _))), (grown_bel ((HB.out.al _).al _) hg9 WA.out (by omega)).st (by show _ ≤ w.heap.size; omega) _, by
                  have := hg9.size
                  simp at this ⊢
                  omega⟩
              go_wp2
              go_roundw
              case rel => exact HS2.out
              case measure => simp [szOf]; omega
          · have k1 : (er == 0) = false := by simpa using her
            have k2 : (er != 0) = true := by simpa using her
            have HFIN : Hid (FIN = ([], k, er)) := by
              have := HLN.out
              rw [run_bad US _ _ _ _ this.2.1 (by rw [this.2.2]; exact her), this.2.2] at this
              exact this.1.symm
            go_wp2
            refine leaves_cons (f := 56) (args := #[.pointer (some ⟨w.heap.size, 0, none⟩), .pointer (some ⟨w.heap.size + 1, 0, none⟩), .pointer (some ⟨w.heap.size + 1 + 1, 0, none⟩)]) (by simp) (by simp [go_sem]) ?_
            refine (catch_thrown (n := (k : Int)) (er := er) (HB0.out.al _) (HB1.out.al _) (HB2.out.al _)).mono ?_
            rintro e u' w'' ⟨rfl, rfl, k0, k1, k2, kb⟩
            exact ⟨_, results_par _ _ w.heap.size _ (k : Int) er rfl rfl rfl k0 k1 k2, [], k, er, .slice none 0 0, HF.out.trans HFIN.out, rfl, World.ownsRow_nil _ _ _ _, Below.trans (HB.out.al _) kb⟩
end Go.Proofs.YtnjojdmmalmhaaaGreatDoor.Rt
namespace Go.Proofs.YtnjojdmmalmhaaaGreatDoor.Rg
open Go.ChangeShapes Go.WideShapes Go.RowKit Wo Sr Wi Rm
set_option linter.unusedVariables false
def cm (x y : Int) : Int := if x < y then -1 else if y < x then 1 else 0
theorem nan_ok (x : Int) (w : World) : Calls Tryz.prog 84 #[.int .i64 x] w fun e w' => e = .returned (.bool false) ∧ w = w' := by
  have n := ne_self x
  go_enter Tryz.func84, Tryz.ntmps84
  go_wp2
  go_ret
  exact ⟨rfl, rfl⟩
theorem compare_ok (x y : Int) (w : World) : Calls Tryz.prog 65 #[.int .i64 x, .int .i64 y] w fun e w' => e = .returned (.int .i64 (cm x y)) ∧ w = w' := by
  rcases Int.lt_trichotomy x y with h | h | h
  · have e : cm x y = -1 := if_pos h
    rw [e]
    clear e
    go_enter Tryz.func65, Tryz.ntmps65
    go_wp2_with (go_at_call 84; refine (nan_ok _ _).mono ?_; rintro e w' ⟨rfl, rfl⟩)
    go_wp2_with (go_at_call 84; refine (nan_ok _ _).mono ?_; rintro e w' ⟨rfl, rfl⟩)
    go_ret
    exact ⟨rfl, rfl⟩
  · have e : cm x y = 0 := by unfold cm; rw [if_neg (by omega), if_neg (by omega)]
    rw [e]
    clear e
    subst h
    go_enter Tryz.func65, Tryz.ntmps65
    go_wp2_with (go_at_call 84; refine (nan_ok _ _).mono ?_; rintro e w' ⟨rfl, rfl⟩)
    go_wp2_with (go_at_call 84; refine (nan_ok _ _).mono ?_; rintro e w' ⟨rfl, rfl⟩)
    go_ret
    exact ⟨rfl, rfl⟩
  · have e : cm x y = 1 := by unfold cm; rw [if_neg (by omega), if_pos h]
    rw [e]
    clear e
    go_enter Tryz.func65, Tryz.ntmps65
    go_wp2_with (go_at_call 84; refine (nan_ok _ _).mono ?_; rintro e w' ⟨rfl, rfl⟩)
    go_wp2_with (go_at_call 84; refine (nan_ok _ _).mono ?_; rintro e w' ⟨rfl, rfl⟩)
    go_ret
    exact ⟨rfl, rfl⟩
theorem closure_ok (x v y : Int) (w : World) : Calls Tryz.prog 64 #[.agg #[.int .i64 x, .int .i64 v], .int .i64 y] w fun e w' => e = .returned (.int .i64 (cm x y)) ∧ Bel w w' := by
  go_enter Tryz.func64, Tryz.ntmps64
  go_wp2_with (go_at_call 65; refine (compare_ok _ _ _).mono ?_; rintro e w' ⟨rfl, rfl⟩)
  go_ret
  exact ⟨rfl, by first | exact Bel.rf.al _ | exact (Bel.rf.al _).drwN _⟩
set_option maxHeartbeats 4000000 in
theorem search_ok (A : Option Addr) (c n : Nat) (l : List Rp) (hn : n ≤ 2000) (hs : Asc l) (t : Int) (w : World) (h : Zr w A n l) :
    Calls Tryz.prog 63 #[.slice A n c, .int .i64 t, .func (.func 64) #[] #[]] w fun e w' => e = .returned (.tuple #[.int .i64 (lb l t : Int), .bool (decide (lb l t < n ∧ tm l (lb l t) = t))]) ∧ Bel w w' := by
  have H1 := Lib.hid h
  have HS := Lib.hid hs
  have ni : (n : Int) ≤ 2000 := by omega
  clear h hs
  go_enter Tryz.func63, Tryz.ntmps63
  go_wp2
  go_loopw [9, 10] (fun s9 s10 wr => ∃ (i j : Nat) (V : World), V = wr ∧ i ≤ j ∧ j ≤ n ∧ s9 = .int .i64 (i : Int) ∧ s10 = .int .i64 (j : Int) ∧ Bel w wr ∧ (∀ q, q < i → tm l q < t) ∧ (∀ q, j ≤ q → q < n → t ≤ tm l q)) (fun s9 s10 _ => (intOf s10).toNat - (intOf s9).toNat)
  case atStart => exact ⟨0, n, _, rfl, by omega, by omega, rfl, rfl, Bel.rf, fun q hq => by omega, fun q h1 h2 => by omega⟩
  case round =>
    obtain ⟨i, j, wr, hwr, hij, hjn, rfl, rfl, hb, hlo, hhi⟩ := hrel
    subst hwr
    have HB := Lib.hid hb
    have HLH := Lib.hid (And.intro hlo hhi)
    clear hlo hhi
    rcases Nat.lt_or_ge i j with hlt | hge
    · obtain ⟨hh, hhe⟩ : ∃ h : Nat, (i + j) / 2 = h := ⟨_, rfl⟩
      have h1 : i ≤ hh := by omega
      have h2 : hh < j := by omega
      obtain ⟨g, rfl, hab, hac⟩ := (H1.out.bel hb).2 (by omega)
      obtain ⟨c1, c2⟩ := hac hh (by omega)
      obtain ⟨x, hxe⟩ : ∃ x, tm l hh = x := ⟨_, rfl⟩
      obtain ⟨y, hye⟩ : ∃ x, vl l hh = x := ⟨_, rfl⟩
      rw [hxe] at c1
      rw [hye] at c2
      have hdv : ((i : Int) + (j : Int)) / 2 = (hh : Int) := by omega
      have ki : (i : Int) < (j : Int) := by omega
      have ji : (j : Int) ≤ 2000 := by omega
      have hi1 : (hh : Int) < (n : Int) := by omega
      have hi2 : (hh : Int) ≤ 2000 := by omega
      have HX := Lib.hid (And.intro hxe hye)
      have HD := Lib.hid (And.intro h1 (And.intro h2 hhe))
      clear hb hac hab hxe hye hhe
      rcases Int.lt_or_le x t with hxt | hxt
      · have hcm : cm x t = -1 := if_pos hxt
        go_wp2_with (go_at_call 64; refine (closure_ok x y t _).mono ?_; rintro e w' ⟨rfl, hbr⟩; rw [hcm])
        go_roundw
        case rel => exact ⟨hh + 1, j, _, rfl, by omega, by omega, by go_num, rfl, by first | exact HB.out.tr hbr | exact (HB.out.drwN _).tr hbr | exact HB.out.drw.tr hbr, fun q hq => by
          rcases Nat.lt_or_ge q hh with h3 | h3
          · have := HS.out.lt h3 (by have := H1.out.1; omega)
            have := HX.out.1
            omega
          · rw [show q = hh by omega, HX.out.1]; exact hxt, HLH.out.2⟩
        case measure => simp [intOf]; omega
      · have hcm : 0 ≤ cm x t := by unfold cm; rw [if_neg (by omega)]; split <;> omega
        obtain ⟨cv, hcv⟩ : ∃ c, cm x t = c := ⟨_, rfl⟩
        rw [hcv] at hcm
        go_wp2_with (go_at_call 64; refine (closure_ok x y t _).mono ?_; rintro e w' ⟨rfl, hbr⟩; rw [hcv])
        go_roundw
        case rel => exact ⟨i, hh, _, rfl, by omega, by omega, rfl, rfl, by first | exact HB.out.tr hbr | exact (HB.out.drwN _).tr hbr | exact HB.out.drw.tr hbr, HLH.out.1, fun q hq hqn => by
          rcases Nat.lt_or_ge hh q with h3 | h3
          · have := HS.out.lt h3 (by have := H1.out.1; omega)
            have := HX.out.1
            omega
          · rw [show q = hh by omega, HX.out.1]; exact hxt⟩
        case measure => simp [intOf]; omega
    · obtain rfl : i = j := by omega
      have hlb : lb l t = i := lb_eq l t i HLH.out.1 (by have := H1.out.1; omega) (fun hi => HLH.out.2 i (by omega) (by have := H1.out.1; omega))
      have HLB := Lib.hid hlb
      clear hlb
      rcases Nat.lt_or_ge i n with hin | hin
      · obtain ⟨g, rfl, hab, hac⟩ := (H1.out.bel hb).2 (by omega)
        obtain ⟨c1, c2⟩ := hac i (by omega)
        obtain ⟨x, hxe⟩ : ∃ x, tm l i = x := ⟨_, rfl⟩
        obtain ⟨y, hye⟩ : ∃ x, vl l i = x := ⟨_, rfl⟩
        rw [hxe] at c1
        rw [hye] at c2
        have hi1 : (i : Int) < (n : Int) := by omega
        have hi2 : (i : Int) ≤ 2000 := by omega
        have HX := Lib.hid (And.intro hxe hye)
        clear hb hac hab hxe hye
        rcases Classical.em (x = t) with hxt | hxt
        · subst hxt
          have hcm : cm x x = 0 := by unfold cm; rw [if_neg (by omega), if_neg (by omega)]
          have EQ : Hid (Ending.returned (.tuple #[.int .i64 (lb l x : Int), .bool (decide (lb l x < n ∧ tm l (lb l x) = x))]) = .returned (.tuple #[.int .i64 (i : Int), .bool true])) := by
            show _ = _
            rw [HLB.out, HX.out.1, decide_eq_true (show i < n ∧ x = x from ⟨hin, rfl⟩)]
          go_wp2_with (go_at_call 64; refine (closure_ok x y x _).mono ?_; rintro e w' ⟨rfl, hbr⟩; rw [hcm])
          go_ret2
          exact ⟨EQ.out.symm, by first | exact HB.out.tr hbr | exact (HB.out.drwN _).tr hbr | exact HB.out.drw.tr hbr⟩
        · have hcm : cm x t ≠ 0 := by unfold cm; split <;> (try split) <;> omega
          obtain ⟨cv, hcv⟩ : ∃ c, cm x t = c := ⟨_, rfl⟩
          rw [hcv] at hcm
          have EQ : Hid (Ending.returned (.tuple #[.int .i64 (lb l t : Int), .bool (decide (lb l t < n ∧ tm l (lb l t) = t))]) = .returned (.tuple #[.int .i64 (i : Int), .bool false])) := by
            show _ = _
            rw [HLB.out, HX.out.1, decide_eq_false (show ¬ (i < n ∧ x = t) from fun h => hxt h.2)]
          have hcq : (cv == 0) = false := by simpa using hcm
          go_wp2_with (go_at_call 64; refine (closure_ok x y t _).mono ?_; rintro e w' ⟨rfl, hbr⟩; rw [hcv])
          go_ret2
          exact ⟨EQ.out.symm, by first | exact HB.out.tr hbr | exact (HB.out.drwN _).tr hbr | exact HB.out.drw.tr hbr⟩
      · obtain rfl : i = n := by omega
        have EQ : Hid (Ending.returned (.tuple #[.int .i64 (lb l t : Int), .bool (decide (lb l t < i ∧ tm l (lb l t) = t))]) = .returned (.tuple #[.int .i64 (i : Int), .bool false])) := by
          show _ = _
          rw [HLB.out, decide_eq_false (show ¬ (i < i ∧ tm l i = t) from fun h => by omega)]
        clear hb
        go_wp2
        go_ret2
        exact ⟨EQ.out.symm, by first | exact HB.out | exact HB.out.drwN _⟩
end Go.Proofs.YtnjojdmmalmhaaaGreatDoor.Rg
namespace Go.Proofs.YtnjojdmmalmhaaaGreatDoor.Rg
open Go.ChangeShapes Go.WideShapes Go.RowKit Wo Sr Wi Rm
set_option linter.unusedVariables false
/-- a valid grid -/
def Gv (f s c r q : Int) : Prop := 0 ≤ f ∧ f ≤ 1099511627776 ∧ 1 ≤ s ∧ s ≤ 1099511627776 ∧ 0 ≤ c ∧ c ≤ 2000 ∧ (0 < c → f + (c - 1) * s ≤ 1099511627776) ∧ 1 ≤ r ∧ r ≤ 3 ∧ 0 ≤ q ∧ q ≤ 1099511627776
def gv (f s c r q : Int) : Value := .agg #[.int .i64 f, .int .i64 s, .int .i64 c, .int .i64 r, .int .i64 q]
theorem mul_in {a b x y : Int} (a0 : -x ≤ a) (a1 : a ≤ x) (b0 : 0 ≤ b) (b1 : b ≤ y) (x0 : 0 ≤ x) : -(x * y) ≤ a * b ∧ a * b ≤ x * y := by
  have h1 := Int.mul_le_mul_of_nonneg_right a1 b0
  have h2 := Int.mul_le_mul_of_nonneg_right a0 b0
  have h3 := Int.mul_le_mul_of_nonneg_left b1 x0
  have h4 : -x * b = -(x * b) := by grind
  omega
set_option maxHeartbeats 4000000 in
theorem valid_ok (f s c r q : Int) (h : Gv f s c r q) (w : World) : Calls Tryz.prog 33 #[gv f s c r q] w fun e w' => e = .returned (.bool true) ∧ Bel w w' := by
  obtain ⟨f0, f1, s0, s1, c0, c1, h1, r0, r1, q0, q1⟩ := h
  unfold gv
  rcases Int.lt_or_le 0 c with hc | hc
  · have hp := mul_in (a := c - 1) (b := s) (x := 2000) (y := 1099511627776) (by omega) (by omega) (by omega) s1 (by decide)
    have hl := h1 hc
    obtain ⟨p, hpp⟩ : ∃ p, (c - 1) * s = p := ⟨_, rfl⟩
    rw [hpp] at hp hl
    have wp : wrap64 p = p := IntWalk.wrap64_in _ (by omega)
    have wp2 : IntKind.i64.wrap p = p := IntWalk.i64_in _ (by omega)
    clear h1
    rcases (show r = 1 ∨ r = 2 ∨ r = 3 by omega) with rfl | rfl | rfl
    all_goals
      go_enter Tryz.func33, Tryz.ntmps33
      go_wp2
      go_ret
      exact ⟨rfl, by first | exact Bel.rf.al _ | exact (Bel.rf.al _).drwN _⟩
  · obtain rfl : c = 0 := by omega
    clear h1
    rcases (show r = 1 ∨ r = 2 ∨ r = 3 by omega) with rfl | rfl | rfl
    all_goals
      go_enter Tryz.func33, Tryz.ntmps33
      go_wp2
      go_ret
      exact ⟨rfl, by first | exact Bel.rf.al _ | exact (Bel.rf.al _).drwN _⟩
theorem asc_vrs {l : List Rp} (h : Asc l) : Vrs l := fun i hi => h.1 i hi
set_option maxHeartbeats 4000000 in
theorem regular_ok (A : Option Addr) (c n : Nat) (l : List Rp) (hn : n ≤ 2000) (hs : Asc l) (w : World) (h : Zr w A n l) :
    Calls Tryz.prog 34 #[.slice A n c] w fun e w' => e = .returned (.int .i64 0) ∧ Bel w w' := by
  have H1 := Lib.hid h
  have HS := Lib.hid hs
  have ni : (n : Int) ≤ 2000 := by omega
  clear h hs
  go_enter Tryz.func34, Tryz.ntmps34
  go_wp2_with (go_at_call 62; refine (readings_ok A c n l hn (asc_vrs HS.out) _ H1.out).mono ?_; rintro e w1 ⟨rfl, hb1⟩)
  go_loopw [4] (fun s4 wr => ∃ (k : Nat) (V : World), V = wr ∧ 1 ≤ k ∧ k ≤ n + 1 ∧ s4 = .int .i64 (k : Int) ∧ Bel w wr) (fun s4 _ => n + 1 - (intOf s4).toNat)
  case atStart => exact ⟨1, _, rfl, by omega, by omega, rfl, by first | exact hb1 | exact hb1.drwN _⟩
  case round =>
    obtain ⟨k, wr, hwr, hk0, hk, rfl, hb⟩ := hrel
    subst hwr
    have HB := Lib.hid hb
    rcases Nat.lt_or_ge k n with hlt | hge
    · obtain ⟨g, rfl, hab, hac⟩ := (H1.out.bel hb).2 (by omega)
      obtain ⟨c1, c2⟩ := hac k hlt
      obtain ⟨p, hp⟩ : ∃ p, k - 1 = p := ⟨_, rfl⟩
      obtain ⟨c3, c4⟩ := hac p (by omega)
      have hx := HS.out.lt (show p < k by omega) (by rw [H1.out.1]; exact hlt)
      obtain ⟨x, hxe⟩ : ∃ x, tm l k = x := ⟨_, rfl⟩
      obtain ⟨y, hye⟩ : ∃ x, tm l p = x := ⟨_, rfl⟩
      rw [hxe] at c1 hx
      rw [hye] at c3 hx
      have ki : (k : Int) < (n : Int) := by omega
      have kp : (k : Int) - 1 = (p : Int) := by omega
      have pi : (p : Int) < (n : Int) := by omega
      have e1 : ¬ x ≤ y := by omega
      have e2 : decide (x ≤ y) = false := by simpa using hx
      clear hb hac hab hxe hye hx c2 c4 hb1
      go_wp2
      go_quiet (fail)
      go_wp2
      go_roundw
      case rel => exact ⟨k + 1, _, rfl, by omega, by omega, by go_num, by first | exact HB.out | exact HB.out.drwN _⟩
      case measure => simp [intOf]; omega
    · have ki : (n : Int) ≤ (k : Int) := by omega
      clear hb hb1
      go_wp2
      go_ret
      exact ⟨rfl, by first | exact HB.out | exact HB.out.drwN _⟩
end Go.Proofs.YtnjojdmmalmhaaaGreatDoor.Rg
namespace Go.Proofs.YtnjojdmmalmhaaaGreatDoor.Rg
open Go.ChangeShapes Go.WideShapes Go.RowKit Wo Sr Wi Rm
set_option linter.unusedVariables false
theorem res_eq {x : Int × Bool} {a : Int} {b : Bool} (h : x = (a, b)) : Ending.returned (.tuple #[.int .i64 a, .bool b]) = .returned (.tuple #[.int .i64 x.1, .bool x.2]) := by rw [h]
theorem al2_1 (w : World) (o p : Obj) {k : Nat} {t : TypeId} {cs : Array Value} (h : Bk w k t cs) : Bk ((w.alloc o).alloc p) k t cs := (h.al o).al p
set_option maxHeartbeats 8000000 in
set_option maxRecDepth 100000 in
theorem value_ok (A : Option Addr) (ca n : Nat) (l : List Rp) (hn : n ≤ 2000) (hs : Asc l) (f s c r q t : Int) (t0 : 0 ≤ t) (t1 : t ≤ 1099511627776) (r0 : 1 ≤ r) (r1 : r ≤ 3) (q0 : 0 ≤ q) (q1 : q ≤ 1099511627776) (w : World) (h : Zr w A n l) :
    Calls Tryz.prog 35 #[.slice A n ca, gv f s c r q, .int .i64 t] w fun e w' => e = .returned (.tuple #[.int .i64 (val l r q t).1, .bool (val l r q t).2]) ∧ Bel w w' := by
  have H1 := Lib.hid h
  have HS := Lib.hid hs
  have ni : (n : Int) ≤ 2000 := by omega
  have hL := h.1
  obtain ⟨i, hi⟩ : ∃ i, lb l t = i := ⟨_, rfl⟩
  have hile : i ≤ n := by have := lb_le l t; omega
  have HSR : Hid (∀ W, Bel w W → Calls Tryz.prog 63 #[.slice A n ca, .int .i64 t, .func (.func 64) #[] #[]] W fun e w' => e = .returned (.tuple #[.int .i64 (i : Int), .bool (decide (i < n ∧ tm l i = t))]) ∧ Bel W w') := fun W hW => by
    have := search_ok A ca n l hn HS.out t W (H1.out.bel hW)
    rwa [hi] at this
  unfold gv
  clear h hs
  rcases Classical.em (i < n ∧ tm l i = t) with hex | hex
  · have HV : Hid (val l r q t = (vl l i, true)) := by
      show _ = _
      unfold val
      rw [hi, hL, if_pos hex]
    have hd : decide (i < n ∧ tm l i = t) = true := decide_eq_true hex
    rw [hd] at HSR
    have HEX := Lib.hid hex
    have ii : (i : Int) < (n : Int) := by omega
    clear hd hex hi
    go_enter Tryz.func35, Tryz.ntmps35
    go_wp2_with fail
    go_at_call 63
    refine (HSR.out _ (Bel.rf.al _)).mono ?_
    rintro e w1 ⟨rfl, hb⟩
    have HB : Hid (Bel w w1) := (Bel.rf.al _).tr hb
    clear hb
    obtain ⟨g, rfl, hab, hac⟩ := (H1.out.bel HB.out).2 (by omega)
    obtain ⟨c1, c2⟩ := hac i (by omega)
    clear hab hac
    go_wp2
    go_ret2
    exact ⟨res_eq HV.out, by first | exact HB.out | exact HB.out.drwN _⟩
  · have hd : decide (i < n ∧ tm l i = t) = false := decide_eq_false hex
    rw [hd] at HSR
    have HEX := Lib.hid hex
    obtain ⟨B, hB⟩ : ∃ B, bck l t = B := ⟨_, rfl⟩
    obtain ⟨D, hD⟩ : ∃ B, ahd l t = B := ⟨_, rfl⟩
    obtain ⟨u, hu⟩ : ∃ B, bv l t = B := ⟨_, rfl⟩
    obtain ⟨v, hv⟩ : ∃ B, av l t = B := ⟨_, rfl⟩
    have b1 := bck_in HS.out t0 t1
    have d1 := ahd_in HS.out t0 t1
    rw [hB] at b1
    rw [hD] at d1
    obtain ⟨b0, b1⟩ := b1
    obtain ⟨d0, d1⟩ := d1
    have HV : Hid (val l r q t = if r = 1 then (if B ≤ q then (u, true) else (0, false))
      else if r = 2 then (if B ≤ D ∧ B ≤ q then (u, true) else if D < B ∧ D ≤ q then (v, true) else (0, false))
      else if r = 3 then (if B ≤ q ∧ D ≤ q then (hup (u * D + v * B) (B + D), true) else (0, false))
      else (0, false)) := by
      show _ = _
      unfold val
      rw [hi, hL, if_neg hex, hB, hD, hu, hv]
    have HU : Hid ((0 < i → tm l (i - 1) = t - B ∧ vl l (i - 1) = u) ∧ (i = 0 → B = 1099511627777 ∧ u = 0) ∧ (i < n → tm l i = t + D ∧ vl l i = v) ∧ (i = n → D = 1099511627777 ∧ v = 0)) := by
      refine ⟨fun h0 => ?_, fun h0 => ?_, fun h0 => ?_, fun h0 => ?_⟩
      · rw [← hB, ← hu]; unfold bck bv; rw [hi, if_pos h0, if_pos h0]; omega
      · rw [← hB, ← hu]; unfold bck bv far; rw [hi, if_neg (by omega), if_neg (by omega)]; omega
      · rw [← hD, ← hv]; unfold ahd av; rw [hi, hL, if_pos h0, if_pos h0]; omega
      · rw [← hD, ← hv]; unfold ahd av far; rw [hi, hL, if_neg (by omega), if_neg (by omega)]; omega
    have uin : -1000 ≤ u ∧ u ≤ 1000 := by
      rcases Nat.lt_or_ge 0 i with h0 | h0
      · have a := HU.out.1 h0; have b := HS.out.1 (i - 1) (by omega); omega
      · have a := HU.out.2.1 (by omega); omega
    have vin : -1000 ≤ v ∧ v ≤ 1000 := by
      rcases Nat.lt_or_ge i n with h0 | h0
      · have a := HU.out.2.2.1 h0; have b := HS.out.1 i (by omega); omega
      · have a := HU.out.2.2.2 (by omega); omega
    obtain ⟨u0, u1⟩ := uin
    obtain ⟨v0, v1⟩ := vin
    have p1 := mul_in (a := u) (b := D) (x := 1000) (y := 1099511627777) (by omega) (by omega) d0 d1 (by decide)
    have p2 := mul_in (a := v) (b := B) (x := 1000) (y := 1099511627777) (by omega) (by omega) (by omega) b1 (by decide)
    have HF : Hid (∀ w, Calls Tryz.prog 66 #[.int .i64 (u * D + v * B), .int .i64 (B + D)] w fun e w' => e = .returned (.int .i64 (hup (u * D + v * B) (B + D))) ∧ w = w') := fun w => Un.half_any _ _ (by omega) (by omega) (by omega) (by omega) w
    obtain ⟨P, hP⟩ : ∃ P, u * D = P := ⟨_, rfl⟩
    obtain ⟨Q, hQ⟩ : ∃ P, v * B = P := ⟨_, rfl⟩
    rw [hP] at p1
    rw [hQ] at p2
    rw [hP, hQ] at HF HV
    obtain ⟨R, hR⟩ : ∃ R, hup (P + Q) (B + D) = R := ⟨_, rfl⟩
    rw [hR] at HF HV
    obtain ⟨p10, p11⟩ := p1
    obtain ⟨p20, p21⟩ := p2
    have HPQ := Lib.hid (And.intro hP hQ)
    have wP : IntKind.i64.wrap P = P := IntWalk.i64_in _ (by omega)
    have wQ : IntKind.i64.wrap Q = Q := IntWalk.i64_in _ (by omega)
    have wP2 : wrap64 P = P := IntWalk.wrap64_in _ (by omega)
    have wQ2 : wrap64 Q = Q := IntWalk.wrap64_in _ (by omega)
    clear hd hex hi hB hD hu hv hR
    go_enter Tryz.func35, Tryz.ntmps35
    go_wp2_with fail
    go_at_call 63
    refine (HSR.out _ (Bel.rf.al _)).mono ?_
    rintro e w1 ⟨rfl, hb⟩
    have HB : Hid (Bel w w1) := (Bel.rf.al _).tr hb
    have KB := Bk.bel (Bk.nw w 49 #[.int .i64 f, .int .i64 s, .int .i64 c, .int .i64 r, .int .i64 q]) hb
    have hsz : w.heap.size < w1.heap.size := KB.lt
    have k3 := KB.cell 3
    have k4 := KB.cell 4
    simp at k3 k4
    have HK := Lib.hid KB
    clear hb KB
    have HK3 := Lib.hid k3
    have HK4 := Lib.hid k4
    rcases Nat.lt_or_ge 0 i with hi0 | hi0
    · obtain ⟨g, hA, hab, hac⟩ := (H1.out.bel HB.out).2 (by omega)
      subst hA
      obtain ⟨p, hp⟩ : ∃ p, i - 1 = p := ⟨_, rfl⟩
      obtain ⟨c1, c2⟩ := hac p (by omega)
      have HAC := Lib.hid hac
      obtain ⟨e1, e2⟩ := HU.out.1 hi0
      rw [hp] at e1 e2
      rw [e2] at c2
      obtain ⟨x, hx⟩ : ∃ x, tm l p = x := ⟨_, rfl⟩
      rw [hx] at c1 e1
      have hxB : t - x = B := by omega
      have wB : IntKind.i64.wrap B = B := IntWalk.i64_in _ (by omega)
      have wB2 : wrap64 B = B := IntWalk.wrap64_in _ (by omega)
      have ip : (i : Int) - 1 = (p : Int) := by omega
      have i0 : (0 : Int) < (i : Int) := by omega
      have pn : (p : Int) < (n : Int) := by omega
      have hne : g ≠ w1.heap.size := by omega
      have hne2 : g ≠ w1.heap.size + 1 := by omega
      clear e1 e2 hx hp hac
      go_wp2
      generalize hW : ((w1.alloc (Obj.cells #[Value.int IntKind.i64 0, Value.int IntKind.i64 0] 57)).alloc (Obj.cells #[Value.int IntKind.i64 0, Value.int IntKind.i64 0] 57)) = W
      have HBW : Hid (Bel w1 W) := by show Bel _ _; rw [← hW]; exact (Bel.rf.al _).al _
      have K1 : Bk W w1.heap.size 57 #[.int .i64 0, .int .i64 0] := by rw [← hW]; exact (Bk.nw w1 _ _).al _
      have K2 : Bk W (w1.heap.size + 1) 57 #[.int .i64 0, .int .i64 0] := by rw [← hW]; exact Bk.nq _ _ _ (by simp)
      clear hW
      replace c1 := HBW.out.kp c1
      replace c2 := HBW.out.kp c2
      replace k3 := HBW.out.kp k3
      replace k4 := HBW.out.kp k4
      have f0 := K1.fr 0
      have f1 := K1.fr 1
      have z0 := K1.cell 0
      have z1 := K1.cell 1
      simp at z0 z1
      clear k3 k4
      go_wp2
      go_region
      rcases Nat.lt_or_ge i n with hin | hin
      · have ii : (i : Int) < (n : Int) := by omega
        go_wp2
        generalize hX : ((W.setCell { block := w1.heap.size, off := 0 } (Value.int IntKind.i64 x)).setCell { block := w1.heap.size, off := 1 } (Value.int IntKind.i64 u)).drew = X
        have HBX : Hid (Bel w1 X) := by show Bel _ _; rw [← hX]; exact (((HBW.out).st (p := { block := w1.heap.size, off := 0 }) (by simp) _).st (p := { block := w1.heap.size, off := 1 }) (by simp) _).drw
        have L1 : Bk X w1.heap.size 57 #[.int .i64 x, .int .i64 u] := by rw [← hX]; exact ((K1.st 0 _).st 1 _).drw
        have L2 : Bk X (w1.heap.size + 1) 57 #[.int .i64 0, .int .i64 0] := by rw [← hX]; exact ((K2.far (p := { block := w1.heap.size, off := 0 }) (by simp) _).far (p := { block := w1.heap.size, off := 1 }) (by simp) _).drw
        clear hX K1 K2 c1 c2 f0 f1 z0 z1
        have k3 := HBX.out.kp (p := ⟨w.heap.size, 3, none⟩) (HK3.out)
        have k4 := HBX.out.kp (p := ⟨w.heap.size, 4, none⟩) (HK4.out)
        have l1 := L1.cell 1
        simp at l1
        obtain ⟨d1c, d2c⟩ := HAC.out i hin
        obtain ⟨e3, e4⟩ := HU.out.2.2.1 hin
        rw [e4] at d2c
        obtain ⟨y, hy⟩ : ∃ x, tm l i = x := ⟨_, rfl⟩
        rw [hy] at d1c e3
        have hyD : y - t = D := by omega
        have wD : IntKind.i64.wrap D = D := IntWalk.i64_in _ (by omega)
        have wD2 : wrap64 D = D := IntWalk.wrap64_in _ (by omega)
        clear e3 e4 hy
        replace d1c := HBX.out.kp d1c
        replace d2c := HBX.out.kp d2c
        have f0 := L2.fr 0
        have f1 := L2.fr 1
        have z0 := L2.cell 0
        have z1 := L2.cell 1
        simp at z0 z1
        clear k3 k4
        go_wp2
        go_region
        generalize hX : ((X.setCell { block := w1.heap.size + 1, off := 0 } (Value.int IntKind.i64 y)).setCell { block := w1.heap.size + 1, off := 1 } (Value.int IntKind.i64 v)).drew = Y
        have HBY : Hid (Bel w1 Y) := by show Bel _ _; rw [← hX]; exact (((HBX.out).st (p := { block := w1.heap.size + 1, off := 0 }) (by simp) _).st (p := { block := w1.heap.size + 1, off := 1 }) (by simp) _).drw
        have M1 : Bk Y w1.heap.size 57 #[.int .i64 x, .int .i64 u] := by rw [← hX]; exact ((L1.far (p := { block := w1.heap.size + 1, off := 0 }) (by simp) _).far (p := { block := w1.heap.size + 1, off := 1 }) (by simp) _).drw
        have M2 : Bk Y (w1.heap.size + 1) 57 #[.int .i64 y, .int .i64 v] := by rw [← hX]; exact ((L2.st 0 _).st 1 _).drw
        clear hX L1 L2 d1c d2c f0 f1 z0 z1 l1
        have k3 := HBY.out.kp (p := ⟨w.heap.size, 3, none⟩) (HK3.out)
        have k4 := HBY.out.kp (p := ⟨w.heap.size, 4, none⟩) (HK4.out)
        have l1 := M1.cell 1
        have l2 := M2.cell 1
        simp at l1 l2
        clear M1 M2
        rcases (show r = 1 ∨ r = 2 ∨ r = 3 by omega) with rfl | rfl | rfl
        · rcases Int.lt_or_le q B with hqB | hqB
          · have gq : ¬ B ≤ q := by omega
            first
            | (exfalso; omega)
            | (go_wp2
               go_ret2
               exact ⟨res_eq (HV.out.trans (by rw [if_pos trivial, if_neg (by omega)])), by first | exact HB.out.tr HBY.out | exact (HB.out.tr HBY.out).drwN _ | exact (HB.out.tr HBY.out).drw⟩)
          · first
            | (exfalso; omega)
            | (go_wp2
               go_ret2
               exact ⟨res_eq (HV.out.trans (by rw [if_pos trivial, if_pos (by omega)])), by first | exact HB.out.tr HBY.out | exact (HB.out.tr HBY.out).drwN _ | exact (HB.out.tr HBY.out).drw⟩)
        · rcases Int.lt_or_le D B with hDB | hDB
          · have gd : ¬ B ≤ D := by omega
            rcases Int.lt_or_le q D with hqD | hqD
            · have gq : ¬ D ≤ q := by omega
              first
              | (exfalso; omega)
              | (go_wp2
                 go_ret2
                 exact ⟨res_eq (HV.out.trans (by rw [if_neg (by decide), if_pos trivial, if_neg (by omega), if_neg (by omega)])), by first | exact HB.out.tr HBY.out | exact (HB.out.tr HBY.out).drwN _ | exact (HB.out.tr HBY.out).drw⟩)
            · first
              | (exfalso; omega)
              | (go_wp2
                 go_ret2
                 exact ⟨res_eq (HV.out.trans (by rw [if_neg (by decide), if_pos trivial, if_neg (by omega), if_pos (by omega)])), by first | exact HB.out.tr HBY.out | exact (HB.out.tr HBY.out).drwN _ | exact (HB.out.tr HBY.out).drw⟩)
          · have gd : ¬ D < B := by omega
            rcases Int.lt_or_le q B with hqB | hqB
            · have gq : ¬ B ≤ q := by omega
              first
              | (exfalso; omega)
              | (go_wp2
                 go_ret2
                 exact ⟨res_eq (HV.out.trans (by rw [if_neg (by decide), if_pos trivial, if_neg (by omega), if_neg (by omega)])), by first | exact HB.out.tr HBY.out | exact (HB.out.tr HBY.out).drwN _ | exact (HB.out.tr HBY.out).drw⟩)
            · first
              | (exfalso; omega)
              | (go_wp2
                 go_ret2
                 exact ⟨res_eq (HV.out.trans (by rw [if_neg (by decide), if_pos trivial, if_pos (by omega)])), by first | exact HB.out.tr HBY.out | exact (HB.out.tr HBY.out).drwN _ | exact (HB.out.tr HBY.out).drw⟩)
        · rcases Int.lt_or_le q B with hqB | hqB
          · have gq : ¬ B ≤ q := by omega
            first
            | (exfalso; omega)
            | (go_wp2
               go_ret2
               exact ⟨res_eq (HV.out.trans (by rw [if_neg (by decide), if_neg (by decide), if_pos trivial, if_neg (by omega)])), by first | exact HB.out.tr HBY.out | exact (HB.out.tr HBY.out).drwN _ | exact (HB.out.tr HBY.out).drw⟩)
          · rcases Int.lt_or_le q D with hqD | hqD
            · have gq : ¬ D ≤ q := by omega
              first
              | (exfalso; omega)
              | (go_wp2
                 go_ret2
                 exact ⟨res_eq (HV.out.trans (by rw [if_neg (by decide), if_neg (by decide), if_pos trivial, if_neg (by omega)])), by first | exact HB.out.tr HBY.out | exact (HB.out.tr HBY.out).drwN _ | exact (HB.out.tr HBY.out).drw⟩)
            · have m1 := HPQ.out.1
              have m2 := HPQ.out.2
              go_wp2_with (go_at_call 66; refine (HF.out _).mono ?_; rintro e w9 ⟨rfl, rfl⟩)
              go_ret2
              exact ⟨res_eq (HV.out.trans (by rw [if_neg (by decide), if_neg (by decide), if_pos trivial, if_pos (by omega)])), by first | exact HB.out.tr HBY.out | exact (HB.out.tr HBY.out).drwN _ | exact (HB.out.tr HBY.out).drw⟩
      · obtain rfl : i = n := by omega
        have ii : ¬ (i : Int) < (i : Int) := by omega
        obtain ⟨rfl, rfl⟩ := HU.out.2.2.2 rfl
        generalize hX : ((W.setCell { block := w1.heap.size, off := 0 } (Value.int IntKind.i64 x)).setCell { block := w1.heap.size, off := 1 } (Value.int IntKind.i64 u)).drew = X
        have HBX : Hid (Bel w1 X) := by show Bel _ _; rw [← hX]; exact (((HBW.out).st (p := { block := w1.heap.size, off := 0 }) (by simp) _).st (p := { block := w1.heap.size, off := 1 }) (by simp) _).drw
        have L1 : Bk X w1.heap.size 57 #[.int .i64 x, .int .i64 u] := by rw [← hX]; exact ((K1.st 0 _).st 1 _).drw
        have L2 : Bk X (w1.heap.size + 1) 57 #[.int .i64 0, .int .i64 0] := by rw [← hX]; exact ((K2.far (p := { block := w1.heap.size, off := 0 }) (by simp) _).far (p := { block := w1.heap.size, off := 1 }) (by simp) _).drw
        clear hX K1 K2 c1 c2 f0 f1 z0 z1
        have k3 := HBX.out.kp (p := ⟨w.heap.size, 3, none⟩) (HK3.out)
        have k4 := HBX.out.kp (p := ⟨w.heap.size, 4, none⟩) (HK4.out)
        have l1 := L1.cell 1
        simp at l1
        have l2 := L2.cell 1
        simp at l2
        have HBY := HBX
        clear L1 L2
        rcases (show r = 1 ∨ r = 2 ∨ r = 3 by omega) with rfl | rfl | rfl
        · rcases Int.lt_or_le q B with hqB | hqB
          · have gq : ¬ B ≤ q := by omega
            first
            | (exfalso; omega)
            | (go_wp2
               go_ret2
               exact ⟨res_eq (HV.out.trans (by rw [if_pos trivial, if_neg (by omega)])), by first | exact HB.out.tr HBY.out | exact (HB.out.tr HBY.out).drwN _ | exact (HB.out.tr HBY.out).drw⟩)
          · first
            | (exfalso; omega)
            | (go_wp2
               go_ret2
               exact ⟨res_eq (HV.out.trans (by rw [if_pos trivial, if_pos (by omega)])), by first | exact HB.out.tr HBY.out | exact (HB.out.tr HBY.out).drwN _ | exact (HB.out.tr HBY.out).drw⟩)
        · rcases Int.lt_or_le 1099511627777 B with hDB | hDB
          · have gd : ¬ B ≤ 1099511627777 := by omega
            rcases Int.lt_or_le q 1099511627777 with hqD | hqD
            · have gq : ¬ 1099511627777 ≤ q := by omega
              first
              | (exfalso; omega)
              | (go_wp2
                 go_ret2
                 exact ⟨res_eq (HV.out.trans (by rw [if_neg (by decide), if_pos trivial, if_neg (by omega), if_neg (by omega)])), by first | exact HB.out.tr HBY.out | exact (HB.out.tr HBY.out).drwN _ | exact (HB.out.tr HBY.out).drw⟩)
            · first
              | (exfalso; omega)
              | (go_wp2
                 go_ret2
                 exact ⟨res_eq (HV.out.trans (by rw [if_neg (by decide), if_pos trivial, if_neg (by omega), if_pos (by omega)])), by first | exact HB.out.tr HBY.out | exact (HB.out.tr HBY.out).drwN _ | exact (HB.out.tr HBY.out).drw⟩)
          · have gd : ¬ 1099511627777 < B := by omega
            rcases Int.lt_or_le q B with hqB | hqB
            · have gq : ¬ B ≤ q := by omega
              first
              | (exfalso; omega)
              | (go_wp2
                 go_ret2
                 exact ⟨res_eq (HV.out.trans (by rw [if_neg (by decide), if_pos trivial, if_neg (by omega), if_neg (by omega)])), by first | exact HB.out.tr HBY.out | exact (HB.out.tr HBY.out).drwN _ | exact (HB.out.tr HBY.out).drw⟩)
            · first
              | (exfalso; omega)
              | (go_wp2
                 go_ret2
                 exact ⟨res_eq (HV.out.trans (by rw [if_neg (by decide), if_pos trivial, if_pos (by omega)])), by first | exact HB.out.tr HBY.out | exact (HB.out.tr HBY.out).drwN _ | exact (HB.out.tr HBY.out).drw⟩)
        · rcases Int.lt_or_le q B with hqB | hqB
          · have gq : ¬ B ≤ q := by omega
            first
            | (exfalso; omega)
            | (go_wp2
               go_ret2
               exact ⟨res_eq (HV.out.trans (by rw [if_neg (by decide), if_neg (by decide), if_pos trivial, if_neg (by omega)])), by first | exact HB.out.tr HBY.out | exact (HB.out.tr HBY.out).drwN _ | exact (HB.out.tr HBY.out).drw⟩)
          · rcases Int.lt_or_le q 1099511627777 with hqD | hqD
            · have gq : ¬ 1099511627777 ≤ q := by omega
              first
              | (exfalso; omega)
              | (go_wp2
                 go_ret2
                 exact ⟨res_eq (HV.out.trans (by rw [if_neg (by decide), if_neg (by decide), if_pos trivial, if_neg (by omega)])), by first | exact HB.out.tr HBY.out | exact (HB.out.tr HBY.out).drwN _ | exact (HB.out.tr HBY.out).drw⟩)
            · exfalso; omega
    · obtain rfl : i = 0 := by omega
      obtain ⟨rfl, rfl⟩ := HU.out.2.1 rfl
      rcases Nat.lt_or_ge 0 n with hin | hin
      · have ii : (0 : Int) < (n : Int) := by omega
        obtain ⟨g, hA, hab, hac⟩ := (H1.out.bel HB.out).2 (by omega)
        subst hA
        obtain ⟨d1c, d2c⟩ := hac 0 (by omega)
        obtain ⟨e3, e4⟩ := HU.out.2.2.1 (by omega)
        rw [e4] at d2c
        obtain ⟨y, hy⟩ : ∃ x, tm l 0 = x := ⟨_, rfl⟩
        rw [hy] at d1c e3
        have hyD : y - t = D := by omega
        have wD : IntKind.i64.wrap D = D := IntWalk.i64_in _ (by omega)
        have wD2 : wrap64 D = D := IntWalk.wrap64_in _ (by omega)
        have hne : g ≠ w1.heap.size := by omega
        have hne2 : g ≠ w1.heap.size + 1 := by omega
        clear e3 e4 hy hac
        go_wp2
        generalize hW : ((w1.alloc (Obj.cells #[Value.int IntKind.i64 0, Value.int IntKind.i64 0] 57)).alloc (Obj.cells #[Value.int IntKind.i64 0, Value.int IntKind.i64 0] 57)) = W
        have HBW : Hid (Bel w1 W) := by show Bel _ _; rw [← hW]; exact (Bel.rf.al _).al _
        have K1 : Bk W w1.heap.size 57 #[.int .i64 0, .int .i64 0] := by rw [← hW]; exact (Bk.nw w1 _ _).al _
        have K2 : Bk W (w1.heap.size + 1) 57 #[.int .i64 0, .int .i64 0] := by rw [← hW]; exact Bk.nq _ _ _ (by simp)
        clear hW
        rw [Nat.zero_mul] at d1c
        replace d1c := HBW.out.kp d1c
        replace d2c := HBW.out.kp d2c
        replace k3 := HBW.out.kp k3
        replace k4 := HBW.out.kp k4
        have f0 := K2.fr 0
        have f1 := K2.fr 1
        have z0 := K2.cell 0
        have z1 := K2.cell 1
        simp at z0 z1
        clear k3 k4
        go_wp2
        go_region
        generalize hX : ((W.setCell { block := w1.heap.size + 1, off := 0 } (Value.int IntKind.i64 y)).setCell { block := w1.heap.size + 1, off := 1 } (Value.int IntKind.i64 v)).drew = Y
        have HBY : Hid (Bel w1 Y) := by show Bel _ _; rw [← hX]; exact (((HBW.out).st (p := { block := w1.heap.size + 1, off := 0 }) (by simp) _).st (p := { block := w1.heap.size + 1, off := 1 }) (by simp) _).drw
        have M1 : Bk Y w1.heap.size 57 #[.int .i64 0, .int .i64 0] := by rw [← hX]; exact ((K1.far (p := { block := w1.heap.size + 1, off := 0 }) (by simp) _).far (p := { block := w1.heap.size + 1, off := 1 }) (by simp) _).drw
        have M2 : Bk Y (w1.heap.size + 1) 57 #[.int .i64 y, .int .i64 v] := by rw [← hX]; exact ((K2.st 0 _).st 1 _).drw
        clear hX K1 K2 d1c d2c f0 f1 z0 z1
        have k3 := HBY.out.kp (p := ⟨w.heap.size, 3, none⟩) (HK3.out)
        have k4 := HBY.out.kp (p := ⟨w.heap.size, 4, none⟩) (HK4.out)
        have l1 := M1.cell 1
        have l2 := M2.cell 1
        simp at l1 l2
        clear M1 M2
        rcases (show r = 1 ∨ r = 2 ∨ r = 3 by omega) with rfl | rfl | rfl
        · rcases Int.lt_or_le q 1099511627777 with hqB | hqB
          · have gq : ¬ 1099511627777 ≤ q := by omega
            first
            | (exfalso; omega)
            | (go_wp2
               go_ret2
               exact ⟨res_eq (HV.out.trans (by rw [if_pos trivial, if_neg (by omega)])), by first | exact HB.out.tr HBY.out | exact (HB.out.tr HBY.out).drwN _ | exact (HB.out.tr HBY.out).drw⟩)
          · first
            | (exfalso; omega)
            | (go_wp2
               go_ret2
               exact ⟨res_eq (HV.out.trans (by rw [if_pos trivial, if_pos (by omega)])), by first | exact HB.out.tr HBY.out | exact (HB.out.tr HBY.out).drwN _ | exact (HB.out.tr HBY.out).drw⟩)
        · rcases Int.lt_or_le D 1099511627777 with hDB | hDB
          · have gd : ¬ 1099511627777 ≤ D := by omega
            rcases Int.lt_or_le q D with hqD | hqD
            · have gq : ¬ D ≤ q := by omega
              first
              | (exfalso; omega)
              | (go_wp2
                 go_ret2
                 exact ⟨res_eq (HV.out.trans (by rw [if_neg (by decide), if_pos trivial, if_neg (by omega), if_neg (by omega)])), by first | exact HB.out.tr HBY.out | exact (HB.out.tr HBY.out).drwN _ | exact (HB.out.tr HBY.out).drw⟩)
            · first
              | (exfalso; omega)
              | (go_wp2
                 go_ret2
                 exact ⟨res_eq (HV.out.trans (by rw [if_neg (by decide), if_pos trivial, if_neg (by omega), if_pos (by omega)])), by first | exact HB.out.tr HBY.out | exact (HB.out.tr HBY.out).drwN _ | exact (HB.out.tr HBY.out).drw⟩)
          · have gd : ¬ D < 1099511627777 := by omega
            rcases Int.lt_or_le q 1099511627777 with hqB | hqB
            · have gq : ¬ 1099511627777 ≤ q := by omega
              first
              | (exfalso; omega)
              | (go_wp2
                 go_ret2
                 exact ⟨res_eq (HV.out.trans (by rw [if_neg (by decide), if_pos trivial, if_neg (by omega), if_neg (by omega)])), by first | exact HB.out.tr HBY.out | exact (HB.out.tr HBY.out).drwN _ | exact (HB.out.tr HBY.out).drw⟩)
            · first
              | (exfalso; omega)
              | (go_wp2
                 go_ret2
                 exact ⟨res_eq (HV.out.trans (by rw [if_neg (by decide), if_pos trivial, if_pos (by omega)])), by first | exact HB.out.tr HBY.out | exact (HB.out.tr HBY.out).drwN _ | exact (HB.out.tr HBY.out).drw⟩)
        · rcases Int.lt_or_le q 1099511627777 with hqB | hqB
          · have gq : ¬ 1099511627777 ≤ q := by omega
            first
            | (exfalso; omega)
            | (go_wp2
               go_ret2
               exact ⟨res_eq (HV.out.trans (by rw [if_neg (by decide), if_neg (by decide), if_pos trivial, if_neg (by omega)])), by first | exact HB.out.tr HBY.out | exact (HB.out.tr HBY.out).drwN _ | exact (HB.out.tr HBY.out).drw⟩)
          · rcases Int.lt_or_le q D with hqD | hqD
            · have gq : ¬ D ≤ q := by omega
              first
              | (exfalso; omega)
              | (go_wp2
                 go_ret2
                 exact ⟨res_eq (HV.out.trans (by rw [if_neg (by decide), if_neg (by decide), if_pos trivial, if_neg (by omega)])), by first | exact HB.out.tr HBY.out | exact (HB.out.tr HBY.out).drwN _ | exact (HB.out.tr HBY.out).drw⟩)
            · exfalso; omega
      · obtain rfl : n = 0 := by omega
        obtain ⟨rfl, rfl⟩ := HU.out.2.2.2 rfl
        have k3' : ∀ o p, ((w1.alloc o).alloc p).cell? ⟨w.heap.size, 3, none⟩ = some (.int .i64 r) := fun o p => kp_al (kp_al k3 o) p
        have k4' : ∀ o p, ((w1.alloc o).alloc p).cell? ⟨w.heap.size, 4, none⟩ = some (.int .i64 q) := fun o p => kp_al (kp_al k4 o) p
        rcases (show r = 1 ∨ r = 2 ∨ r = 3 by omega) with rfl | rfl | rfl
        · rcases Int.lt_or_le q 1099511627777 with hqB | hqB
          · have gq : ¬ 1099511627777 ≤ q := by omega
            first
            | (exfalso; omega)
            | (go_wp2
               go_ret2
               exact ⟨res_eq (HV.out.trans (by rw [if_pos trivial, if_neg (by omega)])), by first | exact (HB.out.al _).al _ | exact ((HB.out.al _).al _).drwN _⟩)
          · first
            | (exfalso; omega)
            | (go_wp2
               go_ret2
               exact ⟨res_eq (HV.out.trans (by rw [if_pos trivial, if_pos (by omega)])), by first | exact (HB.out.al _).al _ | exact ((HB.out.al _).al _).drwN _⟩)
        · rcases Int.lt_or_le 1099511627777 1099511627777 with hDB | hDB
          · have gd : ¬ 1099511627777 ≤ 1099511627777 := by omega
            rcases Int.lt_or_le q 1099511627777 with hqD | hqD
            · have gq : ¬ 1099511627777 ≤ q := by omega
              first
              | (exfalso; omega)
              | (go_wp2
                 go_ret2
                 exact ⟨res_eq (HV.out.trans (by rw [if_neg (by decide), if_pos trivial, if_neg (by omega), if_neg (by omega)])), by first | exact (HB.out.al _).al _ | exact ((HB.out.al _).al _).drwN _⟩)
            · first
              | (exfalso; omega)
              | (go_wp2
                 go_ret2
                 exact ⟨res_eq (HV.out.trans (by rw [if_neg (by decide), if_pos trivial, if_neg (by omega), if_pos (by omega)])), by first | exact (HB.out.al _).al _ | exact ((HB.out.al _).al _).drwN _⟩)
          · have gd : ¬ 1099511627777 < 1099511627777 := by omega
            rcases Int.lt_or_le q 1099511627777 with hqB | hqB
            · have gq : ¬ 1099511627777 ≤ q := by omega
              first
              | (exfalso; omega)
              | (go_wp2
                 go_ret2
                 exact ⟨res_eq (HV.out.trans (by rw [if_neg (by decide), if_pos trivial, if_neg (by omega), if_neg (by omega)])), by first | exact (HB.out.al _).al _ | exact ((HB.out.al _).al _).drwN _⟩)
            · first
              | (exfalso; omega)
              | (go_wp2
                 go_ret2
                 exact ⟨res_eq (HV.out.trans (by rw [if_neg (by decide), if_pos trivial, if_pos (by omega)])), by first | exact (HB.out.al _).al _ | exact ((HB.out.al _).al _).drwN _⟩)
        · rcases Int.lt_or_le q 1099511627777 with hqB | hqB
          · have gq : ¬ 1099511627777 ≤ q := by omega
            first
            | (exfalso; omega)
            | (go_wp2
               go_ret2
               exact ⟨res_eq (HV.out.trans (by rw [if_neg (by decide), if_neg (by decide), if_pos trivial, if_neg (by omega)])), by first | exact (HB.out.al _).al _ | exact ((HB.out.al _).al _).drwN _⟩)
          · rcases Int.lt_or_le q 1099511627777 with hqD | hqD
            · have gq : ¬ 1099511627777 ≤ q := by omega
              first
              | (exfalso; omega)
              | (go_wp2
                 go_ret2
                 exact ⟨res_eq (HV.out.trans (by rw [if_neg (by decide), if_neg (by decide), if_pos trivial, if_neg (by omega)])), by first | exact (HB.out.al _).al _ | exact ((HB.out.al _).al _).drwN _⟩)
            · exfalso; omega
end Go.Proofs.YtnjojdmmalmhaaaGreatDoor.Rg
namespace Go.Proofs.YtnjojdmmalmhaaaGreatDoor.Rg
open Go.ChangeShapes Go.WideShapes Go.RowKit Wo Sr Wi Rm
set_option linter.unusedVariables false
theorem snoc_tm (l : List Rp) (p : Rp) (i : Nat) : tm (l ++ [p]) i = if i < l.length then tm l i else if i = l.length then p.1 else 0 := by
  unfold tm
  rw [List.getD_eq_getElem?_getD, List.getD_eq_getElem?_getD, List.getElem?_append]
  split
  · rfl
  · split
    · rename_i h; subst h; simp
    · rw [List.getElem?_eq_none (by simp; omega)]; rfl
theorem snoc_vl (l : List Rp) (p : Rp) (i : Nat) : vl (l ++ [p]) i = if i < l.length then vl l i else if i = l.length then p.2 else 0 := by
  unfold vl
  rw [List.getD_eq_getElem?_getD, List.getD_eq_getElem?_getD, List.getElem?_append]
  split
  · rfl
  · split
    · rename_i h; subst h; simp
    · rw [List.getElem?_eq_none (by simp; omega)]; rfl
theorem asc_snoc {l : List Rp} (h : Asc l) (a b : Int) (ha : ∀ i, i < l.length → tm l i < a) (a0 : 0 ≤ a) (a1 : a ≤ 1099511627776) (b0 : -1000 ≤ b) (b1 : b ≤ 1000) : Asc (l ++ [(a, b)]) := by
  have hl : (l ++ [(a, b)]).length = l.length + 1 := by simp
  refine ⟨fun i hi => ?_, fun i hi => ?_⟩
  · rw [hl] at hi
    rw [snoc_tm, snoc_vl]
    by_cases h2 : i < l.length
    · rw [if_pos h2, if_pos h2]; exact h.1 i h2
    · rw [if_neg h2, if_neg h2, if_pos (by omega), if_pos (by omega)]; exact ⟨a0, a1, b0, b1⟩
  · rw [hl] at hi
    rw [snoc_tm, snoc_tm, if_pos (by omega)]
    by_cases h2 : i + 1 < l.length
    · rw [if_pos h2]; exact h.2 i h2
    · rw [if_neg h2, if_pos (by omega)]; exact ha i (by omega)
theorem asc_nil : Asc [] := ⟨fun i hi => by simp at hi, fun i hi => by simp at hi⟩
/-- a new row of readings that ascend -/
def SomeAsc (g m : Nat) (w : World) (e : Ending) (w' : World) : Prop := ∃ (v : Value) (k : Nat) (l : List Rp), e = .returned v ∧ w'.ownsRow w.heap.size 57 2 v k (rs l) ∧ l.length = k ∧ k ≤ m ∧ Asc l ∧ (0 < k → tm l 0 ≤ 1099511627488) ∧ Ok w' g ∧ Ch g w w'
def AI (N : Nat) (g base : Nat) (w : World) (s5 s6 s7 : Value) (wr : World) : Prop := ∃ (k : Nat) (l : List Rp) (t i : Int) (V : World) (u : Value), V = wr ∧ u = s5 ∧ k ≤ N ∧ s7 = .int .i64 i ∧ i = (N : Int) - (k : Int) ∧ s6 = .int .i64 t ∧
  wr.ownsRow base 57 2 s5 k (rs l) ∧ l.length = k ∧ Asc l ∧ (∀ i, i < k → tm l i ≤ t) ∧ 0 ≤ t ∧ t ≤ 1099511627476 + 12 * (k : Int) ∧ (0 < k → tm l 0 ≤ 1099511627488) ∧ Ok wr g ∧ Ch g w wr ∧ base ≤ wr.heap.size
theorem ai_step {N g k : Nat} {w wr w1 w2 : World} {s5 v' : Value} {l : List Rp} {t x y : Int} (hgb : g < w.heap.size) (hk : k < N) (hN : N ≤ 25) (hL : l.length = k) (hv : Asc l) (hle : ∀ i, i < k → tm l i ≤ t) (t0 : 0 ≤ t) (t1 : t ≤ 1099511627476 + 12 * (k : Int)) (hf : 0 < k → tm l 0 ≤ 1099511627488) (x0 : 1 ≤ x) (x1 : x ≤ 12) (y0 : -1000 ≤ y) (y1 : y ≤ 1000)
    (hown : wr.ownsRow w.heap.size 57 2 s5 k (rs l)) (ho1 : Ok w1 g) (hc1 : Ch g wr w1) (hb : Ch g w wr) (hbase : w.heap.size ≤ wr.heap.size) (o : Obj)
    (hown2 : w2.ownsRow w.heap.size 57 2 v' (k + 1) (rs (l ++ [(t + x, y)]))) (hgr : (w1.alloc o).grownBy w2 s5.ownBlock) :
    AI N g w.heap.size w v' (.int .i64 (t + x)) (.int .i64 ((N : Int) - (k : Int) - 1)) w2 := by
  have hrow : ∀ b, s5.ownBlock = some b → w.heap.size ≤ b := fun b e => (hown.lt b e).1
  refine ⟨k + 1, l ++ [(t + x, y)], t + x, _, _, _, rfl, rfl, by omega, rfl, by omega, rfl, hown2, by simp [hL], asc_snoc hv _ _ (fun i hi => by have := hle i (by omega); omega) (by omega) (by omega) y0 y1, fun i hi => ?_, by omega, by omega, fun _ => ?_, ?_, ?_, ?_⟩
  · rw [snoc_tm]
    by_cases h2 : i < l.length
    · rw [if_pos h2]; have := hle i (by omega); omega
    · rw [if_neg h2, if_pos (by omega)]; exact Int.le_refl _
  · rw [snoc_tm]
    by_cases h2 : 0 < l.length
    · rw [if_pos h2]; exact hf (by omega)
    · rw [if_neg h2, if_pos (by omega)]; show t + x ≤ _; omega
  · exact ok_grown (ho1.bel (Bel.rf.al _)) hgr (fun b e => by have := hrow b e; omega)
  · exact ch_grown ((hb.tr hc1).al _) hgr hrow
  · have := hgr.size
    have := hc1.sz
    simp at *
    omega
set_option maxHeartbeats 4000000 in
theorem ascending_any (g m : Nat) (hm : m ≤ 25) (w : World) (h : Ok w g) : Calls Tryz.prog 14 #[.pointer (some ⟨g, 0, none⟩), .int .i64 (m : Int)] w (SomeAsc g m w) := by
  have HO1 := Lib.hid h
  have HGB := Lib.hid h.lt
  have mi : (m : Int) ≤ 25 := by omega
  clear h
  go_enter Tryz.func14, Tryz.ntmps14
  go_wp2_with fail
  go_at_call 20
  refine (pick_any g w.heap.size [0, 0, 7, 1099511627476] 4 (by rfl) (by decide) (by decide) (by have := HGB.out; omega) _ (HO1.out.bel (Bel.rf.al _)) (lst_new _ _ _ _ (by rfl) _ rfl)).mono ?_
  rintro e w1 ⟨t, rfl, ht, ho, hc⟩
  have t0 : 0 ≤ t ∧ t ≤ 1099511627476 := by simp at ht; omega
  have HO2 := Lib.hid ho
  have HC2 : Hid (Ch g w w1) := (Ch.rf.al _).tr hc
  clear ho hc ht
  go_wp2_with fail
  go_at_call 23
  refine (n_any g ((m : Int) + 1) (by omega) (by omega) _ HO2.out).mono ?_
  rintro e w2 ⟨nn, rfl, n0, n1, ho, hc⟩
  obtain ⟨N, rfl⟩ := Int.eq_ofNat_of_zero_le n0
  have HO3 := Lib.hid ho
  have HC3 : Hid (Ch g w w2) := HC2.out.tr hc
  clear ho hc
  have HNM : Hid (N ≤ m) := (by omega : N ≤ m)
  have HR0 : Hid (AI N g w.heap.size w (.slice none 0 0) (.int .i64 t) (.int .i64 (N : Int)) w2) :=
    ⟨0, [], t, _, _, _, rfl, rfl, by omega, rfl, by omega, rfl, World.ownsRow_nil _ _ _ _, rfl, asc_nil, fun i hi => by omega, by omega, by omega, fun h => by omega, HO3.out, HC3.out, HC3.out.sz⟩
  go_wp2
  go_loopw [5, 6, 7] (fun s5 s6 s7 wr => AI N g w.heap.size w s5 s6 s7 wr) (fun _ _ s7 _ => (intOf s7).toNat)
  case atStart => exact HR0.out
  case round =>
    clear HR0
    obtain ⟨k, l, a, i, wr, u5, hwr, hu5, hk, rfl, hi, rfl, hown, hL, hv, hle, a0, a1, hf0, hog, hcw, hbase⟩ := hrel
    subst hwr hu5
    have HO := Lib.hid hown
    have HL := Lib.hid hL
    have HV := Lib.hid (And.intro hv hle)
    have HG := Lib.hid hog
    have HCW := Lib.hid hcw
    have HI := Lib.hid hi
    have HF0 := Lib.hid hf0
    have ki : (k : Int) ≤ 25 := by omega
    clear hown hL hv hle hog hcw hf0
    rcases Nat.lt_or_ge k N with hlt | hge
    · have i0 : 0 < i := by omega
      have i1 : i ≤ 25 := by omega
      clear hi
      go_wp2_with fail
      go_at_call 21
      refine (range_any g 1 12 (by decide) (by decide) (by decide) _ HG.out).mono ?_
      rintro e w6 ⟨x, rfl, x0, x1, ho, hc⟩
      have HG6 := Lib.hid ho
      have HC6 : Hid (Ch g wr w6) := hc
      clear ho hc
      go_wp2_with fail
      go_at_call 21
      refine (range_any g (-30) 30 (by decide) (by decide) (by decide) _ HG6.out).mono ?_
      rintro e w7 ⟨y, rfl, y0, y1, ho, hc⟩
      have HG7 := Lib.hid ho
      have HC7 : Hid (Ch g wr w7) := HC6.out.tr hc
      clear ho hc
      go_wp2_with fail
      go_at_call 20
      refine (pick_any g w7.heap.size [1, 1, 33] 3 (by rfl) (by decide) (by decide) (by have := HG7.out.lt; omega) _ (HG7.out.bel (Bel.rf.al _)) (lst_new _ _ _ _ (by rfl) _ rfl)).mono ?_
      rintro e w8 ⟨f, rfl, hf, ho, hc⟩
      have HG8 := Lib.hid ho
      have HC8 : Hid (Ch g wr w8) := (HC7.out.al _).tr hc
      obtain ⟨z, hz⟩ : ∃ z, y * f = z := ⟨_, rfl⟩
      have hz0 : -1000 ≤ z ∧ z ≤ 1000 := by
        simp at hf
        rcases hf with rfl | rfl <;> omega
      obtain ⟨z0, z1⟩ := hz0
      have wz : wrap64 z = z := IntWalk.wrap64_in _ (by omega)
      clear ho hc hf
      have hown1 := HO.out.kept (HC8.out) (by
        rcases hob : u5.ownBlock with _ | q
        · exact .inl rfl
        · exact .inr (fun e => by injection e with e; have := (HO.out.lt q hob).1; have := HGB.out; omega))
      have hsz := Ch.sz (HC8.out)
      have HOW := Lib.hid hown1
      clear hown1
      go_wp2_with (at_builtin; refine list_appr _ rfl (.tmp 23) (.tmp 32) rfl w.heap.size u5 k l rfl (own_bel HOW.out (Bel.rf.al _)) w8.heap.size 1 (a + x, z) rfl (Bk.nw _ _ _) (by omega) (by simp; omega) ?_; intro v' w9 h9 hg9 hat9)
      have hstep := ai_step (x := x) (y := z) HGB.out hlt (by have := HNM.out; omega) HL.out HV.out.1 HV.out.2 a0 a1 HF0.out x0 x1 z0 z1 HO.out (HG8.out) (HC8.out) HCW.out hbase _ h9 hg9
      rw [← HI.out] at hstep
      have HST := Lib.hid hstep
      clear hstep h9 hg9 hat9
      go_wp2
      go_roundw
      case rel => exact HST.out
      case measure => simp [intOf]; omega
    · have i0 : i = 0 := by omega
      subst i0
      clear hi
      go_wp2
      go_ret
      exact ⟨_, k, l, rfl, HO.out, HL.out, by have := HNM.out; omega, HV.out.1, HF0.out, HG.out, HCW.out⟩
end Go.Proofs.YtnjojdmmalmhaaaGreatDoor.Rg
namespace Go.Proofs.YtnjojdmmalmhaaaGreatDoor.Rg
open Go.ChangeShapes Go.WideShapes Go.RowKit Wo Sr Wi Rm
set_option linter.unusedVariables false
set_option maxHeartbeats 4000000 in
theorem at_ok (A : Option Addr) (ca n : Nat) (l : List Rp) (hn : n ≤ 2000) (hs : Asc l) (f s c r q t : Int) (hg : Gv f s c r q) (t0 : 0 ≤ t) (t1 : t ≤ 1099511627776) (w : World) (h : Zr w A n l) :
    Calls Tryz.prog 18 #[.slice A n ca, gv f s c r q, .int .i64 t] w fun e w' => e = .returned (.tuple #[.int .i64 (val l r q t).1, .bool (val l r q t).2]) ∧ Bel w w' := by
  have HRG : Hid (∀ W, Bel w W → _) := fun W hW => regular_ok A ca n l hn hs W (h.bel hW)
  have HVD : Hid (∀ W, _) := fun W => valid_ok f s c r q hg W
  obtain ⟨f0, f1, s0, s1, c0, c1, h1, r0, r1, q0, q1⟩ := hg
  have HVL : Hid (∀ W, Bel w W → _) := fun W hW => value_ok A ca n l hn hs f s c r q t t0 t1 r0 r1 q0 q1 W (h.bel hW)
  obtain ⟨x, hx⟩ : ∃ x, (val l r q t).1 = x := ⟨_, rfl⟩
  obtain ⟨y, hy⟩ : ∃ x, (val l r q t).2 = x := ⟨_, rfl⟩
  rw [hx, hy] at HVL ⊢
  unfold gv at HVD HVL ⊢
  clear h hs hx hy h1
  go_enter Tryz.func18, Tryz.ntmps18
  go_wp2_with fail
  go_at_call 34
  refine (HRG.out _ (Bel.rf.al _)).mono ?_
  rintro e w1 ⟨rfl, hb⟩
  have KB := Bk.bel (Bk.nw w 49 #[.int .i64 f, .int .i64 s, .int .i64 c, .int .i64 r, .int .i64 q]) hb
  have HB1 : Hid (Bel w w1) := (Bel.rf.al _).tr hb
  have k0 := KB.cell 0
  have k1 := KB.cell 1
  have k2 := KB.cell 2
  have k3 := KB.cell 3
  have k4 := KB.cell 4
  simp at k0 k1 k2 k3 k4
  have HKB := Lib.hid KB
  clear hb KB
  go_wp2_with fail
  go_at_call 33
  refine (HVD.out _).mono ?_
  rintro e w2 ⟨rfl, hb⟩
  have HB2 : Hid (Bel w w2) := by first | exact HB1.out.tr hb | exact (HB1.out.drwN _).tr hb
  have KB : Bk w2 w.heap.size 49 #[.int .i64 f, .int .i64 s, .int .i64 c, .int .i64 r, .int .i64 q] := by first | exact HKB.out.bel hb | exact (HKB.out.drwN _).bel hb
  clear k0 k1 k2 k3 k4
  have k0 := KB.cell 0
  have k1 := KB.cell 1
  have k2 := KB.cell 2
  have k3 := KB.cell 3
  have k4 := KB.cell 4
  simp at k0 k1 k2 k3 k4
  clear hb KB
  go_wp2_with (go_at_call 35; refine (HVL.out _ (by first | exact HB2.out | exact HB2.out.drwN _)).mono ?_; rintro e w3 ⟨rfl, hb3⟩)
  go_ret2
  exact ⟨rfl, by first | exact HB2.out.tr hb3 | exact (HB2.out.drwN _).tr hb3⟩
theorem wp_make_any {P : Program} (w : World) {o : Oper} {a : Act} {K : Act → World → Prop} {Q : Exit → Act → World → Prop}
    (l c : Operand) (t : TypeId) (hop : o.op = Op.makeSlice t l c)
    (e : TypeId) (i : TypeInfo) (z : Value) (size : Nat) (h1 : P.underlying t = some (.slice e)) (h2 : P.info? e = some i) (h3 : i.zero = some z) (h4 : i.size = size)
    (kl kc : IntKind) (L C : Int) (m n : Nat) (hl : a.eval l = .int kl L) (hc : a.eval c = .int kc C) (hL : L = (m : Int)) (hC : C = (n : Int)) (hmn : m ≤ n) (b2 : i.bytes * n ≤ 281474976710656) (b3 : n ≤ 4611686018427387904)
    (hK : K (a.put o.dst (.slice (some ⟨w.heap.size, 0, none⟩) m n)) (w.alloc (.cells (madeCells z.cells (n * size)) e))) : o.wp P a w K Q := by
  have hb' : (i.bytes : Int) * (n : Int) ≤ 281474976710656 := by
    have h : ((i.bytes * n : Nat) : Int) ≤ 281474976710656 := by omega
    rwa [Int.natCast_mul] at h
  have hr := run_make (P := P) w t e i z h1 h2 h3 kl kc m n (by omega) (by omega) hb' (by omega)
  simp only [Int.toNat_natCast] at hr
  subst hL
  subst hC
  subst h4
  unfold Oper.wp
  simp [execOp, hop, hl, hc, hr, Result.andThen]
  exact hK
theorem step_make_any {P : Program} (w : World) {ops : Array Oper} {o : Oper} {a : Act} {K : Act → World → Prop} {Q : Exit → Act → World → Prop} {E : Prop} (hgd : o.guard = none)
    (l c : Operand) (t : TypeId) (hop : o.op = Op.makeSlice t l c)
    (e : TypeId) (i : TypeInfo) (z : Value) (size : Nat) (h1 : P.underlying t = some (.slice e)) (h2 : P.info? e = some i) (h3 : i.zero = some z) (h4 : i.size = size)
    (kl kc : IntKind) (L C : Int) (m n : Nat) (hl : a.eval l = .int kl L) (hc : a.eval c = .int kc C) (hL : L = (m : Int)) (hC : C = (n : Int)) (hmn : m ≤ n) (b2 : i.bytes * n ≤ 281474976710656) (b3 : n ≤ 4611686018427387904)
    (hK : K (a.put o.dst (.slice (some ⟨w.heap.size, 0, none⟩) m n)) (w.alloc (.cells (madeCells z.cells (n * size)) e))) :
    if Region.wanted o (yielded ops a.tmps) = true then Oper.wp P o a w K Q else E := by
  have hw : Region.wanted o (yielded ops a.tmps) = true := by simp [Region.wanted, hgd]
  rw [if_pos hw]
  exact wp_make_any w l c t hop e i z size h1 h2 h3 h4 kl kc L C m n hl hc hL hC hmn b2 b3 hK
/-- a grid as a result of its own -/
theorem results_g {fn : Func} {p : Tmp} (h : fn.results = #[.cell p 49]) (tmps : Array Value) (w : World) (g : Nat) (a b c d e : Value)
    (hp : tmps.getD p undef = .pointer (some ⟨g, 0, none⟩)) (hg : Bk w g 49 #[a, b, c, d, e]) :
    (results fn tmps).run Tryz.prog w = .ok (.agg #[a, b, c, d, e]) w := by
  have hp' : tmps[p]?.getD undef = .pointer (some ⟨g, 0, none⟩) := by simpa using hp
  have hl := run_loadVar_row (P := Tryz.prog) w g 49 49 #[a, b, c, d, e] (0, 0) _ hg Tryz.underlying49 rfl (by kernel_rfl)
  simp [results, h, hp', asAddr, hl]
/-- a series and an error -/
theorem results_s {fn : Func} {p u : Tmp} (h : fn.results = #[.cell p 24, .tmp u]) (tmps : Array Value) (w : World) (g : Nat) (a b c : Value)
    (hp : tmps.getD p undef = .pointer (some ⟨g, 0, none⟩)) (hg : Bk w g 24 #[a, b, c]) :
    (results fn tmps).run Tryz.prog w = .ok (.tuple #[.agg #[a, b, c], tmps.getD u undef]) w := by
  have hp' : tmps[p]?.getD undef = .pointer (some ⟨g, 0, none⟩) := by simpa using hp
  have hl := run_loadVar_row (P := Tryz.prog) w g 24 24 #[a, b, c] (0, 0) _ hg Tryz.underlying24 rfl (by kernel_rfl)
  simp [results, h, hp', asAddr, hl]
end Go.Proofs.YtnjojdmmalmhaaaGreatDoor.Rg
namespace Go.Proofs.YtnjojdmmalmhaaaGreatDoor.Rg
open Go.ChangeShapes Go.WideShapes Go.RowKit Wo Sr Wi Rm
set_option linter.unusedVariables false
def vz (p : Int × Bool) : Int := if p.2 = true then p.1 else 1073741824
def vals (l : List Rp) (f s r q : Int) (N : Nat) : List Int := (List.range N).map fun (i : Nat) => vz (val l r q (f + (i : Int) * s))
theorem vals_len (l : List Rp) (f s r q : Int) (N : Nat) : (vals l f s r q N).length = N := by simp [vals]
theorem vals_at (l : List Rp) (f s r q : Int) (N i : Nat) (h : i < N) : (vals l f s r q N).getD i 0 = vz (val l r q (f + (i : Int) * s)) := by
  rw [List.getD_eq_getElem?_getD, vals, List.getElem?_map, List.getElem?_range h]; rfl
theorem bk_set {w : World} {h : Nat} {t : TypeId} {M : List Int} (hb : Bk w h t (zs M).toArray) (k : Nat) (v : Int) : Bk (w.setCell ⟨h, k, none⟩ (.int .i64 v)) h t (zs (M.set k v)).toArray := by
  have := hb.st k (.int .i64 v)
  have e : (zs M).toArray.setIfInBounds k (.int .i64 v) = (zs (M.set k v)).toArray := by simp [zs, List.map_set]
  rwa [e] at this
theorem set_at (A : List Int) (k i : Nat) (y : Int) : (A.set k y).getD i 0 = if i = k ∧ i < A.length then y else A.getD i 0 := by
  rw [List.getD_eq_getElem?_getD, List.getD_eq_getElem?_getD, List.getElem?_set]
  rcases Classical.em (k = i) with rfl | h
  · rcases Nat.lt_or_ge k A.length with h2 | h2
    · simp [h2]
    · simp [Nat.not_lt.2 h2]
  · rw [if_neg h, if_neg (by omega)]
theorem lists_eq {A B : List Int} (hl : A.length = B.length) (h : ∀ i, i < A.length → A.getD i 0 = B.getD i 0) : A = B := by
  apply List.ext_getElem?
  intro i
  rcases Nat.lt_or_ge i A.length with hi | hi
  · have := h i hi
    rw [List.getD_eq_getElem?_getD, List.getD_eq_getElem?_getD, List.getElem?_eq_getElem hi, List.getElem?_eq_getElem (by omega)] at this
    rw [List.getElem?_eq_getElem hi, List.getElem?_eq_getElem (by omega)]
    exact congrArg some this
  · rw [List.getElem?_eq_none hi, List.getElem?_eq_none (by omega)]
set_option maxHeartbeats 8000000 in
set_option maxRecDepth 100000 in
theorem apply_ok (A : Option Addr) (ca n : Nat) (l : List Rp) (hn : n ≤ 2000) (hs : Asc l) (f s r q : Int) (N : Nat) (hg : Gv f s (N : Int) r q) (w : World) (h : Zr w A n l) :
    Calls Tryz.prog 16 #[.slice A n ca, gv f s (N : Int) r q] w fun e w' => ∃ gq : Nat, e = .returned (.tuple #[.agg #[.int .i64 f, .int .i64 s, .slice (some ⟨gq, 0, none⟩) N N], .int .i64 0]) ∧ w.heap.size ≤ gq ∧ Bk w' gq 3 (zs (vals l f s r q N)).toArray ∧ Bel w w' := by
  have HRG : Hid (∀ W, Bel w W → _) := fun W hW => regular_ok A ca n l hn hs W (h.bel hW)
  have HVD : Hid (∀ W, _) := fun W => valid_ok f s N r q hg W
  obtain ⟨f0, f1, s0, s1, c0, c1, h1, r0, r1, q0, q1⟩ := hg
  have HTM : Hid (∀ i : Nat, i < N → 0 ≤ (i : Int) * s ∧ f + (i : Int) * s ≤ 1099511627776) := fun i hi => by
    have a := h1 (by omega)
    have b := Int.mul_le_mul_of_nonneg_right (show (i : Int) ≤ (N : Int) - 1 by omega) (show 0 ≤ s by omega)
    exact ⟨Int.mul_nonneg (by omega) (by omega), by omega⟩
  have HVL : Hid (∀ (t : Int) W, 0 ≤ t → t ≤ 1099511627776 → Bel w W → _) := fun t W t0 t1 hW => value_ok A ca n l hn hs f s N r q t t0 t1 r0 r1 q0 q1 W (h.bel hW)
  obtain ⟨i0, hi0, hz0, hz1, hz2⟩ := info_parts info_int
  have HI := Lib.hid (And.intro hi0 (And.intro hz0 (And.intro hz1 hz2)))
  have HMK : Hid (∀ W : World, (Instr.makeSlice 22 (.int .i64 (N : Int)) (.int .i64 (N : Int))).run Tryz.prog W = .ok (.slice (some ⟨W.heap.size, 0, none⟩) N N) (W.alloc (.cells (zs (List.replicate N 0)).toArray 3))) := fun W => by
    have hr := run_make (P := Tryz.prog) W 22 3 i0 (.int .i64 0) Tryz.underlying22 hi0 hz0 .i64 .i64 (N : Int) (N : Int) (by omega) (by omega) (by rw [hz2]; omega) (by omega)
    simp only [Int.toNat_natCast] at hr
    rw [hz1, made_i64] at hr
    exact hr
  unfold gv at HVD HVL ⊢
  clear h hs h1 hi0 hz0 hz1 hz2
  go_enter Tryz.func16, Tryz.ntmps16
  go_wp2_with fail
  go_at_call 33
  refine (HVD.out _).mono ?_
  rintro e w1 ⟨rfl, hb⟩
  have KB := ((Bk.nw w 49 #[.int .i64 f, .int .i64 s, .int .i64 (N : Int), .int .i64 r, .int .i64 q]).al _).bel hb
  have KR := (Bk.nq (w.alloc (.cells #[.int .i64 f, .int .i64 s, .int .i64 (N : Int), .int .i64 r, .int .i64 q] 49)) 24 #[.int .i64 0, .int .i64 0, .slice none 0 0] (g := w.heap.size + 1) (by simp)).bel hb
  have HB1 : Hid (Bel w w1) := ((Bel.rf.al _).al _).tr hb
  have HKB := Lib.hid KB
  have HKR := Lib.hid KR
  clear hb KB KR
  go_wp2_with fail
  go_at_call 34
  refine (HRG.out _ (by first | exact HB1.out | exact HB1.out.drwN _)).mono ?_
  rintro e w2 ⟨rfl, hb⟩
  have HB2 : Hid (Bel w w2) := by first | exact HB1.out.tr hb | exact (HB1.out.drwN _).tr hb
  have KB : Bk w2 w.heap.size 49 #[.int .i64 f, .int .i64 s, .int .i64 (N : Int), .int .i64 r, .int .i64 q] := by first | exact HKB.out.bel hb | exact (HKB.out.drwN _).bel hb
  have KR : Bk w2 (w.heap.size + 1) 24 #[.int .i64 0, .int .i64 0, .slice none 0 0] := by first | exact HKR.out.bel hb | exact (HKR.out.drwN _).bel hb
  have k0 := KB.cell 0
  have k1 := KB.cell 1
  have k2 := KB.cell 2
  simp at k0 k1 k2
  have kz := KR.lt
  have k0a := fun o => kp_al k0 o
  have k0b := fun o p => kp_al (kp_al k0 o) p
  have k1a := fun o => kp_al k1 o
  have k1b := fun o p => kp_al (kp_al k1 o) p
  have k2a := fun o => kp_al k2 o
  have k2b := fun o p => kp_al (kp_al k2 o) p
  have HKB2 := Lib.hid KB
  have HKR2 := Lib.hid KR
  have hmk : ∀ W : World, (Instr.makeSlice 22 (.int .i64 (N : Int)) (.int .i64 (N : Int))).run Tryz.prog W = .ok (.slice (some ⟨W.heap.size, 0, none⟩) N N) (W.alloc (.cells (zs (List.replicate N 0)).toArray 3)) := HMK.out
  clear hb KB KR
  go_wp2
  go_region
  -- ORDERS
  · generalize hW : ((w2.alloc (.cells (zs (List.replicate N 0)).toArray 3)).alloc (.cells #[.int .i64 f, .int .i64 s, .slice (some ⟨w2.heap.size, 0, none⟩) N N] 24)).drew = W
    have HSZ : Hid (w.heap.size ≤ w2.heap.size ∧ w.heap.size + 1 < w2.heap.size) := ⟨HB2.out.size, kz⟩
    have KQ : Bk W (w2.heap.size) 3 (zs (List.replicate N 0)).toArray := by rw [← hW]; exact Bk.nw w2 _ _ |>.al _ |>.drw
    have KS : Bk W (w2.heap.size + 1) 24 #[.int .i64 f, .int .i64 s, .slice (some ⟨w2.heap.size, 0, none⟩) N N] := by rw [← hW]; exact Bk.nq _ _ _ (by simp) |>.drw
    have HBW : Hid (Bel w2 W) := by show Bel _ _; rw [← hW]; exact ((Bel.rf.al _).al _).drw
    have HR0 : Hid (∃ (k : Nat) (V : World) (M : List Int), V = W ∧ k ≤ N ∧ Value.int IntKind.i64 0 = .int .i64 (k : Int) ∧ M.length = N ∧ (∀ i, i < k → M.getD i 0 = (vals l f s r q N).getD i 0) ∧ Bk W (w2.heap.size) 3 (zs M).toArray ∧ Bk W (w2.heap.size + 1) 24 #[.int .i64 f, .int .i64 s, .slice (some ⟨w2.heap.size, 0, none⟩) N N] ∧ Bk W w.heap.size 49 #[.int .i64 f, .int .i64 s, .int .i64 (N : Int), .int .i64 r, .int .i64 q] ∧ Bk W (w.heap.size + 1) 24 #[.int .i64 0, .int .i64 0, .slice none 0 0] ∧ Bel w W) := ⟨0, _, _, rfl, by omega, rfl, by simp, fun i hi => by omega, KQ, KS, HKB2.out.bel HBW.out, HKR2.out.bel HBW.out, HB2.out.tr HBW.out⟩
    have y2 := KS.cell 2
    simp at y2
    clear hW KQ KS k0 k1 k2 k0a k0b k1a k1b k2a k2b kz hmk
    go_wp2
    go_loopw [32] (fun s32 wr => ∃ (k : Nat) (V : World) (M : List Int), V = wr ∧ k ≤ N ∧ s32 = .int .i64 (k : Int) ∧ M.length = N ∧ (∀ i, i < k → M.getD i 0 = (vals l f s r q N).getD i 0) ∧ Bk wr (w2.heap.size) 3 (zs M).toArray ∧ Bk wr (w2.heap.size + 1) 24 #[.int .i64 f, .int .i64 s, .slice (some ⟨w2.heap.size, 0, none⟩) N N] ∧ Bk wr w.heap.size 49 #[.int .i64 f, .int .i64 s, .int .i64 (N : Int), .int .i64 r, .int .i64 q] ∧ Bk wr (w.heap.size + 1) 24 #[.int .i64 0, .int .i64 0, .slice none 0 0] ∧ Bel w wr) (fun s32 _ => N - (intOf s32).toNat)
    case atStart => exact HR0.out
    case round =>
      clear HR0 y2
      obtain ⟨k, wr, M, hwr, hk, rfl, hM, hval, kq, ks, kg, kn, hb⟩ := hrel
      subst hwr
      have HQ := Lib.hid (And.intro hM (And.intro hval (And.intro kq (And.intro ks (And.intro kg (And.intro kn hb))))))
      rcases Nat.lt_or_ge k N with hlt | hge
      · have g0 := kg.cell 0
        have g1 := kg.cell 1
        have g2 := kg.cell 2
        have g3 := kg.cell 3
        have g4 := kg.cell 4
        simp at g0 g1 g2 g3 g4
        have ht := HTM.out k hlt
        obtain ⟨T, hT⟩ : ∃ T, f + (k : Int) * s = T := ⟨_, rfl⟩
        obtain ⟨P, hP⟩ : ∃ P, (k : Int) * s = P := ⟨_, rfl⟩
        rw [hP] at hT
        rw [hP] at ht
        obtain ⟨p0, p1⟩ := ht
        have wP : wrap64 P = P := IntWalk.wrap64_in _ (by omega)
        have HV2 : Hid (∀ W, Bel w W → _) := fun W hW => HVL.out (f + P) W (by omega) (by omega) hW
        have hv : (vals l f s r q N).getD k 0 = vz (val l r q (f + P)) := by rw [vals_at _ _ _ _ _ _ _ hlt, hP]
        obtain ⟨x, hx⟩ : ∃ x, (val l r q (f + P)).1 = x := ⟨_, rfl⟩
        obtain ⟨y, hy⟩ : ∃ x, (val l r q (f + P)).2 = x := ⟨_, rfl⟩
        unfold vz at hv
        rw [hx, hy] at HV2
        rw [hx, hy] at hv
        have HVE := Lib.hid hv
        have ki : (k : Int) < (N : Int) := by omega
        clear hM hval kq ks kg kn hv hx hy hT
        go_wp2_with fail
        go_at_call 35
        refine (HV2.out _ (by first | exact hb | exact hb.drwN _ | exact hb.drw)).mono ?_
        rintro e w3 ⟨rfl, hb3⟩
        have HB3 : Hid (Bel wr w3) := by first | exact hb3 | exact (Bel.rf.drwN _).tr hb3 | exact Bel.rf.drw.tr hb3
        have KS3 := HQ.out.2.2.2.1.bel HB3.out
        have KQ3 := HQ.out.2.2.1.bel HB3.out
        have z2 := KS3.cell 2
        have q2 := KQ3.cell k
        have qf := KQ3.fr k
        rw [List.getElem?_toArray, zs_at (by rw [HQ.out.1]; exact hlt)] at q2
        simp at z2
        clear hb hb3 KS3 KQ3 g0 g1 g2 g3 g4
        rcases (show y = true ∨ y = false by cases y <;> simp) with rfl | rfl
        all_goals
          go_wp2
          go_roundw
          case rel =>
            refine ⟨k + 1, _, M.set k _, rfl, by omega, by go_num, by rw [List.length_set]; exact HQ.out.1, ?_, bk_set (HQ.out.2.2.1.bel HB3.out) k _, (HQ.out.2.2.2.1.bel HB3.out).far (by simp) _, (HQ.out.2.2.2.2.1.bel HB3.out).far (by simp; have := HSZ.out; omega) _, (HQ.out.2.2.2.2.2.1.bel HB3.out).far (by simp; have := HSZ.out; omega) _, (HQ.out.2.2.2.2.2.2.tr HB3.out).st (by simp; have := HSZ.out; omega) _⟩
            intro i hi
            rw [set_at]
            by_cases h9 : i = k
            · subst h9
              rw [if_pos ⟨rfl, by rw [HQ.out.1]; exact hlt⟩, HVE.out]
              simp
            · rw [if_neg (by omega)]
              exact HQ.out.2.1 i (by omega)
          case measure => simp [intOf]; omega
      · obtain rfl : k = N := by omega
        have hMV : M = vals l f s r q k := lists_eq (by rw [hM, vals_len]) (fun i hi => hval i (by omega))
        subst hMV
        have y0 := ks.cell 0
        have y1 := ks.cell 1
        have y2 := ks.cell 2
        have n0 := kn.cell 0
        have n1 := kn.cell 1
        have n2 := kn.cell 2
        have m0 := kn.fr 0
        have m1 := kn.fr 1
        have m2 := kn.fr 2
        simp at y0 y1 y2 n0 n1 n2
        clear hval kq ks kg kn hb hM
        go_wp2
        refine bodyPost_ret (v := .tuple #[.agg #[.int .i64 f, .int .i64 s, .slice (some ⟨w2.heap.size, 0, none⟩) k k], .int .i64 0]) (results_s Tryz.results16 _ _ (w.heap.size + 1) (.int .i64 f) (.int .i64 s) (.slice (some ⟨w2.heap.size, 0, none⟩) k k) rfl (((HQ.out.2.2.2.2.2.1.st 0 _).st 1 _).st 2 _)) rfl ?_
        exact ⟨_, rfl, by have := HSZ.out; omega, ((HQ.out.2.2.1.far (by simp; have := HSZ.out; omega) _).far (by simp; have := HSZ.out; omega) _).far (by simp; have := HSZ.out; omega) _, ((HQ.out.2.2.2.2.2.2.st (by simp) _).st (by simp) _).st (by simp) _⟩
  · generalize hW : ((w2.alloc (.cells #[.int .i64 f, .int .i64 s, .slice (some ⟨w2.heap.size + 1, 0, none⟩) N N] 24)).alloc (.cells (zs (List.replicate N 0)).toArray 3)).drew = W
    have HSZ : Hid (w.heap.size ≤ w2.heap.size ∧ w.heap.size + 1 < w2.heap.size) := ⟨HB2.out.size, kz⟩
    have KQ : Bk W (w2.heap.size + 1) 3 (zs (List.replicate N 0)).toArray := by rw [← hW]; exact Bk.nq _ _ _ (by simp) |>.drw
    have KS : Bk W (w2.heap.size) 24 #[.int .i64 f, .int .i64 s, .slice (some ⟨w2.heap.size + 1, 0, none⟩) N N] := by rw [← hW]; exact Bk.nw w2 _ _ |>.al _ |>.drw
    have HBW : Hid (Bel w2 W) := by show Bel _ _; rw [← hW]; exact ((Bel.rf.al _).al _).drw
    have HR0 : Hid (∃ (k : Nat) (V : World) (M : List Int), V = W ∧ k ≤ N ∧ Value.int IntKind.i64 0 = .int .i64 (k : Int) ∧ M.length = N ∧ (∀ i, i < k → M.getD i 0 = (vals l f s r q N).getD i 0) ∧ Bk W (w2.heap.size + 1) 3 (zs M).toArray ∧ Bk W (w2.heap.size) 24 #[.int .i64 f, .int .i64 s, .slice (some ⟨w2.heap.size + 1, 0, none⟩) N N] ∧ Bk W w.heap.size 49 #[.int .i64 f, .int .i64 s, .int .i64 (N : Int), .int .i64 r, .int .i64 q] ∧ Bk W (w.heap.size + 1) 24 #[.int .i64 0, .int .i64 0, .slice none 0 0] ∧ Bel w W) := ⟨0, _, _, rfl, by omega, rfl, by simp, fun i hi => by omega, KQ, KS, HKB2.out.bel HBW.out, HKR2.out.bel HBW.out, HB2.out.tr HBW.out⟩
    have y2 := KS.cell 2
    simp at y2
    clear hW KQ KS k0 k1 k2 k0a k0b k1a k1b k2a k2b kz hmk
    go_wp2
    go_loopw [32] (fun s32 wr => ∃ (k : Nat) (V : World) (M : List Int), V = wr ∧ k ≤ N ∧ s32 = .int .i64 (k : Int) ∧ M.length = N ∧ (∀ i, i < k → M.getD i 0 = (vals l f s r q N).getD i 0) ∧ Bk wr (w2.heap.size + 1) 3 (zs M).toArray ∧ Bk wr (w2.heap.size) 24 #[.int .i64 f, .int .i64 s, .slice (some ⟨w2.heap.size + 1, 0, none⟩) N N] ∧ Bk wr w.heap.size 49 #[.int .i64 f, .int .i64 s, .int .i64 (N : Int), .int .i64 r, .int .i64 q] ∧ Bk wr (w.heap.size + 1) 24 #[.int .i64 0, .int .i64 0, .slice none 0 0] ∧ Bel w wr) (fun s32 _ => N - (intOf s32).toNat)
    case atStart => exact HR0.out
    case round =>
      clear HR0 y2
      obtain ⟨k, wr, M, hwr, hk, rfl, hM, hval, kq, ks, kg, kn, hb⟩ := hrel
      subst hwr
      have HQ := Lib.hid (And.intro hM (And.intro hval (And.intro kq (And.intro ks (And.intro kg (And.intro kn hb))))))
      rcases Nat.lt_or_ge k N with hlt | hge
      · have g0 := kg.cell 0
        have g1 := kg.cell 1
        have g2 := kg.cell 2
        have g3 := kg.cell 3
        have g4 := kg.cell 4
        simp at g0 g1 g2 g3 g4
        have ht := HTM.out k hlt
        obtain ⟨T, hT⟩ : ∃ T, f + (k : Int) * s = T := ⟨_, rfl⟩
        obtain ⟨P, hP⟩ : ∃ P, (k : Int) * s = P := ⟨_, rfl⟩
        rw [hP] at hT
        rw [hP] at ht
        obtain ⟨p0, p1⟩ := ht
        have wP : wrap64 P = P := IntWalk.wrap64_in _ (by omega)
        have HV2 : Hid (∀ W, Bel w W → _) := fun W hW => HVL.out (f + P) W (by omega) (by omega) hW
        have hv : (vals l f s r q N).getD k 0 = vz (val l r q (f + P)) := by rw [vals_at _ _ _ _ _ _ _ hlt, hP]
        obtain ⟨x, hx⟩ : ∃ x, (val l r q (f + P)).1 = x := ⟨_, rfl⟩
        obtain ⟨y, hy⟩ : ∃ x, (val l r q (f + P)).2 = x := ⟨_, rfl⟩
        unfold vz at hv
        rw [hx, hy] at HV2
        rw [hx, hy] at hv
        have HVE := Lib.hid hv
        have ki : (k : Int) < (N : Int) := by omega
        clear hM hval kq ks kg kn hv hx hy hT
        go_wp2_with fail
        go_at_call 35
        refine (HV2.out _ (by first | exact hb | exact hb.drwN _ | exact hb.drw)).mono ?_
        rintro e w3 ⟨rfl, hb3⟩
        have HB3 : Hid (Bel wr w3) := by first | exact hb3 | exact (Bel.rf.drwN _).tr hb3 | exact Bel.rf.drw.tr hb3
        have KS3 := HQ.out.2.2.2.1.bel HB3.out
        have KQ3 := HQ.out.2.2.1.bel HB3.out
        have z2 := KS3.cell 2
        have q2 := KQ3.cell k
        have qf := KQ3.fr k
        rw [List.getElem?_toArray, zs_at (by rw [HQ.out.1]; exact hlt)] at q2
        simp at z2
        clear hb hb3 KS3 KQ3 g0 g1 g2 g3 g4
        rcases (show y = true ∨ y = false by cases y <;> simp) with rfl | rfl
        all_goals
          go_wp2
          go_roundw
          case rel =>
            refine ⟨k + 1, _, M.set k _, rfl, by omega, by go_num, by rw [List.length_set]; exact HQ.out.1, ?_, bk_set (HQ.out.2.2.1.bel HB3.out) k _, (HQ.out.2.2.2.1.bel HB3.out).far (by simp) _, (HQ.out.2.2.2.2.1.bel HB3.out).far (by simp; have := HSZ.out; omega) _, (HQ.out.2.2.2.2.2.1.bel HB3.out).far (by simp; have := HSZ.out; omega) _, (HQ.out.2.2.2.2.2.2.tr HB3.out).st (by simp; have := HSZ.out; omega) _⟩
            intro i hi
            rw [set_at]
            by_cases h9 : i = k
            · subst h9
              rw [if_pos ⟨rfl, by rw [HQ.out.1]; exact hlt⟩, HVE.out]
              simp
            · rw [if_neg (by omega)]
              exact HQ.out.2.1 i (by omega)
          case measure => simp [intOf]; omega
      · obtain rfl : k = N := by omega
        have hMV : M = vals l f s r q k := lists_eq (by rw [hM, vals_len]) (fun i hi => hval i (by omega))
        subst hMV
        have y0 := ks.cell 0
        have y1 := ks.cell 1
        have y2 := ks.cell 2
        have n0 := kn.cell 0
        have n1 := kn.cell 1
        have n2 := kn.cell 2
        have m0 := kn.fr 0
        have m1 := kn.fr 1
        have m2 := kn.fr 2
        simp at y0 y1 y2 n0 n1 n2
        clear hval kq ks kg kn hb hM
        go_wp2
        refine bodyPost_ret (v := .tuple #[.agg #[.int .i64 f, .int .i64 s, .slice (some ⟨w2.heap.size + 1, 0, none⟩) k k], .int .i64 0]) (results_s Tryz.results16 _ _ (w.heap.size + 1) (.int .i64 f) (.int .i64 s) (.slice (some ⟨w2.heap.size + 1, 0, none⟩) k k) rfl (((HQ.out.2.2.2.2.2.1.st 0 _).st 1 _).st 2 _)) rfl ?_
        exact ⟨_, rfl, by have := HSZ.out; omega, ((HQ.out.2.2.1.far (by simp; have := HSZ.out; omega) _).far (by simp; have := HSZ.out; omega) _).far (by simp; have := HSZ.out; omega) _, ((HQ.out.2.2.2.2.2.2.st (by simp) _).st (by simp) _).st (by simp) _⟩
end Go.Proofs.YtnjojdmmalmhaaaGreatDoor.Rg
namespace Go.Proofs.YtnjojdmmalmhaaaGreatDoor.Wi
open Go.ChangeShapes Go.WideShapes Go.RowKit Wo Sr
set_option linter.unusedVariables false
theorem bel_grown {w a b : World} {row : Option Nat} (h : Bel w a) (hg : a.grownBy b row) (hr : ∀ q, row = some q → w.heap.size ≤ q) : Bel w b := Below.grown h hg h.size hr
theorem own_base {w : World} {base size n : Nat} {e : TypeId} {v : Value} {xs : List Value} (h : w.ownsRow base e size v n xs) : ∀ q, v.ownBlock = some q → base ≤ q := fun q e => (h.lt q e).1
theorem zs_one (M : List Int) : ∀ u ∈ zs M, u.oneCell' = true := by
  intro u hu
  obtain ⟨x, _, rfl⟩ := List.mem_map.1 hu
  rfl
theorem zi_news {w : World} {ad : Addr} {m : Nat} {M : List Int} (hz : Zi w (some ad) m M) : ∀ j u, (zs M)[j]? = some u → w.cell? (ad.add j) = some u := by
  intro j u hu
  have hj : j < M.length := by
    rcases Nat.lt_or_ge j M.length with h | h
    · exact h
    · rw [List.getElem?_eq_none (by rw [zs_len]; exact h)] at hu; cases hu
  obtain ⟨ad', e, _, hcc⟩ := hz.2 (by have := hz.1; omega)
  cases e
  rw [zs_at hj] at hu
  cases hu
  exact hcc j (by have := hz.1; omega)
theorem run_app (w : World) (ty : TypeId) (base : Nat) (v : Value) (n : Nat) (L : List Int) (hown : w.ownsRow base 3 1 v n (zs L)) (ad : Addr) (m c : Nat) (M : List Int) (hz : Zi w (some ad) m M) (hn : n + m ≤ 1000000) (hbase : base ≤ w.heap.size) :
    ∃ v' w', (Builtin.append_ #[22, 22] ty #[v, .slice (some ad) m c]).run Tryz.prog w = .ok v' w' ∧ w'.ownsRow base 3 1 v' (n + m) (zs (L ++ M)) ∧ w.grownBy w' v.ownBlock ∧ (v'.ownBlock = v.ownBlock ∨ v'.ownBlock = some w.heap.size) := by
  obtain ⟨i0, hi0, hz0, hz1, hz2⟩ := info_parts info_int
  obtain ⟨v', w', hr, h2, h3, _, h5⟩ := run_append_own_at (P := Tryz.prog) w base 22 ty 3 i0 (.int .i64 0) 1 8 Tryz.underlying22 hi0 hz0 hz1 hz2 (by rfl) (by omega) v n (zs L) hown ad m c (zs M) (by rw [zs_len, hz.1]; omega) (zi_news hz) (zs_one M) (by unfold maxLen; omega) (by omega) hbase
  exact ⟨v', w', hr, by rw [zs_app]; exact h2, h3, h5⟩
theorem wp_app (w : World) {o : Oper} {a : Act} {K : Act → World → Prop} {Q : Exit → Act → World → Prop} (s x : Operand)
    (ho : o.op = .call { callee := .builtin .append, args := #[s, x], argTypes := #[22, 22] })
    (base : Nat) (v : Value) (n : Nat) (L : List Int) (hs : a.eval s = v) (hown : w.ownsRow base 3 1 v n (zs L)) (ad : Addr) (m c : Nat) (M : List Int) (hx : a.eval x = .slice (some ad) m c) (hz : Zi w (some ad) m M) (hn : n + m ≤ 1000000) (hbase : base ≤ w.heap.size)
    (h : ∀ v' w', w'.ownsRow base 3 1 v' (n + m) (zs (L ++ M)) → w.grownBy w' v.ownBlock → (v'.ownBlock = v.ownBlock ∨ v'.ownBlock = some w.heap.size) → K (a.put o.dst v') w') : o.wp Tryz.prog a w K Q := by
  obtain ⟨v', w', hr, h2, h3, h5⟩ := run_app w o.type base v n L hown ad m c M hz hn hbase
  unfold Oper.wp execOp
  simp only [ho, resolve, invoke, builtin, Sem.run_bind, Sem.run_pure, Result.andThen_ok, List.map_toArray, List.map_cons, List.map_nil, hs, hx, hr]
  exact h v' w' h2 h3 h5
theorem step_app (w : World) {ops : Array Oper} {o : Oper} {a : Act} {K : Act → World → Prop} {Q : Exit → Act → World → Prop} {E : Prop} (hgd : o.guard = none) (s x : Operand)
    (ho : o.op = .call { callee := .builtin .append, args := #[s, x], argTypes := #[22, 22] })
    (base : Nat) (v : Value) (n : Nat) (L : List Int) (hs : a.eval s = v) (hown : w.ownsRow base 3 1 v n (zs L)) (ad : Addr) (m c : Nat) (M : List Int) (hx : a.eval x = .slice (some ad) m c) (hz : Zi w (some ad) m M) (hn : n + m ≤ 1000000) (hbase : base ≤ w.heap.size)
    (h : ∀ v' w', w'.ownsRow base 3 1 v' (n + m) (zs (L ++ M)) → w.grownBy w' v.ownBlock → (v'.ownBlock = v.ownBlock ∨ v'.ownBlock = some w.heap.size) → K (a.put o.dst v') w') :
    if Region.wanted o (yielded ops a.tmps) = true then Oper.wp Tryz.prog o a w K Q else E := by
  have hw : Region.wanted o (yielded ops a.tmps) = true := by simp [Region.wanted, hgd]
  rw [if_pos hw]
  exact wp_app w s x ho base v n L hs hown ad m c M hx hz hn hbase h
theorem list_app (w : World) {ops : Array Oper} {rest : List Oper} {o : Oper} {a : Act} {Q : Exit → Act → World → Prop} (hgd : o.guard = none) (s x : Operand)
    (ho : o.op = .call { callee := .builtin .append, args := #[s, x], argTypes := #[22, 22] })
    (base : Nat) (v : Value) (n : Nat) (L : List Int) (hs : a.eval s = v) (hown : w.ownsRow base 3 1 v n (zs L)) (ad : Addr) (m c : Nat) (M : List Int) (hx : a.eval x = .slice (some ad) m c) (hz : Zi w (some ad) m M) (hn : n + m ≤ 1000000) (hbase : base ≤ w.heap.size)
    (h : ∀ v' w', w'.ownsRow base 3 1 v' (n + m) (zs (L ++ M)) → w.grownBy w' v.ownBlock → (v'.ownBlock = v.ownBlock ∨ v'.ownBlock = some w.heap.size) → wpList Tryz.prog ops Q rest (a.put o.dst v') w') : wpList Tryz.prog ops Q (o :: rest) a w :=
  wpList_plain hgd fun _ hK => wp_app w s x ho base v n L hs hown ad m c M hx hz hn hbase fun v' w' h2 h3 h5 => hK _ _ (h v' w' h2 h3 h5)
theorem own_made {base : Nat} (W : World) (q : Nat) (hq : W.heap.size = q) (hb : base ≤ q) : (W.alloc (.cells #[] 3)).ownsRow base 3 1 (.slice (some ⟨q, 0, none⟩) 0 0) 0 (zs []) := by
  subst hq
  exact World.ownsRow_made (base := base) (e := 3) (size := 1) W #[] 0 hb (by unfold maxLen; omega) rfl
theorem zi_none {W : World} {A : Option Addr} : Zi W A 0 [] := ⟨rfl, fun h => by omega⟩
theorem zi_part {w : World} {h N : Nat} {Z : List Int} (hz : Zi w (some ⟨h, 0, none⟩) N Z) (i n : Nat) (hi : i + n ≤ N) : Zi w (some ⟨h, i, none⟩) n ((Z.drop i).take n) := by
  have hl := hz.1
  refine ⟨by simp; omega, fun hn => ?_⟩
  obtain ⟨ad, e, hx, _⟩ := hz.2 (by omega)
  cases e
  refine ⟨_, rfl, hx, fun j hj => ?_⟩
  have := hz.at (i + j) (by omega)
  rw [show (⟨h, i, none⟩ : Addr).add j = ⟨h, i + j, none⟩ by unfold Addr.add; split <;> simp_all, this]
  simp [List.getD_eq_getElem?_getD, hj]
end Go.Proofs.YtnjojdmmalmhaaaGreatDoor.Wi
namespace Go.Proofs.YtnjojdmmalmhaaaGreatDoor.Se
set_option linter.unusedVariables false
/-- what the iterator of runs yields from the place i on, with c values in a row behind it -/
def rns : List Int → Nat → Nat → List (Nat × Nat)
  | [], i, c => if 0 < c then [(i - c, c)] else []
  | v :: vs, i, c => if v = 1073741824 then (if 0 < c then (i - c, c) :: rns vs (i + 1) 0 else rns vs (i + 1) 0) else rns vs (i + 1) (c + 1)
def pres (V : List Int) (i : Nat) : Bool := decide (V.getD i 1073741824 ≠ 1073741824)
/-- a window of m values begins at i -/
def good (V : List Int) (m i : Nat) : Bool := decide (i + m ≤ V.length ∧ ∀ j, j < m → V.getD (i + j) 1073741824 ≠ 1073741824)
/-- the starts that a run gives -/
def ofRun (m : Nat) (r : Nat × Nat) : List Nat := (List.range (r.2 + 1 - m)).map (r.1 + ·)
def sts (V : List Int) (m : Nat) : List Nat := (rns V 0 0).flatMap (ofRun m)
theorem good_iff {V : List Int} {m i : Nat} : good V m i = true ↔ (i + m ≤ V.length ∧ ∀ j, j < m → V.getD (i + j) 1073741824 ≠ 1073741824) := by
  unfold good; exact decide_eq_true_iff
theorem filt {p : Nat → Bool} (a c m : Nat) (hm : 1 ≤ m) (h : ∀ s, a ≤ s → s ≤ a + c → (p s = true ↔ s + m ≤ a + c)) : (List.range' a (c + 1)).filter p = ofRun m (a, c) := by
  unfold ofRun
  have e : c + 1 = (c + 1 - m) + (c + 1 - (c + 1 - m)) := by omega
  rw [e, ← List.range'_append_1, List.filter_append]
  have h1 : (List.range' a (c + 1 - m)).filter p = List.range' a (c + 1 - m) := by
    apply List.filter_eq_self.2
    intro x hx
    rw [List.mem_range'_1] at hx
    exact (h x (by omega) (by omega)).2 (by omega)
  have h2 : (List.range' (a + (c + 1 - m)) (c + 1 - (c + 1 - m))).filter p = [] := by
    apply List.filter_eq_nil_iff.2
    intro x hx hp
    rw [List.mem_range'_1] at hx
    have := (h x (by omega) (by omega)).1 hp
    omega
  rw [h1, h2, List.append_nil]
  have e2 : (c + 1 - m) + (c + 1 - (c + 1 - m)) - m = c + 1 - m := by omega
  show _ = List.map (a + ·) (List.range (c + 1 - m + (c + 1 - (c + 1 - m)) - m))
  rw [e2, List.range'_eq_map_range]
theorem getD_out (V : List Int) (i : Nat) (h : V.length ≤ i) : V.getD i 1073741824 = 1073741824 := by
  rw [List.getD_eq_getElem?_getD, List.getElem?_eq_none h]; rfl
theorem sts_from (W : List Int) (m : Nat) (hm : 1 ≤ m) : ∀ (vs : List Int) (i c : Nat), W.drop i = vs → W.length = i + vs.length → c ≤ i → (∀ q, i - c ≤ q → q < i → W.getD q 1073741824 ≠ 1073741824) → (rns vs i c).flatMap (ofRun m) = (List.range' (i - c) (W.length + 1 - (i - c))).filter (good W m)
  | [], i, c, hd, hl, hc, hp => by
    have hl : W.length = i := by simpa using hl
    have e : W.length + 1 - (i - c) = c + 1 := by omega
    rw [e, filt (i - c) c m hm]
    · unfold rns
      split
      · simp
      · have : c = 0 := by omega
        subst this
        simp [ofRun]
        omega
    · intro s h1 h2
      rw [good_iff]
      constructor
      · intro h; omega
      · intro h; exact ⟨by omega, fun j hj => hp _ (by omega) (by omega)⟩
  | v :: vs, i, c, hd, hl, hc, hp => by
    have hl : W.length = i + 1 + vs.length := by simp at hl; omega
    have hil : i < W.length := by omega
    have hv : W.getD i 1073741824 = v := by
      rw [List.getD_eq_getElem?_getD, List.getElem?_eq_getElem hil]
      rw [List.drop_eq_getElem_cons hil] at hd
      injection hd
    have hd2 : W.drop (i + 1) = vs := by
      rw [List.drop_eq_getElem_cons hil] at hd
      injection hd
    unfold rns
    by_cases hvm : v = 1073741824
    · rw [if_pos hvm]
      have ih := sts_from W m hm vs (i + 1) 0 hd2 hl (by omega) (fun q h1 h2 => by omega)
      have e : W.length + 1 - (i - c) = (c + 1) + (W.length + 1 - (i + 1)) := by omega
      have e1 : i - c + (c + 1) = i + 1 := by omega
      have hf : (List.range' (i - c) (c + 1)).filter (good W m) = ofRun m (i - c, c) := by
        apply filt (i - c) c m hm
        intro s h1 h2
        rw [good_iff]
        constructor
        · intro h
          rcases Nat.lt_or_ge (i - c + c) (s + m) with h3 | h3
          · exfalso
            have := h.2 (i - s) (by omega)
            rw [show s + (i - s) = i by omega, hv] at this
            exact this hvm
          · omega
        · intro h; exact ⟨by omega, fun j hj => hp _ (by omega) (by omega)⟩
      rw [e, ← List.range'_append_1, List.filter_append, hf, e1]
      rw [Nat.sub_zero] at ih
      rw [← ih]
      split
      · simp
      · have : c = 0 := by omega
        subst this
        have : ofRun m (i - 0, 0) = [] := by simp [ofRun]; omega
        rw [this]; rfl
    · rw [if_neg hvm]
      have ih := sts_from W m hm vs (i + 1) (c + 1) hd2 hl (by omega) (fun q h1 h2 => by
        rcases Nat.lt_or_ge q i with h3 | h3
        · exact hp q (by omega) h3
        · rw [show q = i by omega, hv]; exact hvm)
      rw [show i + 1 - (c + 1) = i - c by omega] at ih
      exact ih
theorem sts_eq (V : List Int) (m : Nat) (hm : 1 ≤ m) : sts V m = (List.range (V.length + 1)).filter (good V m) := by
  have := sts_from V m hm V 0 0 rfl (by omega) (by omega) (fun q h1 h2 => by omega)
  rw [List.range_eq_range']
  exact this
theorem sts_mem {V : List Int} {m i : Nat} (hm : 1 ≤ m) : i ∈ sts V m ↔ good V m i = true := by
  rw [sts_eq V m hm, List.mem_filter, List.mem_range]
  constructor
  · intro h; exact h.2
  · intro h; exact ⟨by have := (good_iff.1 h).1; omega, h⟩
theorem sts_asc (V : List Int) (m : Nat) (hm : 1 ≤ m) : (sts V m).Pairwise (· < ·) := by
  rw [sts_eq V m hm]
  exact List.pairwise_lt_range.filter _
theorem sts_lt {V : List Int} {m : Nat} (hm : 1 ≤ m) {i : Nat} (hi : i + 1 < (sts V m).length) : (sts V m).getD i 0 < (sts V m).getD (i + 1) 0 := by
  have h := List.pairwise_iff_getElem.1 (sts_asc V m hm) i (i + 1) (by omega) hi (by omega)
  simp only [List.getD_eq_getElem?_getD, List.getElem?_eq_getElem (show i < (sts V m).length by omega), List.getElem?_eq_getElem hi]
  exact h
theorem good_less {V : List Int} {m i : Nat} (h : good V (m + 1) i = true) : good V m i = true := by
  rw [good_iff] at h ⊢
  exact ⟨by omega, fun j hj => h.2 j (by omega)⟩
theorem filter_len {p q : Nat → Bool} (h : ∀ x, p x = true → q x = true) : ∀ l : List Nat, (l.filter p).length ≤ (l.filter q).length
  | [] => Nat.le_refl _
  | y :: l => by
    have ih := filter_len h l
    rw [List.filter_cons, List.filter_cons]
    cases hp : p y
    · rw [if_neg (by decide)]
      split
      · rw [List.length_cons]; omega
      · exact ih
    · rw [h y hp, if_pos rfl, if_pos rfl, List.length_cons, List.length_cons]; omega
theorem sts_len (V : List Int) (m : Nat) (hm : 1 ≤ m) : (sts V (m + 1)).length ≤ (sts V m).length := by
  rw [sts_eq V m hm, sts_eq V (m + 1) (by omega)]
  exact filter_len (fun x h => good_less h) _
theorem sts_small (V : List Int) (m : Nat) (hm : 1 ≤ m) : (sts V m).length ≤ V.length + 1 := by
  rw [sts_eq V m hm]
  have := List.length_filter_le (good V m) (List.range (V.length + 1))
  simpa using this
theorem sts_in {V : List Int} {m : Nat} (hm : 1 ≤ m) (x : Nat) (hx : x ∈ sts V m) : x + m ≤ V.length := by
  rw [sts_mem hm, good_iff] at hx
  exact hx.1
/-- how many values are there -/
def cnt (V : List Int) : Nat := V.countP (fun v => decide (v ≠ 1073741824))
theorem rns_sum : ∀ (vs : List Int) (i c : Nat), ((rns vs i c).map Prod.snd).sum = c + cnt vs
  | [], i, c => by
    unfold rns cnt
    split
    · simp
    · have : c = 0 := by omega
      subst this; simp
  | v :: vs, i, c => by
    unfold rns
    by_cases hv : v = 1073741824
    · rw [if_pos hv]
      have ih := rns_sum vs (i + 1) 0
      have e : cnt (v :: vs) = cnt vs := by simp [cnt, hv]
      rw [e]
      split
      · simp [ih]
      · have : c = 0 := by omega
        subst this; simp [ih]
    · rw [if_neg hv, rns_sum vs (i + 1) (c + 1)]
      have e : cnt (v :: vs) = cnt vs + 1 := by simp [cnt, hv]
      rw [e]; omega
theorem sts_one (V : List Int) : (sts V 1).length = cnt V := by
  have := rns_sum V 0 0
  unfold sts
  rw [List.length_flatMap]
  have e : (rns V 0 0).map (fun a => (ofRun 1 a).length) = (rns V 0 0).map Prod.snd := by
    apply List.map_congr_left
    intro a _
    simp [ofRun]
  rw [e, this]; omega
theorem cnt_app (A B : List Int) : cnt (A ++ B) = cnt A + cnt B := by simp [cnt]
theorem cnt_rep (k : Nat) : cnt (List.replicate k 1073741824) = 0 := by
  unfold cnt
  rw [List.countP_replicate]
  simp
/-- runs in order: each behind the end e of the one before it, with the values there -/
def Asc (W : List Int) : Int → List (Nat × Nat) → Prop
  | _, [] => True
  | e, r :: rs => e < (r.1 : Int) ∧ 1 ≤ r.2 ∧ r.1 + r.2 ≤ W.length ∧ (∀ j, j < r.2 → W.getD (r.1 + j) 1073741824 ≠ 1073741824) ∧ Asc W ((r.1 : Int) + r.2) rs
theorem asc_from (W : List Int) : ∀ (vs : List Int) (i c : Nat) (e : Int), W.drop i = vs → W.length = i + vs.length → c ≤ i → (∀ q, i - c ≤ q → q < i → W.getD q 1073741824 ≠ 1073741824) → e < ((i - c : Nat) : Int) → Asc W e (rns vs i c)
  | [], i, c, e, hd, hl, hc, hp, he => by
    have hl : W.length = i := by simpa using hl
    unfold rns
    split
    · exact ⟨he, by omega, by show i - c + c ≤ _; omega, fun j hj => hp _ (by show i - c ≤ i - c + j; omega) (by show i - c + j < i; have : j < c := hj; omega), trivial⟩
    · trivial
  | v :: vs, i, c, e, hd, hl, hc, hp, he => by
    have hl : W.length = i + 1 + vs.length := by simp at hl; omega
    have hil : i < W.length := by omega
    have hv : W.getD i 1073741824 = v := by
      rw [List.getD_eq_getElem?_getD, List.getElem?_eq_getElem hil]
      rw [List.drop_eq_getElem_cons hil] at hd
      injection hd
    have hd2 : W.drop (i + 1) = vs := by
      rw [List.drop_eq_getElem_cons hil] at hd
      injection hd
    unfold rns
    by_cases hvm : v = 1073741824
    · rw [if_pos hvm]
      split
      · exact ⟨he, by omega, by show i - c + c ≤ _; omega, fun j hj => hp _ (by show i - c ≤ i - c + j; omega) (by show i - c + j < i; have : j < c := hj; omega), asc_from W vs (i + 1) 0 _ hd2 hl (by omega) (fun q h1 h2 => by omega) (by show ((i - c : Nat) : Int) + (c : Int) < _; omega)⟩
      · exact asc_from W vs (i + 1) 0 e hd2 hl (by omega) (fun q h1 h2 => by omega) (by omega)
    · rw [if_neg hvm]
      exact asc_from W vs (i + 1) (c + 1) e hd2 hl (by omega) (fun q h1 h2 => by
        rcases Nat.lt_or_ge q i with h3 | h3
        · exact hp q (by omega) h3
        · rw [show q = i by omega, hv]; exact hvm) (by omega)
theorem asc_all (V : List Int) : Asc V (-1) (rns V 0 0) := asc_from V V 0 0 (-1) rfl (by omega) (by omega) (fun q h1 h2 => by omega) (by omega)
/-- a window of a cut is one of the series -/
theorem good_drop {V : List Int} {m i j : Nat} (hi : i ≤ V.length) : good (V.drop i) m j = good V m (i + j) := by
  unfold good
  congr 1
  apply propext
  have e : ∀ q, (V.drop i).getD q 1073741824 = V.getD (i + q) 1073741824 := fun q => by simp [List.getD_eq_getElem?_getD]
  rw [List.length_drop]
  constructor
  · rintro ⟨h1, h2⟩
    exact ⟨by omega, fun q hq => by have := h2 q hq; rwa [e, ← Nat.add_assoc] at this⟩
  · rintro ⟨h1, h2⟩
    exact ⟨by omega, fun q hq => by rw [e, ← Nat.add_assoc]; exact h2 q hq⟩
end Go.Proofs.YtnjojdmmalmhaaaGreatDoor.Se
namespace Go.Proofs.YtnjojdmmalmhaaaGreatDoor.Se
open Go.ChangeShapes Go.WideShapes Go.RowKit Wo Sr Wi
set_option linter.unusedVariables false
/-- values: samples, or missing -/
def Sv (L : List Int) : Prop := ∀ x ∈ L, (-1000 ≤ x ∧ x ≤ 1000) ∨ x = 1073741824
theorem Sv.take {L : List Int} (h : Sv L) (n : Nat) : Sv (L.take n) := fun x hx => h x (List.mem_of_mem_take hx)
theorem Sv.drop {L : List Int} (h : Sv L) (n : Nat) : Sv (L.drop n) := fun x hx => h x (List.mem_of_mem_drop hx)
theorem Sv.app {L M : List Int} (h : Sv L) (k : Sv M) : Sv (L ++ M) := fun x hx => (List.mem_append.1 hx).elim (h x) (k x)
theorem Sv.rep (n : Nat) : Sv (List.replicate n 1073741824) := fun x hx => .inr (List.eq_of_mem_replicate hx)
theorem Sv.at {L : List Int} (h : Sv L) {i : Nat} (hi : i < L.length) : (-1000 ≤ L.getD i 0 ∧ L.getD i 0 ≤ 1000) ∨ L.getD i 0 = 1073741824 := by
  rw [List.getD_eq_getElem?_getD, List.getElem?_eq_getElem hi]
  exact h _ (List.getElem_mem hi)
theorem sample_no (w : World) : Calls Tryz.prog 68 #[.int .i64 1073741824] w fun e w' => e = .returned (.bool false) ∧ w = w' := by
  go_enter Tryz.func68, Tryz.ntmps68
  go_wp2
  go_ret
  exact ⟨rfl, rfl⟩
set_option maxHeartbeats 4000000 in
theorem values_ok (A : Option Addr) (c n : Nat) (L : List Int) (hn : n ≤ 3000) (hs : Sv L) (w : World) (h : Zi w A n L) :
    Calls Tryz.prog 42 #[.slice A n c] w fun e w' => e = .returned (.bool true) ∧ Bel w w' := by
  have H1 := Lib.hid h
  have HS := Lib.hid hs
  have ni : (n : Int) ≤ 3000 := by omega
  clear h hs
  go_enter Tryz.func42, Tryz.ntmps42
  go_wp2
  go_loopw [7] (fun s7 wr => ∃ (k : Nat) (V : World), V = wr ∧ k ≤ n ∧ s7 = .int .i64 (k : Int) ∧ Bel w wr) (fun s7 _ => n - (intOf s7).toNat)
  case atStart => exact ⟨0, _, rfl, by omega, rfl, Bel.rf⟩
  case round =>
    obtain ⟨k, wr, hwr, hk, rfl, hb⟩ := hrel
    subst hwr
    have HB := Lib.hid hb
    rcases Nat.lt_or_ge k n with hlt | hge
    · obtain ⟨ad, rfl, hab, hac⟩ := (H1.out.bel hb).2 (by omega)
      have c1 := hac k hlt
      have hx := HS.out.at (i := k) (by have := H1.out.1; omega)
      obtain ⟨x, hxe⟩ : ∃ x, L.getD k 0 = x := ⟨_, rfl⟩
      rw [hxe] at c1 hx
      have ki : (k : Int) < (n : Int) := by omega
      clear hb hac hab hxe
      rcases hx with ⟨x0, x1⟩ | rfl
      · go_wp2_with (go_at_call 68; refine (sample_ok x x0 x1 _).mono ?_; rintro e w' ⟨rfl, rfl⟩)
        go_roundw
        case rel => exact ⟨k + 1, _, rfl, by omega, by go_num, by first | exact HB.out | exact HB.out.drwN _ | exact HB.out.drw⟩
        case measure => simp [intOf]; omega
      · go_wp2_with (go_at_call 68; refine (sample_no _).mono ?_; rintro e w' ⟨rfl, rfl⟩)
        go_roundw
        case rel => exact ⟨k + 1, _, rfl, by omega, by go_num, by first | exact HB.out | exact HB.out.drwN _ | exact HB.out.drw⟩
        case measure => simp [intOf]; omega
    · obtain rfl : k = n := by omega
      clear hb
      go_wp2
      go_ret
      exact ⟨rfl, HB.out⟩
/-- a series within these bounds -/
def Sb (st sp : Int) (n : Nat) : Prop := 0 ≤ st ∧ st ≤ 1000000 ∧ 1 ≤ sp ∧ sp ≤ 20 ∧ n ≤ 2000
theorem sb_mul {sp : Int} {n : Nat} (h0 : 1 ≤ sp) (h1 : sp ≤ 20) (hn : n ≤ 3000) : 0 ≤ sp * (n : Int) ∧ sp * (n : Int) ≤ 60000 := by
  have a := Int.mul_le_mul_of_nonneg_right h1 (show (0 : Int) ≤ (n : Int) by omega)
  exact ⟨Int.mul_nonneg (by omega) (by omega), by omega⟩
theorem end_ok (st sp : Int) (A : Option Addr) (n c : Nat) (h : Sb st sp n) (w : World) :
    Calls Tryz.prog 43 #[.agg #[.int .i64 st, .int .i64 sp, .slice A n c]] w fun e w' => e = .returned (.int .i64 (st + sp * (n : Int))) ∧ Bel w w' := by
  obtain ⟨a1, a2, a3, a4, a5⟩ := h
  obtain ⟨p, hp⟩ : ∃ p, sp * (n : Int) = p := ⟨_, rfl⟩
  obtain ⟨p0, p1⟩ := sb_mul a3 a4 (show n ≤ 3000 by omega)
  rw [hp] at p0 p1 ⊢
  have wp1 : IntKind.i64.wrap p = p := IntWalk.i64_in _ (by omega)
  have wp2 : IntKind.i64.wrap (st + p) = st + p := IntWalk.i64_in _ (by omega)
  go_enter Tryz.func43, Tryz.ntmps43
  go_wp2
  go_ret
  exact ⟨rfl, Bel.rf.al _⟩
set_option maxHeartbeats 4000000 in
theorem valid_ok (st sp : Int) (A : Option Addr) (n c : Nat) (L : List Int) (h : Sb st sp n) (hs : Sv L) (w : World) (hz : Zi w A n L) :
    Calls Tryz.prog 24 #[.agg #[.int .i64 st, .int .i64 sp, .slice A n c]] w fun e w' => e = .returned (.bool true) ∧ Bel w w' := by
  have EN : Hid (∀ W, _) := fun W => end_ok st sp A n c h W
  have VL : Hid (∀ W, Zi W A n L → _) := fun W hW => values_ok A c n L (by have := h.2.2.2.2; omega) hs W hW
  have HZ := Lib.hid hz
  obtain ⟨a1, a2, a3, a4, a5⟩ := h
  obtain ⟨p0, p1⟩ := sb_mul a3 a4 (show n ≤ 3000 by omega)
  obtain ⟨p, hp⟩ : ∃ p, st + sp * (n : Int) = p := ⟨_, rfl⟩
  have pb : p ≤ 2199023255552 := by omega
  rw [hp] at EN
  have ni : (n : Int) ≤ 2000 := by omega
  have HK := Lib.hid (Bk.nw w 24 #[.int .i64 st, .int .i64 sp, .slice A n c])
  clear hs hz hp p0 p1
  go_enter Tryz.func24, Tryz.ntmps24
  go_wp2_with fail
  go_at_call 42
  refine (VL.out _ (HZ.out.bel (Bel.rf.al _))).mono ?_
  rintro e w2 ⟨rfl, hb2⟩
  have B2 := HK.out.bel hb2
  have d0 := B2.cell 0
  have d1 := B2.cell 1
  have d2 := B2.cell 2
  have dl := B2.lt
  have HB2 := Lib.hid hb2
  clear B2 hb2
  go_wp2_with fail
  go_at_call 43
  refine (EN.out _).mono ?_
  rintro e w3 ⟨rfl, hb3⟩
  have HB3 := Lib.hid hb3
  clear hb3
  go_wp2
  go_ret
  exact ⟨rfl, (Bel.rf.al _).tr (HB2.out.tr HB3.out)⟩
theorem runs_ok (A : Option Addr) (n c : Nat) (w : World) :
    Calls Tryz.prog 29 #[.slice A n c] w fun e w' => e = .returned (.func (.func 52) #[] #[.pointer (some ⟨w.heap.size, 0, none⟩)]) ∧ w' = w.alloc (.cells #[.slice A n c] 22) := by
  go_enter Tryz.func29, Tryz.ntmps29
  go_wp2
  go_ret
  exact ⟨rfl, rfl⟩
end Go.Proofs.YtnjojdmmalmhaaaGreatDoor.Se
namespace Go.Proofs.YtnjojdmmalmhaaaGreatDoor.Se
open Go.ChangeShapes Go.WideShapes Go.RowKit Wo Sr Wi
set_option linter.unusedVariables false
/-- the values of a series, as they lie -/
def Vs (w : World) (A : Option Addr) (n c : Nat) (L : List Int) : Prop := Zi w A n L ∧ n ≤ c ∧ ((A = none ∧ c = 0) ∨ ∃ h, A = some ⟨h, 0, none⟩)
theorem Vs.bel {w w' : World} {A : Option Addr} {n c : Nat} {L : List Int} (h : Vs w A n c L) (hb : Bel w w') : Vs w' A n c L := ⟨h.1.bel hb, h.2⟩
theorem Vs.far {w : World} {A : Option Addr} {n c : Nat} {L : List Int} (h : Vs w A n c L) {q : Addr} (hn : ∀ ad, A = some ad → ad.block ≠ q.block) (u : Value) : Vs (w.setCell q u) A n c L :=
  ⟨⟨h.1.1, fun h0 => by
    obtain ⟨ad, e, hx, hc⟩ := h.1.2 h0
    exact ⟨ad, e, by simpa [World.setCell] using hx, fun j hj => (World.cell?_setCell_other _ _ _ _ (fun e2 => hn ad e (by rw [← add_block ad j, ← e2]))).trans (hc j hj)⟩⟩, h.2⟩
theorem own_vs {w : World} {base n : Nat} {v : Value} {L : List Int} (h : w.ownsRow base 3 1 v n (zs L)) (hl : L.length = n) : ∃ A c, v = .slice A n c ∧ Vs w A n c L ∧ ∀ ad, A = some ad → base ≤ ad.block := by
  obtain ⟨A, c, rfl, hz, hA⟩ := row_zi h hl
  refine ⟨A, c, rfl, ⟨hz, ?_⟩, fun ad e => by subst e; exact (h.lt ad.block rfl).1⟩
  rcases h.2 with ⟨e, h0⟩ | ⟨g, cap, cur, e, _, _, hc, _⟩
  · injection e with e1 e2 e3
    subst e1 e3
    exact ⟨by omega, .inl ⟨rfl, rfl⟩⟩
  · injection e with e1 e2 e3
    subst e1 e3
    exact ⟨hc, .inr ⟨g, rfl⟩⟩
def SomeVs (k : Nat) (Z : List Int) (w : World) (e : Ending) (w' : World) : Prop := ∃ A c, e = .returned (.slice A k c) ∧ Vs w' A k c Z ∧ (∀ ad, A = some ad → w.heap.size ≤ ad.block) ∧ Bel w w'
set_option maxHeartbeats 2000000 in
theorem clone_none (w : World) : Calls Tryz.prog 37 #[.slice none 0 0] w (SomeVs 0 [] w) := by
  have en : ∀ (w : World) (a : Option Addr) (n c n' c' : Nat), (binOp .eql 22 (.slice a n c) (.slice none n' c')).run Tryz.prog w = .ok (.bool a.isNone) w := fun w a n c n' c' => Lib.run_eql_slice_nil w _ _ a n c n' c' Tryz.underlying22
  go_enter Tryz.func37, Tryz.ntmps37
  go_wp2
  go_ret
  exact ⟨none, 0, rfl, ⟨⟨rfl, fun h => by omega⟩, Nat.le_refl _, .inl ⟨rfl, rfl⟩⟩, (fun ad e => by cases e), Bel.rf⟩
set_option maxHeartbeats 2000000 in
theorem clone_some (ad : Addr) (c k : Nat) (Z : List Int) (hk : k ≤ 3000) (w : World) (hz : Zi w (some ad) k Z) :
    Calls Tryz.prog 37 #[.slice (some ad) k c] w (SomeVs k Z w) := by
  have HZ : Hid (Zi (w.alloc (.cells #[] 3)) (some ad) k Z) := hz.bel (Bel.rf.al _)
  have en : ∀ (w : World) (a : Option Addr) (n c n' c' : Nat), (binOp .eql 22 (.slice a n c) (.slice none n' c')).run Tryz.prog w = .ok (.bool a.isNone) w := fun w a n c n' c' => Lib.run_eql_slice_nil w _ _ a n c n' c' Tryz.underlying22
  have HO := Lib.hid (own_made (base := w.heap.size) w w.heap.size rfl (Nat.le_refl _))
  have HL := Lib.hid hz.1
  clear hz
  go_enter Tryz.func37, Tryz.ntmps37
  go_wp2_with (at_builtin; refine list_app _ rfl (.tmp 5) (.tmp 6) rfl w.heap.size (.slice (some ⟨w.heap.size, 0, none⟩) 0 0) 0 [] rfl HO.out ad k c Z rfl HZ.out (by omega) (by simp) ?_; intro v' w2 h2 h3 h4; rw [Nat.zero_add, List.nil_append] at h2; obtain ⟨a, k2, rfl, hk1, hk3⟩ := own_vs h2 HL.out; have hb2 : Bel w w2 := bel_grown (Bel.rf.al _) h3 (fun q e => by cases e; exact Nat.le_refl _))
  go_ret
  exact ⟨a, k2, rfl, hk1, hk3, hb2⟩
/-- a number that is looked for -/
def SomeIdx (b : Bool) (w : World) (e : Ending) (w' : World) : Prop := ∃ r : Int, e = .returned (.int .i64 r) ∧ -1 ≤ r ∧ r ≤ 3000 ∧ decide (0 ≤ r) = b ∧ Bel w w'
set_option maxHeartbeats 4000000 in
theorem index_any (A : Option Addr) (c n : Nat) (L : List Int) (x : Int) (b : Bool) (hn : n ≤ 3000) (hb : b = true ↔ ∃ j, j < n ∧ L.getD j 0 = x) (w : World) (h : Zi w A n L) :
    Calls Tryz.prog 67 #[.slice A n c, .int .i64 x] w (SomeIdx b w) := by
  have H1 := Lib.hid h
  have HI := Lib.hid hb
  have ni : (n : Int) ≤ 3000 := by omega
  clear h hb
  go_enter Tryz.func67, Tryz.ntmps67
  go_wp2
  go_loopw [8] (fun s8 wr => ∃ (k : Nat) (V : World), V = wr ∧ k ≤ n ∧ s8 = .int .i64 (k : Int) ∧ (∀ j, j < k → L.getD j 0 ≠ x) ∧ Bel w wr) (fun s8 _ => n - (intOf s8).toNat)
  case atStart => exact ⟨0, _, rfl, by omega, rfl, fun j hj => by omega, Bel.rf⟩
  case round =>
    obtain ⟨k, wr, hwr, hk, rfl, hno, hbw⟩ := hrel
    subst hwr
    have HB := Lib.hid (And.intro hbw hno)
    rcases Nat.lt_or_ge k n with hlt | hge
    · obtain ⟨ad, rfl, hab, hac⟩ := (H1.out.bel hbw).2 (by omega)
      have c1 := hac k hlt
      obtain ⟨y, hy⟩ : ∃ y, L.getD k 0 = y := ⟨_, rfl⟩
      rw [hy] at c1
      have HY := Lib.hid hy
      have ki : (k : Int) < (n : Int) := by omega
      clear hbw hac hab hy hno
      by_cases hxy : x = y
      · subst hxy
        have HBT : Hid (b = true) := HI.out.2 ⟨k, hlt, HY.out⟩
        go_wp2
        go_ret
        exact ⟨(k : Int), rfl, by omega, by omega, by rw [HBT.out]; simp, by first | exact HB.out.1 | exact HB.out.1.drwN _ | exact HB.out.1.drw⟩
      · have e1 : (x == y) = false := by simpa using hxy
        go_wp2
        go_roundw
        case rel => exact ⟨k + 1, _, rfl, by omega, by go_num, fun j hj => by
          rcases Nat.lt_or_ge j k with h | h
          · exact HB.out.2 j h
          · rw [show j = k by omega, HY.out]; exact fun e => hxy e.symm, by first | exact HB.out.1 | exact HB.out.1.drwN _ | exact HB.out.1.drw⟩
        case measure => simp [intOf]; omega
    · obtain rfl : k = n := by omega
      have HBF : Hid (b = false) := by
        show b = false
        cases hbb : b
        · rfl
        · obtain ⟨j, h1, h2⟩ := HI.out.1 hbb
          exact absurd h2 (hno j h1)
      clear hbw hno
      go_wp2
      go_ret
      exact ⟨-1, rfl, by omega, by omega, by rw [HBF.out]; decide, HB.out.1⟩
theorem contains_any (A : Option Addr) (c n : Nat) (L : List Int) (x : Int) (b : Bool) (hn : n ≤ 3000) (hb : b = true ↔ ∃ j, j < n ∧ L.getD j 0 = x) (w : World) (h : Zi w A n L) :
    Calls Tryz.prog 38 #[.slice A n c, .int .i64 x] w fun e w' => e = .returned (.bool b) ∧ Bel w w' := by
  have HX : Hid (∀ W, _) := fun W => index_any A c n L x b hn hb W
  have H1 := Lib.hid h
  clear hb h
  go_enter Tryz.func38, Tryz.ntmps38
  go_wp2_with (go_at_call 67; refine (HX.out _ H1.out).mono ?_; rintro e w2 ⟨r, rfl, r1, r2, r3, hb2⟩)
  go_ret
  exact ⟨rfl, hb2⟩
set_option maxHeartbeats 4000000 in
theorem in_any (A : Option Addr) (c n : Nat) (L : List Int) (x : Int) (b : Bool) (hn : n ≤ 3000) (hb : b = true ↔ ∃ j, j < n ∧ L.getD j 0 = x) (w : World) (h : Zi w A n L) :
    Calls Tryz.prog 19 #[.slice A n c, .int .i64 x] w fun e w' => e = .returned (.bool b) ∧ Bel w w' := by
  have H1 := Lib.hid h
  have HI := Lib.hid hb
  have ni : (n : Int) ≤ 3000 := by omega
  clear h hb
  go_enter Tryz.func19, Tryz.ntmps19
  go_wp2
  go_loopw [8] (fun s8 wr => ∃ (k : Nat) (V : World), V = wr ∧ k ≤ n ∧ s8 = .int .i64 (k : Int) ∧ (∀ j, j < k → L.getD j 0 ≠ x) ∧ Bel w wr) (fun s8 _ => n - (intOf s8).toNat)
  case atStart => exact ⟨0, _, rfl, by omega, rfl, fun j hj => by omega, Bel.rf⟩
  case round =>
    obtain ⟨k, wr, hwr, hk, rfl, hno, hbw⟩ := hrel
    subst hwr
    have HB := Lib.hid (And.intro hbw hno)
    rcases Nat.lt_or_ge k n with hlt | hge
    · obtain ⟨ad, rfl, hab, hac⟩ := (H1.out.bel hbw).2 (by omega)
      have c1 := hac k hlt
      obtain ⟨y, hy⟩ : ∃ y, L.getD k 0 = y := ⟨_, rfl⟩
      rw [hy] at c1
      have HY := Lib.hid hy
      have ki : (k : Int) < (n : Int) := by omega
      clear hbw hac hab hy hno
      by_cases hxy : y = x
      · subst hxy
        have HBT : Hid (b = true) := HI.out.2 ⟨k, hlt, HY.out⟩
        go_wp2
        go_ret
        exact ⟨ret_bool HBT.out.symm, by first | exact HB.out.1 | exact HB.out.1.drwN _ | exact HB.out.1.drw⟩
      · have e1 : (y == x) = false := by simpa using hxy
        go_wp2
        go_roundw
        case rel => exact ⟨k + 1, _, rfl, by omega, by go_num, fun j hj => by
          rcases Nat.lt_or_ge j k with h | h
          · exact HB.out.2 j h
          · rw [show j = k by omega, HY.out]; exact hxy, by first | exact HB.out.1 | exact HB.out.1.drwN _ | exact HB.out.1.drw⟩
        case measure => simp [intOf]; omega
    · obtain rfl : k = n := by omega
      have HBF : Hid (b = false) := by
        show b = false
        cases hbb : b
        · rfl
        · obtain ⟨j, h1, h2⟩ := HI.out.1 hbb
          exact absurd h2 (hno j h1)
      clear hbw hno
      go_wp2
      go_ret
      exact ⟨ret_bool HBF.out.symm, HB.out.1⟩
end Go.Proofs.YtnjojdmmalmhaaaGreatDoor.Se
namespace Go.Proofs.YtnjojdmmalmhaaaGreatDoor.Se
open Go.ChangeShapes Go.WideShapes Go.RowKit Wo Sr Wi
set_option linter.unusedVariables false
theorem results_s1 {fn : Func} {p : Tmp} (h : fn.results = #[.cell p 24]) (tmps : Array Value) (w : World) (g : Nat) (a b c : Value)
    (hp : tmps.getD p undef = .pointer (some ⟨g, 0, none⟩)) (hg : Bk w g 24 #[a, b, c]) :
    (results fn tmps).run Tryz.prog w = .ok (.agg #[a, b, c]) w := by
  have hp' : tmps[p]?.getD undef = .pointer (some ⟨g, 0, none⟩) := by simpa using hp
  have hl := run_loadVar_row (P := Tryz.prog) w g 24 24 #[a, b, c] (0, 0) _ hg Tryz.underlying24 rfl (by kernel_rfl)
  simp [results, h, hp', asAddr, hl]
theorem results_s2 {fn : Func} {p u : Tmp} (h : fn.results = #[.cell p 24, .tmp u]) (tmps : Array Value) (w : World) (g : Nat) (a b c : Value)
    (hp : tmps.getD p undef = .pointer (some ⟨g, 0, none⟩)) (hg : Bk w g 24 #[a, b, c]) :
    (results fn tmps).run Tryz.prog w = .ok (.tuple #[.agg #[a, b, c], tmps.getD u undef]) w := by
  have hp' : tmps[p]?.getD undef = .pointer (some ⟨g, 0, none⟩) := by simpa using hp
  have hl := run_loadVar_row (P := Tryz.prog) w g 24 24 #[a, b, c] (0, 0) _ hg Tryz.underlying24 rfl (by kernel_rfl)
  simp [results, h, hp', asAddr, hl]
theorem within_yes (st sp : Int) (A : Option Addr) (n c i k : Nat) (hn : n ≤ 3000) (hi : i + k ≤ n) (w : World) :
    Calls Tryz.prog 36 #[.agg #[.int .i64 st, .int .i64 sp, .slice A n c], .int .i64 (i : Int), .int .i64 (k : Int)] w fun e w' => e = .returned (.bool true) ∧ Bel w w' := by
  have h1 : (k : Int) ≤ (n : Int) := by omega
  have h2 : (i : Int) ≤ (n : Int) - (k : Int) := by omega
  have ni : (n : Int) ≤ 3000 := by omega
  have d1 : decide (k ≤ n) = true := decide_eq_true (by omega)
  have d2 : k ≤ n := by omega
  clear hi
  go_enter Tryz.func36, Tryz.ntmps36
  go_wp2
  go_ret
  exact ⟨rfl, by first | exact Bel.rf.al _ | exact (Bel.rf.al _).drw | exact (Bel.rf.al _).drwN _⟩
theorem within_no (st sp : Int) (A : Option Addr) (n c i k : Nat) (hn : n ≤ 3000) (hi : n < i + k) (hi2 : i ≤ 3000) (hk : k ≤ 3000) (w : World) :
    Calls Tryz.prog 36 #[.agg #[.int .i64 st, .int .i64 sp, .slice A n c], .int .i64 (i : Int), .int .i64 (k : Int)] w fun e w' => e = .returned (.bool false) ∧ Bel w w' := by
  have ni : (n : Int) ≤ 3000 := by omega
  have ii : (i : Int) ≤ 3000 := by omega
  have ik : (k : Int) ≤ 3000 := by omega
  rcases Nat.lt_or_ge n k with h | h
  · have d1 : decide (k ≤ n) = false := decide_eq_false (by omega)
    have d2 : ¬ k ≤ n := by omega
    go_enter Tryz.func36, Tryz.ntmps36
    go_wp2
    go_ret
    exact ⟨rfl, by first | exact Bel.rf.al _ | exact (Bel.rf.al _).drw | exact (Bel.rf.al _).drwN _⟩
  · have d1 : decide (k ≤ n) = true := decide_eq_true (by omega)
    have d2 : k ≤ n := by omega
    have h2 : ¬ (i : Int) ≤ (n : Int) - (k : Int) := by omega
    have h3 : decide ((i : Int) ≤ (n : Int) - (k : Int)) = false := decide_eq_false h2
    go_enter Tryz.func36, Tryz.ntmps36
    go_wp2
    go_ret
    exact ⟨rfl, by first | exact Bel.rf.al _ | exact (Bel.rf.al _).drw | exact (Bel.rf.al _).drwN _⟩
/-- what a window is, and its error -/
def wz (L : List Int) (i m : Nat) : List Int := if good L m i then (L.drop i).take m else []
def we (L : List Int) (i m : Nat) : Int := if good L m i then 0 else if i + m ≤ L.length then 13 else 1
def SomeWin (L : List Int) (i m : Nat) (w : World) (e : Ending) (w' : World) : Prop := ∃ (A : Option Addr) (k c : Nat), e = .returned (.tuple #[.slice A k c, .int .i64 (we L i m)]) ∧ k = (wz L i m).length ∧ Zi w' A k (wz L i m) ∧ Bel w w'
theorem zi_cut {w : World} {h i k n : Nat} {L : List Int} (hz : Zi w (some ⟨h, 0, none⟩) n L) (hi : i + k ≤ n) : Zi w (some ⟨h, i, none⟩) k ((L.drop i).take k) := zi_part hz i k hi
theorem part_len {L : List Int} {i k : Nat} (h : i + k ≤ L.length) : ((L.drop i).take k).length = k := by simp; omega
/-- slices.Clone of a part -/
theorem clone_part (A : Option Addr) (n c : Nat) (L : List Int) (hn : n ≤ 3000) (i k : Nat) (hi : i + k ≤ n) (w : World) (h : Vs w A n c L) :
    (A = none ∧ n = 0 ∧ i = 0 ∧ k = 0 ∧ c = 0 ∧ L = [] ∧ ∀ W, Bel w W → Calls Tryz.prog 37 #[.slice none 0 0] W (SomeVs k ((L.drop i).take k) W)) ∨
    (∃ g, A = some ⟨g, 0, none⟩ ∧ ((c = i ∧ k = 0 ∧ ∀ W, Bel w W → ∀ q, Calls Tryz.prog 37 #[.slice (some ⟨g, 0, none⟩) 0 q] W (SomeVs k ((L.drop i).take k) W)) ∨
      (¬ c = i ∧ ∀ W, Bel w W → ∀ q, Calls Tryz.prog 37 #[.slice (some ⟨g, i, none⟩) k q] W (SomeVs k ((L.drop i).take k) W)))) := by
  obtain ⟨hz, hc, hA⟩ := h
  have hl := hz.1
  rcases hA with ⟨rfl, rfl⟩ | ⟨g, rfl⟩
  · left
    have h0 : n = 0 := by omega
    have hL : L = [] := List.eq_nil_of_length_eq_zero (by omega)
    refine ⟨rfl, h0, by omega, by omega, rfl, hL, fun W hW => ?_⟩
    have hk : k = 0 := by omega
    subst hk hL
    have := clone_none W
    simpa using this
  · right
    refine ⟨g, rfl, ?_⟩
    rcases Classical.em (c = i) with h0 | h0
    · left
      have hk : k = 0 := by omega
      subst hk
      refine ⟨h0, rfl, fun W hW q => ?_⟩
      have := clone_some ⟨g, 0, none⟩ q 0 [] (by omega) W ⟨rfl, fun h => by omega⟩
      simpa using this
    · right
      exact ⟨h0, fun W hW q => clone_some ⟨g, i, none⟩ q k ((L.drop i).take k) (by omega) W ((zi_cut hz hi).bel hW)⟩
end Go.Proofs.YtnjojdmmalmhaaaGreatDoor.Se
namespace Go.Proofs.YtnjojdmmalmhaaaGreatDoor.Se
open Go.RowKit Go.Shelf Wo Sr Wi
set_option linter.unusedVariables false
attribute [local go_sem] Oper.semAt_some
/-- a run within bounds -/
abbrev Rn := {r : Nat × Nat // r.1 + r.2 ≤ 3000}
def rv (l : List Rn) : List (Nat × Nat) := l.map Subtype.val
theorem rv_snoc (l : List Rn) (x : Rn) : rv (l ++ [x]) = rv l ++ [x.1] := by simp [rv]
/-- a run, as it is yielded -/
def encr (r : Rn) : Array Value := #[.agg #[.int .i64 (r.1.1 : Int), .int .i64 (r.1.2 : Int)]]
/-- the blocks below n₀ are as they were, but one -/
def Kq (n₀ Bo : Nat) (W W' : World) : Prop := ∀ b, b < n₀ → b ≠ Bo → W'.heap[b]? = W.heap[b]?
theorem Kq.cell {n₀ Bo : Nat} {W W' : World} (h : Kq n₀ Bo W W') {p : Addr} {v : Value} (hc : W.cell? p = some v) (h1 : p.block < n₀) (h2 : p.block ≠ Bo) : W'.cell? p = some v := (World.cell?_of_block (h _ h1 h2)).trans hc
theorem Kq.zi {n₀ Bo : Nat} {W W' : World} (h : Kq n₀ Bo W W') {A : Option Addr} {n : Nat} {L : List Int} (hz : Zi W A n L) (hb : 0 < n → ∀ ad, A = some ad → ad.block < n₀ ∧ ad.block ≠ Bo) (hs : n₀ ≤ W'.heap.size) : Zi W' A n L :=
  ⟨hz.1, fun hn => by
    obtain ⟨ad, e, hx, hc⟩ := hz.2 hn
    have hb2 := hb hn ad e
    exact ⟨ad, e, by omega, fun j hj => h.cell (hc j hj) (by rw [add_block]; exact hb2.1) (by rw [add_block]; exact hb2.2)⟩⟩
theorem drop_at {L : List Int} {k n : Nat} (hl : L.length = n) (hk : k < n) : L.drop k = L.getD k 0 :: L.drop (k + 1) := by
  rw [List.drop_eq_getElem_cons (by omega), List.getD_eq_getElem?_getD, List.getElem?_eq_getElem (by omega)]; rfl
theorem zi_lt {w : World} {A : Option Addr} {n : Nat} {L : List Int} (h : Zi w A n L) : ∀ ad, 0 < n → A = some ad → ad.block < w.heap.size := fun ad hn e => by
  obtain ⟨ad', e', hx, _⟩ := h.2 hn
  rw [e] at e'; cases e'; exact hx
set_option maxRecDepth 100000 in
set_option maxHeartbeats 2000000 in
theorem runs1_in (d : Nat) (hd : 1 ≤ d) (n₀ Bo l Bx : Nat) (A : Option Addr) (c n : Nat) (L : List Int) (hn : n ≤ 3000) (J Jx : List Rn → World → Prop) (W : World) (hJ : AbidesFrom W.heap.size J)
    (hY : ∀ pre x W, J pre W → pre.length < n + 1 → YieldAt Fence.wide (d - 1) Tryz.prog l (encr x) W fun e W' =>
      (e = .returned (.bool true) ∧ J (pre ++ [x]) W' ∧ (Kq n₀ Bo W W' ∧ n₀ ≤ W'.heap.size)) ∨ (e = .returned (.bool false) ∧ Jx (pre ++ [x]) W'))
    (hx1 : Bx < n₀) (hx2 : Bx ≠ Bo) (hbx : W.cell? ⟨Bx, 0, none⟩ = some (.slice A n c)) (hz : Zi W A n L) (hzb : 0 < n → ∀ ad, A = some ad → ad.block < n₀ ∧ ad.block ≠ Bo) (h0 : J [] W) :
    CallsIn Fence.wide d Tryz.prog 52 #[.func (.yield l) #[] #[], .pointer (some ⟨Bx, 0, none⟩)] W fun e W' => (∃ v, e = .returned v) ∧
      ((∃ ys : List Rn, rv ys = rns L 0 0 ∧ J ys W') ∨ (∃ pre : List Rn, True ∧ Jx pre W')) := by
  have ni : (n : Int) ≤ 3000 := by omega
  have HL := Lib.hid hz.1
  have HZB := Lib.hid hzb
  refine callsIn_of_wp Tryz.func52 rfl trivial ?_ rfl
  simp only [Tryz.ntmps52, List.size_toArray, List.length_cons, List.length_nil, Nat.reduceAdd, Nat.reduceSub, Array.replicate_succ, Array.replicate_zero, List.push_toArray, List.append_toArray, List.nil_append, List.cons_append]
  gi_wp2
  gi_loopw [3, 8] (fun s3 s8 wr => ∃ (k cc : Nat) (pre : List Rn), s3 = .int .i64 (cc : Int) ∧ s8 = .int .i64 (k : Int) ∧ k ≤ n ∧ cc ≤ k ∧ pre.length ≤ k ∧ rv pre ++ rns (L.drop k) k cc = rns L 0 0 ∧ J pre wr ∧ wr.cell? ⟨Bx, 0, none⟩ = some (.slice A n c) ∧ Zi wr A n L)
    (fun s3 s8 wr => n - (intOf s8).toNat)
  case atStart => exact ⟨0, 0, [], rfl, rfl, Nat.zero_le _, Nat.le_refl _, Nat.le_refl _, rfl, h0, hbx, hz⟩
  case round =>
    clear hbx hz h0
    obtain ⟨k, cc, pre, rfl, rfl, hk, hck, hpl, hpre, hJs, cb, hzr⟩ := hrel
    rcases Nat.lt_or_ge k n with hlt | hge
    · have hdr := drop_at HL.out hlt
      obtain ⟨ad, rfl, hab, hac⟩ := hzr.2 (by omega)
      have c1 := hac k hlt
      obtain ⟨x, hx⟩ : ∃ x, L.getD k 0 = x := ⟨_, rfl⟩
      rw [hx] at c1 hdr
      have HD := Lib.hid hdr
      have HP := Lib.hid (And.intro hpre (And.intro hJs (And.intro cb hzr)))
      have ki : (k : Int) < (n : Int) := by omega
      have cki : (cc : Int) ≤ (k : Int) := by omega
      clear hdr hx hac hab hpre hJs hzr
      by_cases hm : x = 1073741824
      · subst hm
        rcases Nat.eq_zero_or_pos cc with h0 | h0
        · subst h0
          gi_wp2
          refine ⟨(fun f h => by cases h), ?_⟩
          gi_wp2
          go_roundw
          case rel => exact ⟨k + 1, 0, pre, rfl, by go_num, by omega, by omega, by omega, by
            have := HP.out.1
            rw [HD.out] at this
            rw [← this]; rfl, HP.out.2.1, HP.out.2.2.1, HP.out.2.2.2⟩
          case measure => simp [intOf]; omega
        · have c0 : (cc : Int) > 0 := by omega
          obtain ⟨q, hq⟩ : ∃ q, k - cc = q := ⟨_, rfl⟩
          have hqi : (k : Int) - (cc : Int) = (q : Int) := by omega
          obtain ⟨fn, tmps, assign, body, hy, hR⟩ := hY pre ⟨(q, cc), by show q + cc ≤ 3000; omega⟩ wr HP.out.2.1 (by omega)
          unfold encr at hy
          clear hY hJ hzb hq
          obtain ⟨H, hH⟩ : ∃ H : Bool → World → Prop, H = fun bb W' => ((bb = true ∧ J (pre ++ [⟨(q, cc), by show q + cc ≤ 3000; omega⟩]) W' ∧ (Kq n₀ Bo wr W' ∧ n₀ ≤ W'.heap.size)) ∨ (bb = false ∧ Jx (pre ++ [⟨(q, cc), by show q + cc ≤ 3000; omega⟩]) W')) := ⟨_, rfl⟩
          have hR2 := hR.mono (R' := fun e W' => ∃ bb, e = .returned (.bool bb) ∧ H bb W') (fun e W' h3 => by rw [hH]; exact h3.elim (fun h => ⟨true, h.1, .inl ⟨rfl, h.2.1, h.2.2⟩⟩) (fun h => ⟨false, h.1, .inr ⟨rfl, h.2⟩⟩))
          have HH := Lib.hid hH
          clear hR hH
          gi_wp2_with (refine hR2.mono ?_; rintro e W3 ⟨bb, rfl, hbb⟩; rw [HH.out] at hbb; rcases hbb with ⟨rfl, hJ3, hk3, hk4⟩ | ⟨rfl, hJx3⟩)
          · go_roundw
            case rel => exact ⟨k + 1, 0, pre ++ [⟨(q, cc), by show q + cc ≤ 3000; omega⟩], rfl, by go_num, by omega, by omega, by rw [List.length_append]; simp; omega, by
              have := HP.out.1
              rw [HD.out] at this
              rw [← this, rv_snoc, List.append_assoc]; congr 1; show _ = rns (_ :: _) k cc; conv => rhs; unfold rns
              rw [if_pos rfl, if_pos h0]; show _ = (k - cc, cc) :: _; rw [show k - cc = q by omega]; rfl, hJ3, hk3.cell HP.out.2.2.1 hx1 hx2, hk3.zi HP.out.2.2.2 HZB.out hk4⟩
            case measure => simp [intOf]; omega
          · refine bodyPost_ret (results_none rfl _ _ _) rfl ?_
            exact ⟨⟨_, rfl⟩, .inr ⟨_, trivial, hJx3⟩⟩
      · have hmb : (x == 1073741824) = false := by simpa using hm
        gi_wp2
        go_roundw
        case rel => exact ⟨k + 1, cc + 1, pre, by go_num, by go_num, by omega, by omega, by omega, by
            have := HP.out.1
            rw [HD.out] at this
            rw [← this]; show _ = rv pre ++ rns (x :: _) k cc; conv => rhs; unfold rns
            rw [if_neg hm], HP.out.2.1, HP.out.2.2.1, HP.out.2.2.2⟩
        case measure => simp [intOf]; omega
    · obtain rfl : k = n := by omega
      have hrl : rns (L.drop k) k cc = if 0 < cc then [(k - cc, cc)] else [] := by rw [List.drop_of_length_le (by have := HL.out; omega)]; rfl
      rw [hrl] at hpre
      have cki : (cc : Int) ≤ (k : Int) := by omega
      clear hrl hzr hzb
      rcases Nat.eq_zero_or_pos cc with h0 | h0
      · subst h0
        have hpre2 : rv pre = rns L 0 0 := by rw [← hpre]; simp
        clear hpre
        have HP2 := Lib.hid (And.intro hpre2 hJs)
        clear hpre2 hJs
        gi_wp2
        go_end0
        exact ⟨⟨_, rfl⟩, .inl ⟨pre, HP2.out⟩⟩
      · have c0 : (cc : Int) > 0 := by omega
        rw [if_pos h0] at hpre
        obtain ⟨q, hq⟩ : ∃ q, k - cc = q := ⟨_, rfl⟩
        rw [hq] at hpre
        have hqi : (k : Int) - (cc : Int) = (q : Int) := by omega
        obtain ⟨fn, tmps, assign, body, hy, hR⟩ := hY pre ⟨(q, cc), by show q + cc ≤ 3000; omega⟩ wr hJs (by omega)
        unfold encr at hy
        have HP2 := Lib.hid hpre
        clear hY hJ hq hJs hpre
        obtain ⟨H, hH⟩ : ∃ H : Bool → World → Prop, H = fun bb W' => ((bb = true ∧ J (pre ++ [⟨(q, cc), by show q + cc ≤ 3000; omega⟩]) W' ∧ (Kq n₀ Bo wr W' ∧ n₀ ≤ W'.heap.size)) ∨ (bb = false ∧ Jx (pre ++ [⟨(q, cc), by show q + cc ≤ 3000; omega⟩]) W')) := ⟨_, rfl⟩
        have hR2 := hR.mono (R' := fun e W' => ∃ bb, e = .returned (.bool bb) ∧ H bb W') (fun e W' h3 => by rw [hH]; exact h3.elim (fun h => ⟨true, h.1, .inl ⟨rfl, h.2.1, h.2.2⟩⟩) (fun h => ⟨false, h.1, .inr ⟨rfl, h.2⟩⟩))
        have HH := Lib.hid hH
        clear hR hH
        gi_wp2_with (refine hR2.mono ?_; rintro e W3 ⟨bb, rfl, hbb⟩)
        go_end0
        rw [HH.out] at hbb
        refine ⟨⟨_, rfl⟩, ?_⟩
        rcases hbb with ⟨rfl, hJ3, hk3, hk4⟩ | ⟨rfl, hJx3⟩
        · exact .inl ⟨_, by rw [rv_snoc]; exact HP2.out, hJ3⟩
        · exact .inr ⟨_, trivial, hJx3⟩
end Go.Proofs.YtnjojdmmalmhaaaGreatDoor.Se
