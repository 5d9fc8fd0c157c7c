/- reading.Parse of any text, by valid units with different names. -/
import Derived.Test.YtagodfielmdfhaaDoorRtX
namespace Go.Proofs.YtagodfielmdfhaaDoor.Rt
open Go.ChangeShapes Go.WideShapes Go.RowKit Wo Un Rg Go.MapKept Sr
open Rm (Rp tm vl)
set_option linter.unusedVariables false
/-- what Parse returns: the readings and no error, or nothing, a line and its error -/
def ParR (US : List Ut) (s : ByteArray) (w : World) (e : Ending) (w' : World) : Prop :=
  ∃ (l : List Rp) (k : Nat) (er : Int) (v : Value), run US (lns s.data.toList) 1 [] = (l, k, er) ∧ e = .returned (.tuple #[v, .int .i64 (k : Int), .int .i64 er]) ∧ w'.ownsRow w.heap.size 40 2 v l.length (rs l) ∧ Bel w w'
theorem own_base {w : World} {b1 b2 n s : Nat} {e : TypeId} {v : Value} {xs : List Value} (h : w.ownsRow b1 e s v n xs) (hb : b2 ≤ b1) : w.ownsRow b2 e s v n xs := by
  refine ⟨h.1, ?_⟩
  rcases h.2 with h' | ⟨g, c, cur, h1, h2, h3⟩
  · exact .inl h'
  · exact .inr ⟨g, c, cur, h1, Nat.le_trans hb h2, h3⟩
theorem own_st {w : World} {b1 n s : Nat} {e : TypeId} {v : Value} {xs : List Value} (h : w.ownsRow b1 e s v n xs) {p : Addr} (hp : p.block < b1) (u : Value) : (w.setCell p u).ownsRow b1 e s v n xs := by
  refine ⟨h.1, ?_⟩
  rcases h.2 with h' | ⟨g, c, cur, h1, h2, h3, h4⟩
  · exact .inl h'
  · exact .inr ⟨g, c, cur, h1, h2, (Below.heap_setCell w p u g (by omega)).trans h3, h4⟩
theorem own_bel {w w' : World} {b1 n s : Nat} {e : TypeId} {v : Value} {xs : List Value} (h : w.ownsRow b1 e s v n xs) (hb : Bel w w') : w'.ownsRow b1 e s v n xs := by
  refine ⟨h.1, ?_⟩
  rcases h.2 with h' | ⟨g, c, cur, h1, h2, h3, h4⟩
  · exact .inl h'
  · refine .inr ⟨g, c, cur, h1, h2, (Below.block hb g ?_).trans h3, h4⟩
    rcases Nat.lt_or_ge g w.heap.size with h5 | h5
    · exact h5
    · rw [Array.getElem?_eq_none h5] at h3; cases h3
theorem own_cells {w : World} {b1 n s : Nat} {e : TypeId} {v : Value} {xs : List Value} (h : w.ownsRow b1 e s v n xs) (g : Nat) (hg : v.ownBlock = some g) : ∃ cs fz, w.heap[g]? = some (.cells cs e fz) := by
  rcases h.2 with ⟨rfl, _⟩ | ⟨g', c, cur, rfl, h2, h3, _⟩
  · cases hg
  · cases hg
    exact ⟨_, _, h3⟩
theorem grown_bk {a c : World} {B n s k : Nat} {e t : TypeId} {v : Value} {xs : List Value} {cs : Array Value} (hg : a.grownBy c v.ownBlock) (ho : a.ownsRow B e s v n xs) (h : Bk a k t cs) (hk : k < B) : Bk c k t cs :=
  (hg.block k h.lt (fun e => by have := (ho.lt k e.symm).1; omega)).trans h
theorem grown_mp {a c : World} {B n s r : Nat} {e : TypeId} {v : Value} {xs : List Value} {US : List Ut} (hg : a.grownBy c v.ownBlock) (ho : a.ownsRow B e s v n xs) (h : Mp a r US) : Mp c r US :=
  (hg.block r h.lt (fun e => by
    obtain ⟨cs, fz, h1⟩ := own_cells ho r e.symm
    unfold Mp at h
    rw [h1] at h; cases h)).trans h
theorem grown_bel {w a c : World} {B n s : Nat} {e : TypeId} {v : Value} {xs : List Value} (hb : Bel w a) (hg : a.grownBy c v.ownBlock) (ho : a.ownsRow B e s v n xs) (hB : w.heap.size ≤ B) : Bel w c :=
  Below.grown hb hg hb.size (fun k hk => by have := (ho.lt k hk).1; omega)
theorem results_par (tmps : Array Value) (w : World) (b : Nat) (v : Value) (k er : Int) (h4 : tmps.getD 4 undef = .pointer (some ⟨b, 0, none⟩)) (h5 : tmps.getD 5 undef = .pointer (some ⟨b + 1, 0, none⟩)) (h6 : tmps.getD 6 undef = .pointer (some ⟨b + 1 + 1, 0, none⟩))
    (h1 : Bk w b 33 #[v]) (h2 : Bk w (b + 1) 3 #[.int .i64 k]) (h3 : Bk w (b + 2) 28 #[.int .i64 er]) :
    (results Tryd.f7 tmps).run Tryd.prog w = .ok (.tuple #[v, .int .i64 k, .int .i64 er]) w := by
  have c1 : w.cell? ⟨b, 0, none⟩ = some v := by rw [h1.cell]; rfl
  have c2 : w.cell? ⟨b + 1, 0, none⟩ = some (.int .i64 k) := by rw [h2.cell]; rfl
  have c3 : w.cell? ⟨b + 1 + 1, 0, none⟩ = some (.int .i64 er) := by rw [show b + 1 + 1 = b + 2 from rfl, h3.cell]; rfl
  have e4 : tmps[4]?.getD undef = .pointer (some ⟨b, 0, none⟩) := by simpa using h4
  have e5 : tmps[5]?.getD undef = .pointer (some ⟨b + 1, 0, none⟩) := by simpa using h5
  have e6 : tmps[6]?.getD undef = .pointer (some ⟨b + 1 + 1, 0, none⟩) := by simpa using h6
  simp [results, Tryd.results7, e4, e5, e6, go_sem, c1, c2, c3]
def szOf : Value → Nat
  | .string x => x.size
  | _ => 0
/-- the loop -/
def LoopR (US : List Ut) (s : ByteArray) (FIN : List Rp × Nat × Int) (r b : Nat) (w : World) (s0 s8 : Value) (wr : World) : Prop :=
  ∃ (x : ByteArray) (k : Nat) (acc : List Rp) (v : Value) (V : World), V = wr ∧ s0 = .string x ∧ s8 = .int .i64 (k : Int) ∧ x.size ≤ 16384 ∧ k + x.size ≤ 16385 ∧ acc.length < k ∧ acc.length ≤ 2000 ∧ run US (lns x.data.toList) k acc = FIN ∧ wr.ownsRow (b + 3) 40 2 v acc.length (rs acc) ∧
    Bk wr b 33 #[v] ∧ Bk wr (b + 1) 3 #[.int .i64 0] ∧ Bk wr (b + 2) 28 #[.int .i64 0] ∧ Mp wr r US ∧ Bel w wr ∧ b + 3 ≤ wr.heap.size
set_option maxHeartbeats 4000000 in
set_option maxRecDepth 100000 in
theorem parse_go (s : ByteArray) (hs : s.size ≤ 16384) (US : List Ut) (hU : ∀ u ∈ US, GoodU u) (hN : (US.map (·.nm)).Nodup) (n c g : Nat) (hn : US.length = n) (h16 : n ≤ 16) (w : World) (hZ : Zu w g US) (hPW : Pows w) :
    Calls Tryd.prog 7 #[.string s, .slice (some ⟨g, 0, none⟩) n c] w (ParR US s w) := by
  have hmf : ∀ (fn : Fn) (first cap : Array Value) (w : World), (Instr.makeFunc fn first cap).run Tryd.prog w = .ok (.func fn first cap) w := fun _ _ _ _ => rfl
  obtain ⟨FIN, hF⟩ : ∃ F, run US (lns s.data.toList) 1 [] = F := ⟨_, rfl⟩
  have HF := Lib.hid hF
  have HX := Lib.hid (index_any s hs US hU hN n c g hn h16)
  have HL := Lib.hid (fun (C : ByteArray) (hC : C.size ≤ 20000) (r : Nat) (W : World) (hM : Mp W r US) (hp : Pows W) => line_any C hC US hU r W hM hp)
  have HZ := Lib.hid hZ
  have HP := Lib.hid hPW
  clear hF hU hN hn hZ hPW
  go_enter_defers Tryd.func7, Tryd.ntmps7
  go_wp2_with fail
  go_at_call 17
  refine (HX.out _ (((HZ.out.bel (Bel.rf.al _)).bel (Bel.rf.al _)).bel (Bel.rf.al _))).mono ?_
  rintro e w1 ⟨r, rfl, hr, hM, hb⟩
  have hbw : Bel w w1 := (((Bel.rf.al _).al _).al _).tr hb
  have b0 : Bk w1 w.heap.size 33 #[.slice none 0 0] := Bk.bel (((Bk.nw w _ _).al _).al _) hb
  have b1 : Bk w1 (w.heap.size + 1) 3 #[.int .i64 0] := Bk.bel ((Bk.nq (w.alloc _) _ _ (by simp)).al _) hb
  have b2 : Bk w1 (w.heap.size + 1 + 1) 28 #[.int .i64 0] := Bk.bel (Bk.nq ((w.alloc _).alloc _) _ _ (by simp)) hb
  have c2 : w1.cell? ⟨w.heap.size + 1 + 1, 0, none⟩ = some (.int .i64 0) := by rw [b2.cell]; rfl
  have f2 := b2.fr 0
  have lt2 := b2.lt
  have HS : Hid (LoopR US s FIN r w.heap.size w (.string s) (.int .i64 1) (w1.setCell ⟨w.heap.size + 1 + 1, 0, none⟩ (.int .i64 0))) :=
    ⟨s, 1, [], .slice none 0 0, _, rfl, rfl, rfl, hs, by omega, by simp, by simp, HF.out, World.ownsRow_nil _ _ _ _, b0.far (by show w.heap.size ≠ w.heap.size + 1 + 1; omega) _, b1.far (by show w.heap.size + 1 ≠ w.heap.size + 1 + 1; omega) _, b2.st 0 _, (Below.heap_setCell w1 ⟨w.heap.size + 1 + 1, 0, none⟩ _ r (by show r ≠ w.heap.size + 1 + 1; simp at hr; omega)).trans hM, hbw.st (by show _ ≤ w.heap.size + 1 + 1; omega) _, by simp; omega⟩
  have HRS : Hid (w.heap.size + 3 ≤ r) := by simp at hr; exact hr
  clear hM hb hbw b0 b1 b2 hr
  go_wp2
  go_loopw [0, 8] (fun s0 s8 wr => LoopR US s FIN r w.heap.size w s0 s8 wr) (fun s0 _ _ => szOf s0)
  case atStart => exact HS.out
  case round =>
    clear HS
    obtain ⟨x, k, acc, v, wr, hwr, rfl, rfl, hx, hkx, hak, ha2, hrun, hown, b0, b1, b2, hM, hb, hsz⟩ := hrel
    subst hwr
    obtain ⟨A, cc, rfl, hZr⟩ := own_zr hown rfl
    obtain ⟨q, hq⟩ : ∃ q, acc.length = q := ⟨_, rfl⟩
    rw [hq] at hown b0 hak ha2 hZr
    have c0 : wr.cell? ⟨w.heap.size, 0, none⟩ = some (.slice A q cc) := by rw [b0.cell]; rfl
    have c1 : wr.cell? ⟨w.heap.size + 1, 0, none⟩ = some (.int .i64 0) := by rw [b1.cell]; rfl
    have c2 : wr.cell? ⟨w.heap.size + 1 + 1, 0, none⟩ = some (.int .i64 0) := by rw [show w.heap.size + 1 + 1 = w.heap.size + 2 from rfl, b2.cell]; rfl
    have f0 := b0.fr 0
    have f1 := b1.fr 0
    have f2 : wr.frozen? ⟨w.heap.size + 1 + 1, 0, none⟩ = false := b2.fr 0
    have lt0 := b0.lt
    have lt1 := b1.lt
    have lt2 : w.heap.size + 1 + 1 < wr.heap.size := b2.lt
    have HQ := Lib.hid hq
    have HO := Lib.hid hown
    have HB0 := Lib.hid b0
    have HB1 := Lib.hid b1
    have HB2 := Lib.hid b2
    have HM := Lib.hid hM
    have HB := Lib.hid hb
    have HRN := Lib.hid hrun
    clear hq hown b0 b1 b2 hM hb hrun hZr
    rcases Nat.eq_zero_or_pos x.size with h0 | h0
    · have xl : x.data.toList = [] := List.length_eq_zero_iff.1 (by rw [← Lib.size_eq]; exact h0)
      have HFIN : Hid (FIN = (acc, 0, 0)) := by
        have := HRN.out
        rw [xl, lns_nil] at this
        exact this.symm
      have e0 : x.toList = [] := by rw [Lib.toList_data]; exact xl
      have e1 : x.toList.isEmpty = true := by rw [e0]; rfl
      clear xl
      go_wp2
      refine leaves_cons (f := 16) (args := #[.pointer (some ⟨w.heap.size, 0, none⟩), .pointer (some ⟨w.heap.size + 1, 0, none⟩), .pointer (some ⟨w.heap.size + 1 + 1, 0, none⟩)]) (by simp) (by simp [go_sem]) ?_
      refine (catch_idle _ _ _ _).mono ?_
      rintro e u' w'' ⟨rfl, rfl, rfl⟩
      exact ⟨_, results_par _ _ w.heap.size (.slice A q cc) 0 0 rfl rfl rfl (((HB0.out.st 0 _).far (by show w.heap.size ≠ w.heap.size + 1; omega) _).far (by show w.heap.size ≠ w.heap.size + 1 + 1; omega) _) (((HB1.out.far (by show w.heap.size + 1 ≠ w.heap.size; omega) _).st 0 _).far (by show w.heap.size + 1 ≠ w.heap.size + 1 + 1; omega) _) (((HB2.out.far (by show w.heap.size + 2 ≠ w.heap.size; omega) _).far (by show w.heap.size + 2 ≠ w.heap.size + 1; omega) _).st 0 _),
        acc, 0, 0, .slice A q cc, HF.out.trans HFIN.out, rfl, by rw [HQ.out]; exact own_base (own_st (own_st (own_st HO.out (by show w.heap.size < w.heap.size + 3; omega) _) (by show w.heap.size + 1 < w.heap.size + 3; omega) _) (by show w.heap.size + 1 + 1 < w.heap.size + 3; omega) _) (by omega),
        ((HB.out.st (by show w.heap.size ≤ w.heap.size; omega) _).st (by show w.heap.size ≤ w.heap.size + 1; omega) _).st (by show w.heap.size ≤ w.heap.size + 1 + 1; omega) _⟩
    · have xne : x.data.toList ≠ [] := fun e => by rw [Lib.size_eq, e] at h0; simp at h0
      have e0 : x.toList.isEmpty = false := by rw [Lib.toList_data]; cases hq : x.data.toList with | nil => exact absurd hq xne | cons c l => rfl
      have e1 : (x.toList == []) = false := by rw [Lib.toList_data]; cases hq : x.data.toList with | nil => exact absurd hq xne | cons c l => rfl
      obtain ⟨bf, hcut⟩ := cutN_any x (by omega)
      have hCs := cutN_le x.data.toList
      have hDs := cutN_lt x.data.toList xne
      have hln := HRN.out
      rw [lns_ne _ xne] at hln
      obtain ⟨C, hC⟩ : ∃ C : ByteArray, (⟨(cutN x.data.toList).1.toArray⟩ : ByteArray) = C := ⟨_, rfl⟩
      obtain ⟨D, hD⟩ : ∃ D : ByteArray, (⟨(cutN x.data.toList).2.toArray⟩ : ByteArray) = D := ⟨_, rfl⟩
      rw [hC, hD] at hcut
      have hCd : C.data.toList = (cutN x.data.toList).1 := by rw [← hC]
      have hDd : D.data.toList = (cutN x.data.toList).2 := by rw [← hD]
      rw [← hCd, ← hDd] at hln
      rw [← hCd] at hCs
      rw [← hDd] at hDs
      rw [← Lib.size_eq, ← Lib.size_eq] at hCs hDs
      have HC := Lib.hid hcut
      have ksz : (k : Int) ≤ 16385 := by omega
      clear hcut hC hD hCd hDd xne HRN
      go_wp2_with fail
      go_at_call 18
      refine (HC.out _).mono ?_
      rintro e w2 ⟨rfl, hb2⟩
      have HO2 := Lib.hid (own_bel HO.out hb2)
      have HB02 := Lib.hid (HB0.out.bel hb2)
      have HB12 := Lib.hid (HB1.out.bel hb2)
      have HB22 := Lib.hid (HB2.out.bel hb2)
      have HM2 := Lib.hid (HM.out.bel hb2)
      have HBB2 := Lib.hid (HB.out.tr hb2)
      clear HO HB0 HB1 HB2 HM HB c0 c1 c2 f0 f1 f2 lt0 lt1 lt2 hb2
      have HO := HO2
      have HB0 := HB02
      have HB1 := HB12
      have HB2 := HB22
      have HM := HM2
      have HB := HBB2
      clear HO2 HB02 HB12 HB22 HM2 HBB2
      have c0 : w2.cell? ⟨w.heap.size, 0, none⟩ = some (.slice A q cc) := by rw [HB0.out.cell]; rfl
      have c1 : w2.cell? ⟨w.heap.size + 1, 0, none⟩ = some (.int .i64 0) := by rw [HB1.out.cell]; rfl
      have c2 : w2.cell? ⟨w.heap.size + 1 + 1, 0, none⟩ = some (.int .i64 0) := by rw [show w.heap.size + 1 + 1 = w.heap.size + 2 from rfl, HB2.out.cell]; rfl
      have f0 := HB0.out.fr 0
      have f1 := HB1.out.fr 0
      have f2 : w2.frozen? ⟨w.heap.size + 1 + 1, 0, none⟩ = false := HB2.out.fr 0
      have lt0 := HB0.out.lt
      have lt1 := HB1.out.lt
      have lt2 : w.heap.size + 1 + 1 < w2.heap.size := HB2.out.lt
      rcases Nat.eq_zero_or_pos C.size with g0 | g0
      · have cl : C.data.toList = [] := List.length_eq_zero_iff.1 (by rw [← Lib.size_eq]; exact g0)
        have HFN : Hid (run US (lns D.data.toList) (k + 1) acc = FIN) := by
          have := hln
          rw [run_skip US _ _ _ _ (.inl cl)] at this
          exact this
        have HS2 : Hid (LoopR US s FIN r w.heap.size w (.string D) (.int .i64 ((k + 1 : Nat) : Int)) w2) :=
          ⟨D, k + 1, acc, .slice A q cc, _, rfl, rfl, rfl, by omega, by omega, by have := HQ.out; omega, by have := HQ.out; omega, HFN.out, by rw [HQ.out]; exact HO.out, HB0.out, HB1.out, HB2.out, HM.out, HB.out, by have := HB2.out.lt; omega⟩
        have q0 : C.toList = [] := by rw [Lib.toList_data]; exact cl
        have q1 : C.toList.isEmpty = true := by rw [q0]; rfl
        clear cl hln
        go_wp2
        go_roundw
        case rel => exact HS2.out
        case measure => simp [szOf]; omega
      · obtain ⟨ch, rest, hl⟩ : ∃ c rest, C.data.toList = c :: rest := by
          rcases hq : C.data.toList with _ | ⟨c, rest⟩
          · rw [Lib.size_eq, hq] at g0; simp at g0
          · exact ⟨c, rest, rfl⟩
        have h00 : C[0] = ch := by
          have : C.data.toList[0]? = some ch := by rw [hl]; rfl
          have e2 : C.data.toList[0]? = some C[0] := by rw [Array.getElem?_toList]; exact Array.getElem?_eq_getElem _
          rw [e2] at this
          exact Option.some.inj this
        have q0 : C.toList.isEmpty = false := by rw [Lib.toList_data, hl]; rfl
        have q1 : (C.toList == []) = false := by rw [Lib.toList_data, hl]; rfl
        have q2 : (0 : Int) < (C.size : Int) := by omega
        rcases Classical.em (ch.toNat = 35) with h35 | h35
        · have c35 : ((ch.toNat : Int) == 35) = true := by simpa using (by omega : (ch.toNat : Int) = 35)
          have d35 : (ch.toNat : Int) = 35 := by omega
          have hch : ch = 35 := UInt8.toNat_inj.1 (by simpa using h35)
          have HFN : Hid (run US (lns D.data.toList) (k + 1) acc = FIN) := by
            have := hln
            rw [run_skip US _ _ _ _ (.inr (by rw [hl, hch]; rfl))] at this
            exact this
          have HS2 : Hid (LoopR US s FIN r w.heap.size w (.string D) (.int .i64 ((k + 1 : Nat) : Int)) w2) :=
            ⟨D, k + 1, acc, .slice A q cc, _, rfl, rfl, rfl, by omega, by omega, by have := HQ.out; omega, by have := HQ.out; omega, HFN.out, by rw [HQ.out]; exact HO.out, HB0.out, HB1.out, HB2.out, HM.out, HB.out, by have := HB2.out.lt; omega⟩
          clear hln hch
          go_wp2
          go_roundw
          case rel => exact HS2.out
          case measure => simp [szOf]; omega
        · have c35 : ((ch.toNat : Int) == 35) = false := by simpa using (by omega : ¬ (ch.toNat : Int) = 35)
          have d35 : ¬ (ch.toNat : Int) = 35 := by omega
          have hno : ¬ (C.data.toList = [] ∨ C.data.toList.head? = some 35) := by
            rw [hl]
            rintro (h | h)
            · cases h
            · cases h; exact h35 rfl
          obtain ⟨⟨⟨t, v⟩, er⟩, hls⟩ : ∃ p, lineS US C.data.toList = p := ⟨_, rfl⟩
          have HLC := Lib.hid (HL.out C (by omega) r w2 HM.out (HP.out.bel HB.out))
          have HLN := Lib.hid (And.intro hln (And.intro hno hls))
          clear hln hno
          go_wp2_with fail
          go_at_call 19
          refine HLC.out.mono ?_
          rintro e w3 ⟨he, hb3⟩
          rw [hls] at he
          have he2 : e = .returned (.tuple #[.agg #[.int .i64 t, .int .i64 v], .int .i64 er]) := he
          clear he
          subst he2
          clear hls HLC
          have HO3 := Lib.hid (own_bel HO.out hb3)
          have HB03 := Lib.hid (HB0.out.bel hb3)
          have HB13 := Lib.hid (HB1.out.bel hb3)
          have HB23 := Lib.hid (HB2.out.bel hb3)
          have HM3 := Lib.hid (HM.out.bel hb3)
          have HBB3 := Lib.hid (HB.out.tr hb3)
          clear HO HB0 HB1 HB2 HM HB c0 c1 c2 f0 f1 f2 lt0 lt1 lt2 hb3
          have HO := HO3
          have HB0 := HB03
          have HB1 := HB13
          have HB2 := HB23
          have HM := HM3
          have HB := HBB3
          clear HO3 HB03 HB13 HB23 HM3 HBB3
          have c0 : w3.cell? ⟨w.heap.size, 0, none⟩ = some (.slice A q cc) := by rw [HB0.out.cell]; rfl
          have c1 : w3.cell? ⟨w.heap.size + 1, 0, none⟩ = some (.int .i64 0) := by rw [HB1.out.cell]; rfl
          have c2 : w3.cell? ⟨w.heap.size + 1 + 1, 0, none⟩ = some (.int .i64 0) := by rw [show w.heap.size + 1 + 1 = w.heap.size + 2 from rfl, HB2.out.cell]; rfl
          have f0 := HB0.out.fr 0
          have f1 := HB1.out.fr 0
          have f2 : w3.frozen? ⟨w.heap.size + 1 + 1, 0, none⟩ = false := HB2.out.fr 0
          have lt0 := HB0.out.lt
          have lt1 := HB1.out.lt
          have lt2 : w.heap.size + 1 + 1 < w3.heap.size := HB2.out.lt
          rcases Classical.em (er = 0) with her | her
          · subst her
            rcases Classical.em (q = 2000) with h2 | h2
            · subst h2
              have HFIN : Hid (FIN = ([], k, 4)) := by
                have := HLN.out
                rw [run_full US _ _ _ _ this.2.1 (by rw [this.2.2]) HQ.out] at this
                exact this.1.symm
              go_wp2
              refine leaves_cons (f := 16) (args := #[.pointer (some ⟨w.heap.size, 0, none⟩), .pointer (some ⟨w.heap.size + 1, 0, none⟩), .pointer (some ⟨w.heap.size + 1 + 1, 0, none⟩)]) (by simp) (by simp [go_sem]) ?_
              refine (catch_thrown (n := (k : Int)) (er := 4) (HB0.out.al _) (HB1.out.al _) (HB2.out.al _)).mono ?_
              rintro e u' w'' ⟨rfl, rfl, k0, k1, k2, kb⟩
              exact ⟨_, results_par _ _ w.heap.size _ (k : Int) 4 rfl rfl rfl k0 k1 k2, [], k, 4, .slice none 0 0, HF.out.trans HFIN.out, rfl, World.ownsRow_nil _ _ _ _, Below.trans (HB.out.al _) kb⟩
            · have kq : ((q : Int) == 2000) = false := by simp; omega
              have kq2 : ¬ (q : Int) = 2000 := by omega
              have HFN : Hid (run US (lns D.data.toList) (k + 1) (acc ++ [(t, v)]) = FIN) := by
                have := HLN.out
                rw [run_good US _ _ _ _ this.2.1 (by rw [this.2.2]) (by rw [HQ.out]; exact h2), this.2.2] at this
                exact this.1
              have WA := Lib.hid (own_bel HO.out ((Bel.rf.al (.cells #[.int .i64 t, .int .i64 v] 40)).al (.cells #[.int .i64 t, .int .i64 v] 40)))
              have d0 : ∀ o, (w3.alloc o).cell? ⟨w.heap.size, 0, none⟩ = some (.slice A q cc) := fun o => kp_al c0 o
              clear HLN
              go_wp2_with (at_builtin; refine list_appr _ rfl (.tmp 58) (.tmp 60) rfl (w.heap.size + 3) (.slice A q cc) q acc rfl WA.out (w3.heap.size + 1) 1 (t, v) rfl (Bk.nq _ _ _ (by simp)) (by omega) (by simp; omega) ?_; intro v9 w9 h9 hg9 hat9; obtain ⟨A9, c9, rfl, hz9⟩ := own_zr h9 (by rw [List.length_append, HQ.out, List.length_singleton]); have B9 := grown_bk hg9 WA.out ((HB0.out.al _).al _) (by omega); have e9 : w9.cell? ⟨w.heap.size, 0, none⟩ = some (.slice A q cc) := (by rw [B9.cell]; rfl); have f9 := B9.fr 0; have l9 := B9.lt)
              have HS2 : Hid (LoopR US s FIN r w.heap.size w (.string D) (.int .i64 ((k + 1 : Nat) : Int)) (w9.setCell ⟨w.heap.size, 0, none⟩ (.slice A9 (q + 1) c9))) :=
                ⟨D, k + 1, acc ++ [(t, v)], .slice A9 (q + 1) c9, _, rfl, rfl, rfl, by omega, by omega, by rw [List.length_append, HQ.out, List.length_singleton]; omega, by rw [List.length_append, HQ.out, List.length_singleton]; omega, HFN.out, by rw [List.length_append, HQ.out, List.length_singleton]; exact own_st h9 (by show w.heap.size < w.heap.size + 3; omega) _, B9.st 0 _, (grown_bk hg9 WA.out ((HB1.out.al _).al _) (by omega)).far (by show w.heap.size + 1 ≠ w.heap.size; omega) _, (grown_bk hg9 WA.out ((HB2.out.al _).al _) (by omega)).far (by show w.heap.size + 2 ≠ w.heap.size; omega) _, (Below.heap_setCell w9 ⟨w.heap.size, 0, none⟩ _ r (by show r ≠ w.heap.size; have := HRS.out; omega)).trans (grown_mp hg9 WA.out ((HM.out.bel (Bel.rf.al _)).bel (Bel.rf.al _))), (grown_bel ((HB.out.al _).al _) hg9 WA.out (by omega)).st (by show _ ≤ w.heap.size; omega) _, by
                  have := hg9.size
                  simp at this ⊢
                  omega⟩
              go_wp2
              go_roundw
              case rel => exact HS2.out
              case measure => simp [szOf]; omega
          · have k1 : (er == 0) = false := by simpa using her
            have k2 : (er != 0) = true := by simpa using her
            have HFIN : Hid (FIN = ([], k, er)) := by
              have := HLN.out
              rw [run_bad US _ _ _ _ this.2.1 (by rw [this.2.2]; exact her), this.2.2] at this
              exact this.1.symm
            go_wp2
            refine leaves_cons (f := 16) (args := #[.pointer (some ⟨w.heap.size, 0, none⟩), .pointer (some ⟨w.heap.size + 1, 0, none⟩), .pointer (some ⟨w.heap.size + 1 + 1, 0, none⟩)]) (by simp) (by simp [go_sem]) ?_
            refine (catch_thrown (n := (k : Int)) (er := er) (HB0.out.al _) (HB1.out.al _) (HB2.out.al _)).mono ?_
            rintro e u' w'' ⟨rfl, rfl, k0, k1, k2, kb⟩
            exact ⟨_, results_par _ _ w.heap.size _ (k : Int) er rfl rfl rfl k0 k1 k2, [], k, er, .slice none 0 0, HF.out.trans HFIN.out, rfl, World.ownsRow_nil _ _ _ _, Below.trans (HB.out.al _) kb⟩
end Go.Proofs.YtagodfielmdfhaaDoor.Rt
