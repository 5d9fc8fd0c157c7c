/- The contract of envelope.greatest: a queue of indices whose numbers fall. -/
import Derived.Test.YtkonknkoggfeaaaEnv1
import Derived.ArgAppend
namespace Go.Proofs.Ytkonknkoggfeaaa.Ev
open Go.ChangeShapes Go.WideShapes Go.RowKit Wo Sr Wi Eu
set_option linter.unusedVariables false
/-- the slice of the queue, not in block h -/
def QA (h : Nat) (K : List Nat) (A : Option Addr) (cap : Nat) (w : World) : Prop := (A = none ∧ K = [] ∧ cap = 0) ∨ ∃ q o, A = some ⟨q, o, none⟩ ∧ q ≠ h ∧ q < w.heap.size ∧ K.length ≤ cap ∧ ∀ i, i < K.length → w.cell? ⟨q, o + i, none⟩ = some (.int .i64 ((K.getD i 0 : Nat) : Int))
theorem QA.bel {h cap : Nat} {K : List Nat} {A : Option Addr} {w w' : World} (hq : QA h K A cap w) (hb : Bel w w') : QA h K A cap w' := by
  rcases hq with h1 | ⟨q, o, rfl, h1, h2, h3, h4⟩
  · exact .inl h1
  · exact .inr ⟨q, o, rfl, h1, Nat.lt_of_lt_of_le h2 hb.size, h3, fun i hi => (Below.cell (p := ⟨q, o + i, none⟩) hb h2).trans (h4 i hi)⟩
theorem QA.st {h cap j : Nat} {K : List Nat} {A : Option Addr} {w : World} (hq : QA h K A cap w) (u : Value) : QA h K A cap (w.setCell ⟨h, j, none⟩ u) := by
  rcases hq with h1 | ⟨q, o, rfl, h1, h2, h3, h4⟩
  · exact .inl h1
  · refine .inr ⟨q, o, rfl, h1, by simpa [World.setCell] using h2, h3, fun i hi => ?_⟩
    refine (World.cell?_setCell_other _ _ _ _ (fun e => ?_)).trans (h4 i hi)
    injection e with e
    exact h1 (by omega)
theorem QA.le {h cap : Nat} {K : List Nat} {A : Option Addr} {w : World} (hq : QA h K A cap w) : K.length ≤ cap := by
  rcases hq with ⟨_, rfl, rfl⟩ | ⟨q, o, _, _, _, h3, _⟩
  · simp
  · exact h3
theorem QA.get {h cap : Nat} {K : List Nat} {A : Option Addr} {w : World} (hq : QA h K A cap w) (h0 : 0 < K.length) : ∃ q o, A = some ⟨q, o, none⟩ ∧ q ≠ h ∧ q < w.heap.size ∧ ∀ i, i < K.length → w.cell? ⟨q, o + i, none⟩ = some (.int .i64 ((K.getD i 0 : Nat) : Int)) := by
  rcases hq with ⟨_, rfl, rfl⟩ | ⟨q, o, e, h1, h2, _, h4⟩
  · simp at h0
  · exact ⟨q, o, e, h1, h2, h4⟩
theorem QA.own {h cap m : Nat} {K : List Nat} {base g : Nat} {w : World} (ho : w.ownsRow base 3 1 (.slice (some ⟨g, 0, none⟩) m cap) m (zs (iq K))) (hm : K.length = m) (hc : m ≤ cap) (hb : h < base) (hg : base ≤ g) : QA h K (some ⟨g, 0, none⟩) cap w := by
  subst hm
  have hz := own_zi ho (iq_len K)
  refine .inr ⟨g, 0, rfl, by omega, (ho.lt g rfl).2, hc, fun i hi => ?_⟩
  have := hz.at i hi
  rw [iq_at K i hi] at this
  simpa using this
theorem qa_olds {q o la : Nat} {K : List Nat} {wz W : World} (hW : Bel wz W) (hq : q < wz.heap.size) (hc : ∀ i, i < K.length → wz.cell? ⟨q, o + i, none⟩ = some (.int .i64 ((K.getD i 0 : Nat) : Int))) (hl : la ≤ K.length) :
    ∀ b, some (⟨q, o, none⟩ : Addr) = some b → ∀ j u, (zs (iq (K.take la)))[j]? = some u → W.cell? (b.add j) = some u := by
  intro b e j u hj
  cases e
  have hjl : j < la := by
    have := (List.getElem?_eq_some_iff.1 hj).1
    rw [zs_len, iq_len, List.length_take] at this
    omega
  have hj2 := zs_at (L := iq (K.take la)) (j := j) (by rw [iq_len, List.length_take]; omega)
  rw [hj] at hj2
  cases hj2
  rw [iq_at _ _ (by rw [List.length_take]; omega), Addr.add_lit]
  have e : (K.take la).getD j 0 = K.getD j 0 := by
    rw [List.getD_eq_getElem?_getD, List.getD_eq_getElem?_getD, List.getElem?_take_of_lt hjl]
  rw [e]
  exact (Below.cell (p := ⟨q, o + j, none⟩) hW hq).trans (hc j (by omega))
theorem push_done {h la nx : Nat} {K : List Nat} {wz W w' : World} {v : Value} (hW : Bel wz W) (hh : h < wz.heap.size) (hl : la ≤ K.length) (ho : w'.ownsRow W.heap.size 3 1 v (la + 1) (zs (iq (K.take la)) ++ [.int .i64 (nx : Int)])) (hg : W.grownBy w' none) :
    ∃ g cap, v = .slice (some ⟨g, 0, none⟩) (K.take la ++ [nx]).length cap ∧ QA h (K.take la ++ [nx]) (some ⟨g, 0, none⟩) cap w' ∧ Bel wz w' := by
  have e : zs (iq (K.take la)) ++ [.int .i64 (nx : Int)] = zs (iq (K.take la ++ [nx])) := by
    rw [← iq_app, zs_app]; rfl
  rw [e] at ho
  obtain ⟨g, cap, rfl, hc, hb⟩ := row_form ho (by omega)
  have hlen : (K.take la ++ [nx]).length = la + 1 := by rw [List.length_append, List.length_take]; simp; omega
  have hs := hW.size
  refine ⟨g, cap, by rw [hlen], QA.own ho hlen hc (by omega) hb, Below.grown hW hg hs (fun q e => by cases e)⟩
def lenV : Value → Nat
  | .slice _ n _ => n
  | _ => 0
/-- at place j: next is nx, the queue K, the places before j are filled in -/
def OI (L : List Int) (b : Int) (n m h : Nat) (w : World) (s8 s9 s16 : Value) (wr : World) : Prop := ∃ (j nx : Nat) (K : List Nat) (A : Option Addr) (cap : Nat) (G : List Int) (V : World) (u : Value), V = wr ∧ u = s8 ∧ u = .slice A K.length cap ∧ s9 = .int .i64 (nx : Int) ∧ s16 = .int .i64 (j : Int) ∧ j ≤ m ∧
  QA h K A cap wr ∧ Qi L b j nx K ∧ nx ≤ n ∧ (nx : Int) ≤ (j : Int) + b ∧ Bk wr h 3 (zs G).toArray ∧ G.length = m ∧ (∀ t, t < j → IsMx L b t (G.getD t 0)) ∧ Bel w wr
set_option maxHeartbeats 4000000 in
set_option maxRecDepth 100000 in
theorem greatest_ok (hx : Addr) (c n m : Nat) (L : List Int) (b : Int) (n1 : 1 ≤ n) (n2 : n ≤ 32) (m1 : 1 ≤ m) (m2 : m ≤ 32) (b0 : 0 ≤ b) (b32 : b ≤ 32) (bm : (m : Int) - (n : Int) ≤ b) (w : World) (h1 : Zi w (some hx) n L) :
    Calls Try.prog 45 #[.slice (some hx) n c, .int .i64 b, .int .i64 (m : Int)] w fun e w' => ∃ g G, e = .returned (.slice (some ⟨g, 0, none⟩) m m) ∧ w.heap.size ≤ g ∧ Bk w' g 3 (zs G).toArray ∧ G.length = m ∧ (∀ j, j < m → IsMx L b j (G.getD j 0)) ∧ Bel w w' := by
  obtain ⟨i0, hi0, hz0, hz1, hz2⟩ := info_parts info_int
  have HI := Lib.hid (And.intro hi0 (And.intro hz0 (And.intro hz1 hz2)))
  clear hi0 hz0 hz1 hz2
  have H1 := Lib.hid h1
  have HLn : Hid (L.length = n) := h1.1
  have in1 : 1 ≤ (n : Int) := by omega
  have in2 : (n : Int) ≤ 32 := by omega
  have im1 : 1 ≤ (m : Int) := by omega
  have im2 : (m : Int) ≤ 32 := by omega
  have HR0 : Hid (OI L b n m w.heap.size w (.slice none 0 0) (.int .i64 0) (.int .i64 0) (w.alloc (.cells (zs (List.replicate m 0)).toArray 3))) :=
    ⟨0, 0, [], none, 0, List.replicate m 0, _, _, rfl, rfl, rfl, rfl, rfl, by omega, .inl ⟨rfl, rfl, rfl⟩, Qi.nil L b 0, by omega, by omega, Bk.nw _ _ _, List.length_replicate, fun t ht => by omega, Bel.rf.al _⟩
  clear h1
  go_enter Try.func45, Try.ntmps45
  go_wp2_with (refine wpList_make_any _ rfl (.tmp 12) (.tmp 12) 22 rfl 3 i0 (.int .i64 0) 1 Try.underlying22 HI.out.1 HI.out.2.1 HI.out.2.2.1 .i64 .i64 _ _ m m rfl rfl rfl rfl (by omega) (by rw [HI.out.2.2.2]; omega) (by omega) ?_; rw [made_i64])
  go_loopw [8, 9, 16] (fun s8 s9 s16 wr => OI L b n m w.heap.size w s8 s9 s16 wr) (fun _ _ s16 _ => m - (intOf s16).toNat)
  case atStart => exact HR0.out
  case round =>
    clear HR0
    obtain ⟨j, nx, K, A, cap, G, wr, u8, hwr, hu, hu2, rfl, rfl, hj, hq, hK, hnx, hnj, hbk, hG, hmx, hb⟩ := hrel
    subst hwr
    subst hu
    subst hu2
    have HQ := Lib.hid hq
    have HK := Lib.hid hK
    have HBK := Lib.hid hbk
    have HMX := Lib.hid (And.intro hG hmx)
    have HB := Lib.hid hb
    clear hq hK hbk hG hmx hb
    rcases Nat.lt_or_ge j m with hjm | hjm
    · have ji : (j : Int) < (m : Int) := by omega
      have j0 : 0 ≤ (j : Int) := by omega
      have h32 : (nx : Int) ≤ 32 := by omega
      have HR1 : Hid (∃ (nx' : Nat) (K' : List Nat) (A' : Option Addr) (cap' : Nat) (V : World) (u : Value), V = wr ∧ u = (.slice A K.length cap) ∧ u = .slice A' K'.length cap' ∧ (.int .i64 (nx : Int)) = Value.int .i64 (nx' : Int) ∧ QA w.heap.size K' A' cap' wr ∧ Qi L b j nx' K' ∧ nx' ≤ n ∧ (nx' : Int) ≤ (j : Int) + b + 1 ∧ Bel wr wr) :=
        ⟨nx, K, A, cap, _, _, rfl, rfl, rfl, rfl, HQ.out, HK.out, hnx, by omega, Bel.rf⟩
      go_wp2
      go_loopw [8, 9] (fun s8 s9 wq => ∃ (nx' : Nat) (K' : List Nat) (A' : Option Addr) (cap' : Nat) (V : World) (u : Value), V = wq ∧ u = s8 ∧ u = .slice A' K'.length cap' ∧ s9 = .int .i64 (nx' : Int) ∧ QA w.heap.size K' A' cap' wq ∧ Qi L b j nx' K' ∧ nx' ≤ n ∧ (nx' : Int) ≤ (j : Int) + b + 1 ∧ Bel wr wq) (fun _ s9 _ => n - (intOf s9).toNat)
      case atStart => exact HR1.out
      case round =>
        clear HR1
        clear hnx hnj h32 HQ HK
        obtain ⟨nx', K', A', cap', wq, u8, hwq, hu, hu2, rfl, hq, hK, hnx, hnj, hb⟩ := hrel
        subst hwq
        subst hu
        subst hu2
        have HQ := Lib.hid hq
        have HK := Lib.hid hK
        have HBQ := Lib.hid hb
        have HCP := Lib.hid hq.le
        clear hq hK hb
        have h32 : (nx' : Int) ≤ 32 := by omega
        have hbw : Hid (Bel w wq) := HB.out.tr HBQ.out
        rcases Classical.em (nx' < n ∧ (nx' : Int) ≤ (j : Int) + b) with ⟨q1, q2⟩ | hno
        · have q1i : (nx' : Int) < (n : Int) := by omega
          have HR3 : Hid (∃ (last : Nat) (V : World), V = wq ∧ last ≤ K'.length ∧ (Value.int .i64 (K'.length : Int)) = .int .i64 (last : Int) ∧ (∀ t, last ≤ t → t < K'.length → L.getD (K'.getD t 0) 0 ≤ L.getD nx' 0) ∧ Bel wq wq) := ⟨K'.length, _, rfl, Nat.le_refl _, rfl, fun t h1 h2 => by omega, Bel.rf⟩
          go_wp2
          go_loopw [11] (fun s11 wz => ∃ (last : Nat) (V : World), V = wz ∧ last ≤ K'.length ∧ s11 = .int .i64 (last : Int) ∧ (∀ t, last ≤ t → t < K'.length → L.getD (K'.getD t 0) 0 ≤ L.getD nx' 0) ∧ Bel wq wz) (fun s11 _ => (intOf s11).toNat)
          case atStart => exact HR3.out
          case round =>
            clear HR3
            obtain ⟨last, wz, hwz, hlast, rfl, hall, hb⟩ := hrel
            subst hwz
            have HBZ := Lib.hid hb
            have HALL := Lib.hid hall
            have HWZ : Hid (w.heap.size < wz.heap.size) := Nat.lt_of_lt_of_le HBK.out.lt (HBQ.out.tr hb).size
            have hkl := len_le HK.out
            have last32 : (last : Int) ≤ 32 := by omega
            have c3 := (H1.out.bel (hbw.out.tr hb)).atg nx' q1
            have hy2 : ∃ y2, L.getD nx' 0 = y2 := ⟨_, rfl⟩
            obtain ⟨y2, hy2⟩ := hy2
            rw [hy2] at c3
            clear hall hb hkl
            rcases Nat.eq_zero_or_pos last with h0 | h0
            · subst h0
              have HP : Hid (0 < 0 → L.getD nx' 0 < L.getD (K'.getD (0 - 1) 0) 0) := fun h => by omega
              have hqz := HQ.out.bel HBZ.out
              have k00 : (iq (K'.take 0)) = [] := rfl
              rcases hqz with ⟨rfl, rfl, rfl⟩ | ⟨q, o, rfl, hqh, hqs, _, hqc⟩
              · go_wp2
                go_quiet (fail)
                go_wp2_with (at_builtin; refine wpList_append_grows _ (by rfl) (.tmp 56) (.tmp 58) 22 (by rfl) 3 i0 (.int .i64 0) 1 8 Try.underlying22 HI.out.1 HI.out.2.1 HI.out.2.2.1 HI.out.2.2.2 (by rfl) (by omega) (none) 0 0 (zs (iq (([] : List Nat).take 0))) (by rfl) (fun _ => ⟨rfl, rfl⟩) (by simp [zs_len, iq_len]; try omega) (fun b e => by cases e) ⟨wz.heap.size, 0, none⟩ 1 1 [.int .i64 (nx' : Int)] (by rfl) (by rfl) (World.news_of_block (cs := #[.int .i64 (nx' : Int)]) (t := 3) (fr := (0, 0)) (Bk.nq _ _ _ (by simp))) (by simp [Value.oneCell']) (by omega) (by unfold maxLen; omega) (by omega) ?_; intro v5 w5 hown5 hgrow5)
                obtain ⟨g5, cap5, rfl, hqa5, hb5⟩ := push_done (wz := wz) (K := []) (h := w.heap.size) (la := 0) (nx := nx') (by first | exact Bel.rf.al _ | exact (Bel.rf.drw).al _ | exact (Bel.rf.drwN _).al _) HWZ.out (by omega) hown5 hgrow5
                have HQ5 := Lib.hid hqa5
                have HB5 := Lib.hid hb5
                clear hown5 hgrow5 hqa5 hb5
                go_wp2
                go_roundw
                case rel => exact ⟨nx' + 1, ([] : List Nat).take 0 ++ [nx'], _, _, _, _, rfl, rfl, rfl, by go_num, HQ5.out, HK.out.push (by omega) HALL.out HP.out, by omega, by omega, (HBQ.out.tr HBZ.out).tr HB5.out⟩
                case measure => simp [intOf]; omega
              · clear hqc
                go_wp2
                go_quiet (fail)
                go_wp2_with (at_builtin; refine wpList_append_grows _ (by rfl) (.tmp 56) (.tmp 58) 22 (by rfl) 3 i0 (.int .i64 0) 1 8 Try.underlying22 HI.out.1 HI.out.2.1 HI.out.2.2.1 HI.out.2.2.2 (by rfl) (by omega) (some ⟨q, o, none⟩) 0 0 (zs (iq (K'.take 0))) (by rfl) (fun e => by cases e) (by simp [zs_len, iq_len]; try omega) (fun b e j u hj => by rw [k00] at hj; simp [zs] at hj) ⟨wz.heap.size, 0, none⟩ 1 1 [.int .i64 (nx' : Int)] (by rfl) (by rfl) (World.news_of_block (cs := #[.int .i64 (nx' : Int)]) (t := 3) (fr := (0, 0)) (Bk.nq _ _ _ (by simp))) (by simp [Value.oneCell']) (by omega) (by unfold maxLen; omega) (by omega) ?_; intro v5 w5 hown5 hgrow5)
                obtain ⟨g5, cap5, rfl, hqa5, hb5⟩ := push_done (wz := wz) (K := K') (h := w.heap.size) (la := 0) (nx := nx') (by first | exact Bel.rf.al _ | exact (Bel.rf.drw).al _ | exact (Bel.rf.drwN _).al _) HWZ.out (by omega) hown5 hgrow5
                have HQ5 := Lib.hid hqa5
                have HB5 := Lib.hid hb5
                clear hown5 hgrow5 hqa5 hb5
                go_wp2
                go_roundw
                case rel => exact ⟨nx' + 1, K'.take 0 ++ [nx'], _, _, _, _, rfl, rfl, rfl, by go_num, HQ5.out, HK.out.push (by omega) HALL.out HP.out, by omega, by omega, (HBQ.out.tr HBZ.out).tr HB5.out⟩
                case measure => simp [intOf]; omega
            · obtain ⟨l1, rfl⟩ : ∃ l, last = l + 1 := ⟨last - 1, by omega⟩
              obtain ⟨q, o, rfl, hqh, hqs, hqc⟩ := (HQ.out.bel HBZ.out).get (by omega)
              have c1 := hqc l1 (by omega)
              have hkn := iq_bd HK.out l1 (by omega)
              have c2 := (H1.out.bel (hbw.out.tr HBZ.out)).atg (K'.getD l1 0) (by omega)
              obtain ⟨k, hk⟩ : ∃ k, K'.getD l1 0 = k := ⟨_, rfl⟩
              rw [hk] at c1 c2 hkn
              obtain ⟨y1, hy1⟩ : ∃ y, L.getD k 0 = y := ⟨_, rfl⟩
              rw [hy1] at c2
              have li : ((l1 + 1 : Nat) : Int) - 1 = (l1 : Int) := by omega
              have lp : 0 < ((l1 + 1 : Nat) : Int) := by omega
              have lk : (l1 : Int) < (K'.length : Int) := by omega
              have ki : (k : Int) < (n : Int) := by omega
              obtain ⟨la, hla⟩ : ∃ la, l1 + 1 = la := ⟨_, rfl⟩
              rw [hla] at li lp hlast last32 HALL
              rw [hla]
              have lpn : 0 < la := by omega
              have dl : decide (0 < la) = true := by simpa using lpn
              rcases Int.lt_or_le y2 y1 with hlt | hle
              · have HP : Hid (0 < la → L.getD nx' 0 < L.getD (K'.getD (la - 1) 0) 0) := fun _ => by rw [← hla, Nat.add_sub_cancel, hk, hy1, hy2]; exact hlt
                have d1 : decide (y1 ≤ y2) = false := by simpa using hlt
                have d2 : ¬ y1 ≤ y2 := by omega
                have HH := Lib.hid (And.intro hy2 (And.intro hk hy1))
                have HQC := Lib.hid hqc
                have lc : la ≤ cap' := by have := HCP.out; omega
                have lci : (la : Int) ≤ (cap' : Int) := by omega
                clear hqc hk hy1 hy2 hla hlt
                go_wp2
                go_quiet (fail)
                go_wp2_with (at_builtin; refine wpList_append_grows _ (by rfl) (.tmp 56) (.tmp 58) 22 (by rfl) 3 i0 (.int .i64 0) 1 8 Try.underlying22 HI.out.1 HI.out.2.1 HI.out.2.2.1 HI.out.2.2.2 (by rfl) (by omega) (some ⟨q, o, none⟩) la la (zs (iq (K'.take la))) (by rfl) (fun e => by cases e) (by simp [zs_len, iq_len]; try omega) (qa_olds (by first | exact Bel.rf.al _ | exact (Bel.rf.drw).al _ | exact (Bel.rf.drwN _).al _) hqs HQC.out hlast) ⟨wz.heap.size, 0, none⟩ 1 1 [.int .i64 (nx' : Int)] (by rfl) (by rfl) (World.news_of_block (cs := #[.int .i64 (nx' : Int)]) (t := 3) (fr := (0, 0)) (Bk.nq _ _ _ (by simp))) (by simp [Value.oneCell']) (by omega) (by unfold maxLen; omega) (by omega) ?_; intro v5 w5 hown5 hgrow5)
                obtain ⟨g5, cap5, rfl, hqa5, hb5⟩ := push_done (wz := wz) (K := K') (h := w.heap.size) (la := la) (nx := nx') (by first | exact Bel.rf.al _ | exact (Bel.rf.drw).al _ | exact (Bel.rf.drwN _).al _) HWZ.out (by omega) hown5 hgrow5
                have HQ5 := Lib.hid hqa5
                have HB5 := Lib.hid hb5
                clear hown5 hgrow5 hqa5 hb5
                go_wp2
                go_roundw
                case rel => exact ⟨nx' + 1, K'.take la ++ [nx'], _, _, _, _, rfl, rfl, rfl, by go_num, HQ5.out, HK.out.push (by omega) HALL.out HP.out, by omega, by omega, (HBQ.out.tr HBZ.out).tr HB5.out⟩
                case measure => simp [intOf]; omega
              · have HH := Lib.hid (And.intro hy2 (And.intro hk hy1))
                have HLA : Hid (la = l1 + 1) := hla.symm
                clear hqc hk hy1 hy2 hla
                go_wp2
                go_quiet (fail)
                go_wp2
                go_roundw
                case rel =>
                  refine ⟨l1, _, rfl, by have := HLA.out; omega, rfl, fun t h1 h2 => ?_, by first | exact HBZ.out.drwN _ | exact HBZ.out.drw | exact HBZ.out⟩
                  rcases Nat.lt_or_ge t la with h3 | h3
                  · have e : t = l1 := by have := HLA.out; omega
                    rw [e, HH.out.2.1, HH.out.2.2, HH.out.1]
                    exact hle
                  · exact HALL.out t h3 h2
                case measure => have := HLA.out; simp [intOf]; omega
        · have he : nx' = n ∨ (j : Int) + b < (nx' : Int) := by omega
          have hw : ∃ i, i < nx' ∧ (j : Int) - (i : Int) ≤ b := by
            rcases he with he | he
            · rcases Nat.lt_or_ge j n with h | h
              · exact ⟨j, by omega, by omega⟩
              · exact ⟨n - 1, by omega, by omega⟩
            · exact ⟨j, by omega, by omega⟩
          have HW := Lib.hid hw
          have HE := Lib.hid he
          have HR4 : Hid (∃ (K4 : List Nat) (A4 : Option Addr) (cap4 : Nat) (V : World) (u : Value), V = wq ∧ u = (.slice A' K'.length cap') ∧ u = .slice A4 K4.length cap4 ∧ QA w.heap.size K4 A4 cap4 wq ∧ Qi L b j nx' K4 ∧ Bel wq wq) := ⟨K', A', cap', _, _, rfl, rfl, rfl, HQ.out, HK.out, Bel.rf⟩
          clear hw he
          rcases Nat.lt_or_ge nx' n with hlt | hge
          · have q1i : (nx' : Int) < (n : Int) := by omega
            have q2 : ¬ (nx' : Int) ≤ (j : Int) + b := fun h => hno ⟨hlt, h⟩
            have q3 : decide ((nx' : Int) ≤ (j : Int) + b) = false := by simpa using q2
            clear hno
            go_wp2
            go_loopw [8] (fun s8 wz => ∃ (K4 : List Nat) (A4 : Option Addr) (cap4 : Nat) (V : World) (u : Value), V = wz ∧ u = s8 ∧ u = .slice A4 K4.length cap4 ∧ QA w.heap.size K4 A4 cap4 wz ∧ Qi L b j nx' K4 ∧ Bel wq wz) (fun s8 _ => lenV s8)
            case atStart => exact HR4.out
            case round =>
              clear HR4
              obtain ⟨K4, A4, cap4, wz, u8, hwz, hu, hu2, hq4, hk4, hb4⟩ := hrel
              subst hwz
              subst hu
              subst hu2
              obtain ⟨i, hi1, hi2⟩ := HW.out
              have hlen := hk4.some hi1 hi2
              have HQ4 := Lib.hid hq4
              have HK4 := Lib.hid hk4
              have HB4 := Lib.hid hb4
              have hlc := hq4.le
              obtain ⟨q, o, rfl, hqh, hqs, hqc⟩ := hq4.get hlen
              have c1 := hqc 0 hlen
              have HQC := Lib.hid hqc
              have hkn := iq_bd hk4 0 hlen
              have c2 := (H1.out.bel (hbw.out.tr hb4)).atg (K4.getD 0 0) (by omega)
              obtain ⟨k, hk⟩ : ∃ k, K4.getD 0 0 = k := ⟨_, rfl⟩
              rw [hk] at c1 c2 hkn
              rw [Nat.add_zero] at c1
              obtain ⟨y, hy⟩ : ∃ y, L.getD k 0 = y := ⟨_, rfl⟩
              rw [hy] at c2
              have ki : (k : Int) < (n : Int) := by omega
              have ki0 : 0 ≤ (k : Int) := by omega
              have lp : (0 : Int) < (K4.length : Int) := by omega
              have hl32 := len_le hk4
              have li32 : (K4.length : Int) ≤ 32 := by omega
              have HKY := Lib.hid (And.intro hk hy)
              clear hq4 hk4 hb4 hqc hl32
              rcases Int.lt_or_le (k : Int) ((j : Int) - b) with hlt4 | hge4
              · have hpop := HK4.out.pop hlen (by rw [hk]; exact hlt4)
                have hl2 := hpop.some hi1 hi2
                rw [List.length_drop] at hl2
                have hne : ¬ K4.length = 1 := by omega
                have h1le : 1 ≤ K4.length := by omega
                have h1i : (1 : Int) ≤ (K4.length : Int) := by omega
                have HPOP := Lib.hid hpop
                clear hk hy hpop hl2 hi1 hi2
                go_wp2
                go_roundw
                case rel =>
                  refine ⟨K4.drop 1, some ⟨q, o + 1, none⟩, K4.length - 1, _, _, rfl, rfl, by rw [List.length_drop], .inr ⟨q, o + 1, rfl, hqh, hqs, by rw [List.length_drop]; exact Nat.le_refl _, fun t ht => ?_⟩, HPOP.out, HB4.out⟩
                  rw [List.length_drop] at ht
                  have := HQC.out (t + 1) (by omega)
                  rw [show o + 1 + t = o + (t + 1) by omega, this]
                  simp [List.getD_eq_getElem?_getD]
                case measure => simp [lenV]; omega
              · have d1 : decide ((k : Int) < (j : Int) - b) = false := by simpa using hge4
                have d2 : ¬ (k : Int) < (j : Int) - b := by omega
                have hbk4 := HBK.out.bel (HBQ.out.tr HB4.out)
                have e1 := bk_at hbk4 j (by rw [HMX.out.1]; exact hjm)
                have f1 : wz.frozen? ⟨w.heap.size, j, none⟩ = false := hbk4.fr j
                generalize G.getD j 0 = q0 at e1
                have HBK4 := Lib.hid hbk4
                have hmx := HK4.out.max (by rw [HLn.out]; exact hnx) hlen (by rw [hk]; exact hge4) (by omega) (by rw [HLn.out]; exact HE.out)
                rw [hk, hy] at hmx
                have HMY := Lib.hid hmx
                have hj2 : j < m := hjm
                clear hk hy hi1 hi2 hbk4 hmx
                go_wp2
                go_roundw
                case rel =>
                  refine ⟨j + 1, _, K4, some ⟨q, o, none⟩, cap4, G.set j y, _, _, rfl, rfl, rfl, rfl, by go_num, by omega, HQ4.out.st _, HK4.out.next, by omega, by omega, ?_, by rw [List.length_set]; exact HMX.out.1, fun t ht => ?_, ((HB.out.tr (HBQ.out.tr HB4.out)).st (p := ⟨w.heap.size, j, none⟩) (by show _ ≤ _; simp only []; omega) _)⟩
                  · have := HBK4.out.st j (.int .i64 y)
                    rwa [zs_set] at this
                  · rcases Nat.lt_or_ge t j with h5 | h5
                    · have e : (G.set j y).getD t 0 = G.getD t 0 := by rw [List.getD_eq_getElem?_getD, List.getElem?_set_ne (by omega), ← List.getD_eq_getElem?_getD]
                      rw [e]
                      exact HMX.out.2 t h5
                    · obtain rfl : t = j := by omega
                      have e : (G.set t y).getD t 0 = y := by rw [List.getD_eq_getElem?_getD, List.getElem?_set_self (by rw [HMX.out.1]; exact hj2)]; rfl
                      rw [e]
                      exact HMY.out
                case measure => simp [intOf]; omega
          · have q1 : ¬ nx' < n := by omega
            have q2 : ¬ (nx' : Int) < (n : Int) := by omega
            have q3 : decide (nx' < n) = false := by simpa using hge
            clear hno
            go_wp2
            go_loopw [8] (fun s8 wz => ∃ (K4 : List Nat) (A4 : Option Addr) (cap4 : Nat) (V : World) (u : Value), V = wz ∧ u = s8 ∧ u = .slice A4 K4.length cap4 ∧ QA w.heap.size K4 A4 cap4 wz ∧ Qi L b j nx' K4 ∧ Bel wq wz) (fun s8 _ => lenV s8)
            case atStart => exact HR4.out
            case round =>
              clear HR4
              obtain ⟨K4, A4, cap4, wz, u8, hwz, hu, hu2, hq4, hk4, hb4⟩ := hrel
              subst hwz
              subst hu
              subst hu2
              obtain ⟨i, hi1, hi2⟩ := HW.out
              have hlen := hk4.some hi1 hi2
              have HQ4 := Lib.hid hq4
              have HK4 := Lib.hid hk4
              have HB4 := Lib.hid hb4
              have hlc := hq4.le
              obtain ⟨q, o, rfl, hqh, hqs, hqc⟩ := hq4.get hlen
              have c1 := hqc 0 hlen
              have HQC := Lib.hid hqc
              have hkn := iq_bd hk4 0 hlen
              have c2 := (H1.out.bel (hbw.out.tr hb4)).atg (K4.getD 0 0) (by omega)
              obtain ⟨k, hk⟩ : ∃ k, K4.getD 0 0 = k := ⟨_, rfl⟩
              rw [hk] at c1 c2 hkn
              rw [Nat.add_zero] at c1
              obtain ⟨y, hy⟩ : ∃ y, L.getD k 0 = y := ⟨_, rfl⟩
              rw [hy] at c2
              have ki : (k : Int) < (n : Int) := by omega
              have ki0 : 0 ≤ (k : Int) := by omega
              have lp : (0 : Int) < (K4.length : Int) := by omega
              have hl32 := len_le hk4
              have li32 : (K4.length : Int) ≤ 32 := by omega
              have HKY := Lib.hid (And.intro hk hy)
              clear hq4 hk4 hb4 hqc hl32
              rcases Int.lt_or_le (k : Int) ((j : Int) - b) with hlt4 | hge4
              · have hpop := HK4.out.pop hlen (by rw [hk]; exact hlt4)
                have hl2 := hpop.some hi1 hi2
                rw [List.length_drop] at hl2
                have hne : ¬ K4.length = 1 := by omega
                have h1le : 1 ≤ K4.length := by omega
                have h1i : (1 : Int) ≤ (K4.length : Int) := by omega
                have HPOP := Lib.hid hpop
                clear hk hy hpop hl2 hi1 hi2
                go_wp2
                go_roundw
                case rel =>
                  refine ⟨K4.drop 1, some ⟨q, o + 1, none⟩, K4.length - 1, _, _, rfl, rfl, by rw [List.length_drop], .inr ⟨q, o + 1, rfl, hqh, hqs, by rw [List.length_drop]; exact Nat.le_refl _, fun t ht => ?_⟩, HPOP.out, HB4.out⟩
                  rw [List.length_drop] at ht
                  have := HQC.out (t + 1) (by omega)
                  rw [show o + 1 + t = o + (t + 1) by omega, this]
                  simp [List.getD_eq_getElem?_getD]
                case measure => simp [lenV]; omega
              · have d1 : decide ((k : Int) < (j : Int) - b) = false := by simpa using hge4
                have d2 : ¬ (k : Int) < (j : Int) - b := by omega
                have hbk4 := HBK.out.bel (HBQ.out.tr HB4.out)
                have e1 := bk_at hbk4 j (by rw [HMX.out.1]; exact hjm)
                have f1 : wz.frozen? ⟨w.heap.size, j, none⟩ = false := hbk4.fr j
                generalize G.getD j 0 = q0 at e1
                have HBK4 := Lib.hid hbk4
                have hmx := HK4.out.max (by rw [HLn.out]; exact hnx) hlen (by rw [hk]; exact hge4) (by omega) (by rw [HLn.out]; exact HE.out)
                rw [hk, hy] at hmx
                have HMY := Lib.hid hmx
                have hj2 : j < m := hjm
                clear hk hy hi1 hi2 hbk4 hmx
                go_wp2
                go_roundw
                case rel =>
                  refine ⟨j + 1, _, K4, some ⟨q, o, none⟩, cap4, G.set j y, _, _, rfl, rfl, rfl, rfl, by go_num, by omega, HQ4.out.st _, HK4.out.next, by omega, by omega, ?_, by rw [List.length_set]; exact HMX.out.1, fun t ht => ?_, ((HB.out.tr (HBQ.out.tr HB4.out)).st (p := ⟨w.heap.size, j, none⟩) (by show _ ≤ _; simp only []; omega) _)⟩
                  · have := HBK4.out.st j (.int .i64 y)
                    rwa [zs_set] at this
                  · rcases Nat.lt_or_ge t j with h5 | h5
                    · have e : (G.set j y).getD t 0 = G.getD t 0 := by rw [List.getD_eq_getElem?_getD, List.getElem?_set_ne (by omega), ← List.getD_eq_getElem?_getD]
                      rw [e]
                      exact HMX.out.2 t h5
                    · obtain rfl : t = j := by omega
                      have e : (G.set t y).getD t 0 = y := by rw [List.getD_eq_getElem?_getD, List.getElem?_set_self (by rw [HMX.out.1]; exact hj2)]; rfl
                      rw [e]
                      exact HMY.out
                case measure => simp [intOf]; omega
    · obtain rfl : j = m := by omega
      go_wp2
      go_ret
      exact ⟨_, _, rfl, Nat.le_refl _, HBK.out, HMX.out.1, HMX.out.2, HB.out⟩
end Go.Proofs.Ytkonknkoggfeaaa.Ev
