/- The contract of unit.Parse, given what CutPrefix returns. -/
import Derived.Test.YtgclojonjglikaaDoorUnitTake
import Derived.Laws.ResultCell
namespace Go.Proofs.YtgclojonjglikaaDoor.Un
open Go.ChangeShapes Go.WideShapes Go.RowKit Wo
set_option linter.unusedVariables false
/-- the state behind the bytes of a text -/
def rn (l : List UInt8) : Sc := l.foldl (fun S c => S.take c.toNat) ⟨0, 0, 0, false, false, false, false⟩
theorem rn_snoc (l : List UInt8) (c : UInt8) : rn (l ++ [c]) = (rn l).take c.toNat := by simp [rn, List.foldl_append]
theorem rn_ok_aux (l : List UInt8) : ∀ (S : Sc) (n : Int), S.ok n → (l.foldl (fun S c => S.take c.toNat) S).ok (n + l.length) := by
  induction l with
  | nil => intro S n h; simpa using h
  | cons c l ih =>
    intro S n h
    have := ih (S.take c.toNat) (n + 1) (take_ok h)
    rw [List.foldl_cons, List.length_cons]
    rwa [show n + 1 + (l.length : Int) = n + ((l.length + 1 : Nat) : Int) by omega] at this
theorem rn_ok (l : List UInt8) : (rn l).ok l.length := by
  have := rn_ok_aux l ⟨0, 0, 0, false, false, false, false⟩ 0 ⟨by decide, by decide, by decide, by decide, by decide, by decide⟩
  simpa [rn] using this
theorem take_snoc (s : ByteArray) (k : Nat) (h : k < s.size) : s.data.toList.take (k + 1) = s.data.toList.take k ++ [s[k]] := by
  rw [List.take_succ_eq_append_getElem (by simpa using h)]; rfl
/-- whether the text is refused -/
def rej (S : Sc) (m : Bool) : Bool := S.wrong || (S.leading || (S.whole == 0 || ((S.point && S.places == 0) || (decide (6 < S.places) || (m && !S.some)))))
/-- what Parse returns -/
def prs (S : Sc) (m : Bool) : Value :=
  if rej S m = true then .tuple #[.agg #[.int .i64 0, .int .i64 0], .int .i64 3]
  else if 1000000000 < S.digits then .tuple #[.agg #[.int .i64 0, .int .i64 0], .int .i64 1]
  else .tuple #[.agg #[.int .i64 (if m = true then -S.digits else S.digits), .int .i64 S.places], .int .i64 0]
set_option maxHeartbeats 16000000 in
set_option maxRecDepth 100000 in
theorem parse_core (s body : ByteArray) (m : Bool) (hs : body.size ≤ 4611686018427387904) (w : World)
    (hcut : ∀ w, Calls Tryd.prog 23 #[.string s, .string ⟨#[45]⟩] w fun e w' => e = .returned (.tuple #[.string body, .bool m]) ∧ w = w') :
    Calls Tryd.prog 7 #[.string s] w fun e w' => e = .returned (prs (rn body.data.toList) m) ∧ Bel w w' := by
  have HCUT := Lib.hid hcut
  clear hcut
  have si : (body.size : Int) ≤ 4611686018427387904 := by omega
  go_enter Tryd.func7, Tryd.ntmps7
  go_wp2_with fail
  go_at_call 23
  refine (HCUT.out _).mono ?_
  rintro e w1 ⟨rfl, hw1⟩
  subst hw1
  go_wp2_with fail
  have HI : Hid (∀ W : World, Bk (W.alloc (.cells (Sc.mk 0 0 0 false false false false).cells 53)) W.heap.size 53 (Sc.mk 0 0 0 false false false false).cells) := fun W => Bk.nw _ _ _
  go_loopw [15] (fun t wr => ∃ k : Nat, k ≤ body.size ∧ t = .int .i64 (k : Int) ∧ Bel w wr ∧ Bk wr (w.heap.size + 1) 53 (rn (body.data.toList.take k)).cells ∧ Bk wr w.heap.size 23 #[.int .i64 0, .int .i64 0]) (fun t _ => body.size - (intOf t).toNat)
  case atStart => exact ⟨0, by omega, rfl, (Bel.rf.al _).al _, Bk.nq (w.alloc _) _ _ (by simp), (Bk.nw _ _ _).al _⟩
  case round =>
    obtain ⟨k, hk, rfl, hb, hg, hr⟩ := hrel
    rename_i wr
    rcases Nat.lt_or_ge k body.size with hlt | hge
    · have hkl : (body.data.toList.take k).length ≤ k := List.length_take_le _ _
      have hok := rn_ok (body.data.toList.take k)
      have hok2 : (rn (body.data.toList.take k)).ok 4611686018427387904 := ⟨hok.1, hok.2.1, hok.2.2.1, by have := hok.2.2.2.1; omega, hok.2.2.2.2.1, by have := hok.2.2.2.2.2; omega⟩
      have HT : Hid (Calls Tryd.prog 24 #[.pointer (some ⟨w.heap.size + 1, 0, none⟩), .int .u8 (body[k].toNat : Int)] wr fun x w' => x = .returned (.tuple #[]) ∧ Ch1 (w.heap.size + 1) wr w' ∧ Bk w' (w.heap.size + 1) 53 ((rn (body.data.toList.take k)).take body[k].toNat).cells) :=
        take_any _ _ (UInt8.toNat_lt _) _ _ hg 4611686018427387904 (by decide) hok2
      have HE : Hid (rn (body.data.toList.take (k + 1)) = (rn (body.data.toList.take k)).take body[k].toNat) := by
        show rn _ = _
        rw [take_snoc body k hlt, rn_snoc]
      have HB := Lib.hid hb
      have HR := Lib.hid hr
      have hi : (k : Int) < (body.size : Int) := by omega
      clear hb hg hr hok hok2 hkl
      go_wp2_with fail
      go_at_call 24
      refine (HT.out).mono ?_
      rintro x w2 ⟨rfl, hc2, hg2⟩
      have HB2 : Hid (Bel w w2) := bel_ch1 HB.out hc2 (by omega)
      have HR2 : Hid (Bk w2 w.heap.size 23 #[.int .i64 0, .int .i64 0]) := (hc2.block _ HR.out.lt (fun e => by injection e with e; omega)).trans HR.out
      have HG2 := Lib.hid hg2
      clear hc2 hg2
      go_wp2_with fail
      go_roundw
      case rel => exact ⟨k + 1, by omega, by go_num, HB2.out, by rw [HE.out]; exact HG2.out, HR2.out⟩
      case measure => simp [intOf]; omega
    · obtain rfl : k = body.size := by omega
      have hall : body.data.toList.take body.size = body.data.toList := List.take_of_length_le (by simp)
      rw [hall] at hg
      have hok := rn_ok body.data.toList
      have hlen : (body.data.toList.length : Int) ≤ 4611686018427387904 := by simpa using si
      obtain ⟨o0, o1, o2, o3, o4, o5⟩ := hok
      obtain ⟨S, hS⟩ : ∃ S, rn body.data.toList = S := ⟨_, rfl⟩
      rw [hS] at hg o0 o1 o2 o3 o4 o5
      have HSS := Lib.hid hS
      clear hS
      have l0 : wr.cell? ⟨w.heap.size, 0, none⟩ = some (.int .i64 0) := hr.cell 0
      have l1 : wr.cell? ⟨w.heap.size, 1, none⟩ = some (.int .i64 0) := hr.cell 1
      have j0 : wr.frozen? ⟨w.heap.size, 0, none⟩ = false := hr.fr 0
      have j1 : wr.frozen? ⟨w.heap.size, 1, none⟩ = false := hr.fr 1
      obtain ⟨a, b, c, p, l, q, r⟩ := S
      simp only at o0 o1 o2 o3 o4 o5
      have k0 : wr.cell? ⟨w.heap.size + 1, 0, none⟩ = some (.int .i64 a) := hg.cell 0
      have k1 : wr.cell? ⟨w.heap.size + 1, 1, none⟩ = some (.int .i64 b) := hg.cell 1
      have k2 : wr.cell? ⟨w.heap.size + 1, 2, none⟩ = some (.int .i64 c) := hg.cell 2
      have k3 : wr.cell? ⟨w.heap.size + 1, 3, none⟩ = some (.bool p) := hg.cell 3
      have k4 : wr.cell? ⟨w.heap.size + 1, 4, none⟩ = some (.bool l) := hg.cell 4
      have k5 : wr.cell? ⟨w.heap.size + 1, 5, none⟩ = some (.bool q) := hg.cell 5
      have k6 : wr.cell? ⟨w.heap.size + 1, 6, none⟩ = some (.bool r) := hg.cell 6
      have f0 : wr.frozen? ⟨w.heap.size + 1, 0, none⟩ = false := hg.fr 0
      have HB := Lib.hid hb
      clear hg hr hb HI hall hlen hk hge o3 o5
      rcases hj : rej ⟨a, b, c, p, l, q, r⟩ m
      · have HV : Hid (prs (rn body.data.toList) m = if 1000000000 < a then .tuple #[.agg #[.int .i64 0, .int .i64 0], .int .i64 1] else .tuple #[.agg #[.int .i64 (if m = true then -a else a), .int .i64 c], .int .i64 0]) := by
          show prs _ _ = _
          rw [HSS.out]
          unfold prs
          rw [hj]
          rfl
        simp only [rej, Bool.or_eq_false_iff] at hj
        obtain ⟨rfl, rfl, h3, h4, h5, h6⟩ := hj
        have h5' : ¬ 6 < c := by simpa using h5
        rcases Int.lt_or_le 1000000000 a with ha | ha
        · rw [if_pos ha] at HV
          rcases p
          · clear h4
            rcases m <;> rcases q <;> first | (simp at h6; done) | (clear h5 h6; go_wp2; exact bodyPost_ret (v := .tuple #[.agg #[.int .i64 0, .int .i64 0], .int .i64 1]) (by simp [results, Tryd.results7, go_sem, l0, l1]) rfl ⟨by rw [HV.out], (by repeat (first | exact HB.out | (with_reducible refine Bel.drwN ?_ _) | (with_reducible refine Bel.drw ?_) | (with_reducible refine Bel.al ?_ _) | ((with_reducible refine Bel.st2 ?_ ?_ _); (show _ ≤ _); (simp only []; omega))))⟩)
          · simp only [Bool.true_and] at h4
            rcases m <;> rcases q <;> first | (simp at h6; done) | (clear h5 h6; go_wp2; exact bodyPost_ret (v := .tuple #[.agg #[.int .i64 0, .int .i64 0], .int .i64 1]) (by simp [results, Tryd.results7, go_sem, l0, l1]) rfl ⟨by rw [HV.out], (by repeat (first | exact HB.out | (with_reducible refine Bel.drwN ?_ _) | (with_reducible refine Bel.drw ?_) | (with_reducible refine Bel.al ?_ _) | ((with_reducible refine Bel.st2 ?_ ?_ _); (show _ ≤ _); (simp only []; omega))))⟩)
        · rw [if_neg (by omega)] at HV
          rcases p
          · clear h4
            rcases m
            · clear h5 h6
              go_wp2
              exact bodyPost_ret (v := .tuple #[.agg #[.int .i64 a, .int .i64 c], .int .i64 0]) (by simp [results, Tryd.results7, go_sem, l0, l1]) rfl ⟨by rw [HV.out]; rfl, (by repeat (first | exact HB.out | (with_reducible refine Bel.drwN ?_ _) | (with_reducible refine Bel.drw ?_) | (with_reducible refine Bel.al ?_ _) | ((with_reducible refine Bel.st2 ?_ ?_ _); (show _ ≤ _); (simp only []; omega))))⟩
            · rcases q
              · simp at h6
              · clear h5 h6
                go_wp2
                exact bodyPost_ret (v := .tuple #[.agg #[.int .i64 (-a), .int .i64 c], .int .i64 0]) (by simp [results, Tryd.results7, go_sem, l0, l1]) rfl ⟨by rw [HV.out]; rfl, (by repeat (first | exact HB.out | (with_reducible refine Bel.drwN ?_ _) | (with_reducible refine Bel.drw ?_) | (with_reducible refine Bel.al ?_ _) | ((with_reducible refine Bel.st2 ?_ ?_ _); (show _ ≤ _); (simp only []; omega))))⟩
          · simp only [Bool.true_and] at h4
            rcases m
            · clear h5 h6
              go_wp2
              exact bodyPost_ret (v := .tuple #[.agg #[.int .i64 a, .int .i64 c], .int .i64 0]) (by simp [results, Tryd.results7, go_sem, l0, l1]) rfl ⟨by rw [HV.out]; rfl, (by repeat (first | exact HB.out | (with_reducible refine Bel.drwN ?_ _) | (with_reducible refine Bel.drw ?_) | (with_reducible refine Bel.al ?_ _) | ((with_reducible refine Bel.st2 ?_ ?_ _); (show _ ≤ _); (simp only []; omega))))⟩
            · rcases q
              · simp at h6
              · clear h5 h6
                go_wp2
                exact bodyPost_ret (v := .tuple #[.agg #[.int .i64 (-a), .int .i64 c], .int .i64 0]) (by simp [results, Tryd.results7, go_sem, l0, l1]) rfl ⟨by rw [HV.out]; rfl, (by repeat (first | exact HB.out | (with_reducible refine Bel.drwN ?_ _) | (with_reducible refine Bel.drw ?_) | (with_reducible refine Bel.al ?_ _) | ((with_reducible refine Bel.st2 ?_ ?_ _); (show _ ≤ _); (simp only []; omega))))⟩
      · have HV : Hid (prs (rn body.data.toList) m = .tuple #[.agg #[.int .i64 0, .int .i64 0], .int .i64 3]) := by
          show prs _ _ = _
          rw [HSS.out]
          unfold prs
          rw [hj]
          rfl
        rcases r
        · rcases l
          · rcases h3 : (b == 0)
            · rcases h4 : (p && c == 0)
              · rcases h5 : decide (6 < c)
                · simp only [rej, h3, h4, h5, Bool.false_or, Bool.and_eq_true, Bool.not_eq_true'] at hj
                  obtain ⟨rfl, rfl⟩ := hj
                  have h5' : ¬ 6 < c := by simpa using h5
                  rcases p
                  · clear h4 h5
                    go_wp2
                    exact bodyPost_ret (v := .tuple #[.agg #[.int .i64 0, .int .i64 0], .int .i64 3]) (by simp [results, Tryd.results7, go_sem, l0, l1]) rfl ⟨by rw [HV.out], (by repeat (first | exact HB.out | (with_reducible refine Bel.drwN ?_ _) | (with_reducible refine Bel.drw ?_) | (with_reducible refine Bel.al ?_ _) | ((with_reducible refine Bel.st2 ?_ ?_ _); (show _ ≤ _); (simp only []; omega))))⟩
                  · simp only [Bool.true_and] at h4
                    clear h5
                    go_wp2
                    exact bodyPost_ret (v := .tuple #[.agg #[.int .i64 0, .int .i64 0], .int .i64 3]) (by simp [results, Tryd.results7, go_sem, l0, l1]) rfl ⟨by rw [HV.out], (by repeat (first | exact HB.out | (with_reducible refine Bel.drwN ?_ _) | (with_reducible refine Bel.drw ?_) | (with_reducible refine Bel.al ?_ _) | ((with_reducible refine Bel.st2 ?_ ?_ _); (show _ ≤ _); (simp only []; omega))))⟩
                · have h5' : 6 < c := by simpa using h5
                  have h4' : (c == 0) = false := by simp; omega
                  clear h4 h5 hj
                  rcases p
                  · go_wp2
                    exact bodyPost_ret (v := .tuple #[.agg #[.int .i64 0, .int .i64 0], .int .i64 3]) (by simp [results, Tryd.results7, go_sem, l0, l1]) rfl ⟨by rw [HV.out], (by repeat (first | exact HB.out | (with_reducible refine Bel.drwN ?_ _) | (with_reducible refine Bel.drw ?_) | (with_reducible refine Bel.al ?_ _) | ((with_reducible refine Bel.st2 ?_ ?_ _); (show _ ≤ _); (simp only []; omega))))⟩
                  · go_wp2
                    exact bodyPost_ret (v := .tuple #[.agg #[.int .i64 0, .int .i64 0], .int .i64 3]) (by simp [results, Tryd.results7, go_sem, l0, l1]) rfl ⟨by rw [HV.out], (by repeat (first | exact HB.out | (with_reducible refine Bel.drwN ?_ _) | (with_reducible refine Bel.drw ?_) | (with_reducible refine Bel.al ?_ _) | ((with_reducible refine Bel.st2 ?_ ?_ _); (show _ ≤ _); (simp only []; omega))))⟩
              · rcases p
                · simp at h4
                · simp only [Bool.true_and] at h4
                  clear hj
                  go_wp2
                  exact bodyPost_ret (v := .tuple #[.agg #[.int .i64 0, .int .i64 0], .int .i64 3]) (by simp [results, Tryd.results7, go_sem, l0, l1]) rfl ⟨by rw [HV.out], (by repeat (first | exact HB.out | (with_reducible refine Bel.drwN ?_ _) | (with_reducible refine Bel.drw ?_) | (with_reducible refine Bel.al ?_ _) | ((with_reducible refine Bel.st2 ?_ ?_ _); (show _ ≤ _); (simp only []; omega))))⟩
            · clear hj
              go_wp2
              exact bodyPost_ret (v := .tuple #[.agg #[.int .i64 0, .int .i64 0], .int .i64 3]) (by simp [results, Tryd.results7, go_sem, l0, l1]) rfl ⟨by rw [HV.out], (by repeat (first | exact HB.out | (with_reducible refine Bel.drwN ?_ _) | (with_reducible refine Bel.drw ?_) | (with_reducible refine Bel.al ?_ _) | ((with_reducible refine Bel.st2 ?_ ?_ _); (show _ ≤ _); (simp only []; omega))))⟩
          · clear hj
            go_wp2
            exact bodyPost_ret (v := .tuple #[.agg #[.int .i64 0, .int .i64 0], .int .i64 3]) (by simp [results, Tryd.results7, go_sem, l0, l1]) rfl ⟨by rw [HV.out], (by repeat (first | exact HB.out | (with_reducible refine Bel.drwN ?_ _) | (with_reducible refine Bel.drw ?_) | (with_reducible refine Bel.al ?_ _) | ((with_reducible refine Bel.st2 ?_ ?_ _); (show _ ≤ _); (simp only []; omega))))⟩
        · clear hj
          go_wp2
          exact bodyPost_ret (v := .tuple #[.agg #[.int .i64 0, .int .i64 0], .int .i64 3]) (by simp [results, Tryd.results7, go_sem, l0, l1]) rfl ⟨by rw [HV.out], (by repeat (first | exact HB.out | (with_reducible refine Bel.drwN ?_ _) | (with_reducible refine Bel.drw ?_) | (with_reducible refine Bel.al ?_ _) | ((with_reducible refine Bel.st2 ?_ ?_ _); (show _ ≤ _); (simp only []; omega))))⟩
end Go.Proofs.YtgclojonjglikaaDoor.Un
