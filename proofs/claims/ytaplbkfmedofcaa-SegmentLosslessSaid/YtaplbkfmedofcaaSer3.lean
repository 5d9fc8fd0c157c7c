/- series.Starts. -/
import Derived.Test.YtaplbkfmedofcaaSer2
namespace Go.Proofs.Ytaplbkfmedofcaa.Se
open Go.RowKit Go.Shelf Wo Sr Wi
set_option linter.unusedVariables false
attribute [local go_sem] Oper.semAt_some
theorem runs_stops (d : Nat) (hd : 1 ≤ d) (Bo Bx : Nat) (A : Option Addr) (c n : Nat) (L : List Int) (hn : n ≤ 3000) (w : World) (hx1 : Bx < w.heap.size) (hx2 : Bx ≠ Bo) (hbx : w.cell? ⟨Bx, 0, none⟩ = some (.slice A n c)) (hz : Zi w A n L) (hzb : 0 < n → ∀ ad, A = some ad → ad.block ≠ Bo) :
    SeqStopsK Fence.wide d Try.prog 59 #[.pointer (some ⟨Bx, 0, none⟩)] encr (fun W W' => Kq w.heap.size Bo W W' ∧ w.heap.size ≤ W'.heap.size) (fun ys => rv ys = rns L 0 0) (fun _ => True) (n + 1) w := fun l J Jx W hW hJ _ hY h0 =>
  runs1_in d hd w.heap.size Bo l Bx A c n L hn J Jx W hJ hY hx1 hx2 ((hW.cell (p := ⟨Bx, 0, none⟩) hx1).trans hbx) (hz.bel hW) (fun h ad e => ⟨zi_lt hz ad h e, hzb h ad e⟩) h0
theorem kq_t {n₀ Bo : Nat} {A B C : World} (h : Kq n₀ Bo A B ∧ n₀ ≤ B.heap.size) (k : Kq n₀ Bo B C ∧ n₀ ≤ C.heap.size) : Kq n₀ Bo A C ∧ n₀ ≤ C.heap.size := ⟨fun b h1 h2 => (k.1 b h1 h2).trans (h.1 b h1 h2), k.2⟩
theorem kq_b {n₀ Bo : Nat} (W : World) (l : Nat) (o o' : Obj) (hl : n₀ ≤ l) (h : W.heap[l]? = some o) : Kq n₀ Bo W (W.putObj l o') ∧ n₀ ≤ (W.putObj l o').heap.size := ⟨fun b hb _ => by
  unfold World.putObj
  simp [show l ≠ b by omega], by
  have := (Array.getElem?_eq_some_iff.1 h).1
  unfold World.putObj
  simp; omega⟩
theorem kq_bl {n₀ Bo : Nat} {W W' : World} (h : Below n₀ W W') (hs : n₀ ≤ W.heap.size) : Kq n₀ Bo W W' ∧ n₀ ≤ W'.heap.size := ⟨fun b hb _ => h.block b hb, Nat.le_trans hs h.size⟩
/-- the starts of the runs that have come -/
def stl (m : Nat) (pre : List Rn) : List Int := ((rv pre).flatMap (ofRun m)).map Int.ofNat
theorem stl_len (m : Nat) (pre : List Rn) : (stl m pre).length ≤ pre.length * 3001 := by
  induction pre with
  | nil => simp [stl, rv]
  | cons x l ih =>
    have e : stl m (x :: l) = (ofRun m x.1).map Int.ofNat ++ stl m l := by simp [stl, rv]
    have h2 : (ofRun m x.1).length ≤ 3001 := by
      have := x.2
      simp [ofRun]; omega
    rw [e, List.length_append, List.length_map, List.length_cons]
    omega
/-- t starts of the run x behind those of pre -/
def stp (m : Nat) (pre : List Rn) (x : Rn) (t : Nat) : List Int := stl m pre ++ (List.range t).map (fun i => ((x.1.1 + i : Nat) : Int))
theorem stp_all (m : Nat) (pre : List Rn) (x : Rn) : stp m pre x (x.1.2 + 1 - m) = stl m (pre ++ [x]) := by
  simp [stp, stl, rv, ofRun]
theorem stp_zero (m : Nat) (pre : List Rn) (x : Rn) : stp m pre x 0 = stl m pre := by simp [stp]
theorem stp_len (m : Nat) (pre : List Rn) (x : Rn) (t : Nat) : (stp m pre x t).length = (stl m pre).length + t := by simp [stp]
theorem stp_next (m : Nat) (pre : List Rn) (x : Rn) (t : Nat) : stp m pre x (t + 1) = stp m pre x t ++ [(x.1.1 : Int) + (t : Int)] := by
  simp [stp, List.range_succ]
theorem stl_sts {L : List Int} {m : Nat} {ys : List Rn} (h : rv ys = rns L 0 0) : stl m ys = (sts L m).map Int.ofNat := by
  unfold stl sts; rw [h]
theorem own_ne {W : World} {base k size : Nat} {e : TypeId} {v : Value} {xs : List Value} (h : W.ownsRow base e size v k xs) {b : Nat} (hb : b < base) : some b ≠ v.ownBlock := by
  intro hg
  rcases h.2 with ⟨rfl, _⟩ | ⟨g, cap, cur, rfl, hh, _⟩
  · cases hg
  · injection hg with hg
    have : b = g := hg
    omega
theorem own_nd {W : World} {base k size : Nat} {e : TypeId} {v : Value} {xs : List Value} (h : W.ownsRow base e size v k xs) {b : Nat} {o : Obj} (hb : W.heap[b]? = some o) (ho : o.isCells = false) : some b ≠ v.ownBlock := by
  intro hg
  rcases h.2 with ⟨rfl, _⟩ | ⟨g, cap, cur, rfl, _, hh, _⟩
  · cases hg
  · injection hg with hg
    have : b = g := hg
    subst this
    rw [hb] at hh
    cases hh
    cases ho
theorem own_lo {w : World} {base base' size n : Nat} {e : TypeId} {v : Value} {xs : List Value} (h : w.ownsRow base e size v n xs) (hb : base' ≤ base) : w.ownsRow base' e size v n xs := by
  refine ⟨h.1, ?_⟩
  rcases h.2 with hn | ⟨g, cap, cur, rfl, hbb, rest⟩
  · exact .inl hn
  · exact .inr ⟨g, cap, cur, rfl, by omega, rest⟩
theorem cell_lt {W : World} {b k : Nat} {v : Value} (h : W.cell? ⟨b, k, none⟩ = some v) : b < W.heap.size := by
  obtain ⟨o, ho, _⟩ := cells_of_cell h
  exact (Array.getElem?_eq_some_iff.1 ho).1
theorem own_blk_ne {w : World} {base g : Nat} {e t : TypeId} {cs : Array Value} {size n : Nat} {v : Value} {xs : List Value} (h : w.ownsRow base e size v n xs) (hg : Bk w g t cs) (hne : e ≠ t) : v.ownBlock ≠ some g := by
  rcases h.2 with ⟨rfl, _⟩ | ⟨g', cap, cur, rfl, _, hh, _⟩
  · simp [Value.ownBlock]
  · intro he
    have : g' = g := by simpa [Value.ownBlock] using he
    subst this
    unfold Bk at hg
    rw [hg] at hh
    injection hh with hh
    injection hh with _ ht
    exact hne ht.symm
theorem bk_own {g : Nat} {t : TypeId} {cs : Array Value} {B : Nat} {A W : World} {row : Option Nat} (h : Bk A g t cs) (hg : A.grownBy W row) (hr : ∀ r, row = some r → B ≤ r ∧ ∃ o : Obj, A.heap[r]? = some o ∧ o.isCells = false) : Bk W g t cs :=
  (hg.block g h.lt (fun e => by
    obtain ⟨_, o, ho, hc⟩ := hr g e.symm
    unfold Bk at h
    rw [h] at ho
    cases ho
    cases hc)).trans h
end Go.Proofs.Ytaplbkfmedofcaa.Se
