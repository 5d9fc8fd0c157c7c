/- resample: At. -/
import Derived.Test.YtdkibffbaamkkaaRes3
import Derived.Test.YtdkibffbaamkkaaAsc
namespace Go.Proofs.Ytdkibffbaamkkaa.Rg
open Go.ChangeShapes Go.WideShapes Go.RowKit Wo Sr Wi Rm
set_option linter.unusedVariables false
set_option maxHeartbeats 4000000 in
theorem at_ok (A : Option Addr) (ca n : Nat) (l : List Rp) (hn : n ≤ 2000) (hs : Asc l) (f s c r q t : Int) (hg : Gv f s c r q) (t0 : 0 ≤ t) (t1 : t ≤ 1099511627776) (w : World) (h : Zr w A n l) :
    Calls Try.prog 21 #[.slice A n ca, gv f s c r q, .int .i64 t] w fun e w' => e = .returned (.tuple #[.int .i64 (val l r q t).1, .bool (val l r q t).2]) ∧ Bel w w' := by
  have HRG : Hid (∀ W, Bel w W → _) := fun W hW => regular_ok A ca n l hn hs W (h.bel hW)
  have HVD : Hid (∀ W, _) := fun W => valid_ok f s c r q hg W
  obtain ⟨f0, f1, s0, s1, c0, c1, h1, r0, r1, q0, q1⟩ := hg
  have HVL : Hid (∀ W, Bel w W → _) := fun W hW => value_ok A ca n l hn hs f s c r q t t0 t1 r0 r1 q0 q1 W (h.bel hW)
  obtain ⟨x, hx⟩ : ∃ x, (val l r q t).1 = x := ⟨_, rfl⟩
  obtain ⟨y, hy⟩ : ∃ x, (val l r q t).2 = x := ⟨_, rfl⟩
  rw [hx, hy] at HVL ⊢
  unfold gv at HVD HVL ⊢
  clear h hs hx hy h1
  go_enter Try.func21, Try.ntmps21
  go_wp2_with fail
  go_at_call 39
  refine (HRG.out _ (Bel.rf.al _)).mono ?_
  rintro e w1 ⟨rfl, hb⟩
  have KB := Bk.bel (Bk.nw w 46 #[.int .i64 f, .int .i64 s, .int .i64 c, .int .i64 r, .int .i64 q]) hb
  have HB1 : Hid (Bel w w1) := (Bel.rf.al _).tr hb
  have k0 := KB.cell 0
  have k1 := KB.cell 1
  have k2 := KB.cell 2
  have k3 := KB.cell 3
  have k4 := KB.cell 4
  simp at k0 k1 k2 k3 k4
  have HKB := Lib.hid KB
  clear hb KB
  go_wp2_with fail
  go_at_call 40
  refine (HVD.out _).mono ?_
  rintro e w2 ⟨rfl, hb⟩
  have HB2 : Hid (Bel w w2) := by first | exact HB1.out.tr hb | exact (HB1.out.drwN _).tr hb
  have KB : Bk w2 w.heap.size 46 #[.int .i64 f, .int .i64 s, .int .i64 c, .int .i64 r, .int .i64 q] := by first | exact HKB.out.bel hb | exact (HKB.out.drwN _).bel hb
  clear k0 k1 k2 k3 k4
  have k0 := KB.cell 0
  have k1 := KB.cell 1
  have k2 := KB.cell 2
  have k3 := KB.cell 3
  have k4 := KB.cell 4
  simp at k0 k1 k2 k3 k4
  clear hb KB
  go_wp2_with (go_at_call 41; refine (HVL.out _ (by first | exact HB2.out | exact HB2.out.drwN _)).mono ?_; rintro e w3 ⟨rfl, hb3⟩)
  go_ret2
  exact ⟨rfl, by first | exact HB2.out.tr hb3 | exact (HB2.out.drwN _).tr hb3⟩
theorem wp_make_any {P : Program} (w : World) {o : Oper} {a : Act} {K : Act → World → Prop} {Q : Exit → Act → World → Prop}
    (l c : Operand) (t : TypeId) (hop : o.op = Op.makeSlice t l c)
    (e : TypeId) (i : TypeInfo) (z : Value) (size : Nat) (h1 : P.underlying t = some (.slice e)) (h2 : P.info? e = some i) (h3 : i.zero = some z) (h4 : i.size = size)
    (kl kc : IntKind) (L C : Int) (m n : Nat) (hl : a.eval l = .int kl L) (hc : a.eval c = .int kc C) (hL : L = (m : Int)) (hC : C = (n : Int)) (hmn : m ≤ n) (b2 : i.bytes * n ≤ 281474976710656) (b3 : n ≤ 4611686018427387904)
    (hK : K (a.put o.dst (.slice (some ⟨w.heap.size, 0, none⟩) m n)) (w.alloc (.cells (madeCells z.cells (n * size)) e))) : o.wp P a w K Q := by
  have hb' : (i.bytes : Int) * (n : Int) ≤ 281474976710656 := by
    have h : ((i.bytes * n : Nat) : Int) ≤ 281474976710656 := by omega
    rwa [Int.natCast_mul] at h
  have hr := run_make (P := P) w t e i z h1 h2 h3 kl kc m n (by omega) (by omega) hb' (by omega)
  simp only [Int.toNat_natCast] at hr
  subst hL
  subst hC
  subst h4
  unfold Oper.wp
  simp [execOp, hop, hl, hc, hr, Result.andThen]
  exact hK
theorem step_make_any {P : Program} (w : World) {ops : Array Oper} {o : Oper} {a : Act} {K : Act → World → Prop} {Q : Exit → Act → World → Prop} {E : Prop} (hgd : o.guard = none)
    (l c : Operand) (t : TypeId) (hop : o.op = Op.makeSlice t l c)
    (e : TypeId) (i : TypeInfo) (z : Value) (size : Nat) (h1 : P.underlying t = some (.slice e)) (h2 : P.info? e = some i) (h3 : i.zero = some z) (h4 : i.size = size)
    (kl kc : IntKind) (L C : Int) (m n : Nat) (hl : a.eval l = .int kl L) (hc : a.eval c = .int kc C) (hL : L = (m : Int)) (hC : C = (n : Int)) (hmn : m ≤ n) (b2 : i.bytes * n ≤ 281474976710656) (b3 : n ≤ 4611686018427387904)
    (hK : K (a.put o.dst (.slice (some ⟨w.heap.size, 0, none⟩) m n)) (w.alloc (.cells (madeCells z.cells (n * size)) e))) :
    if Region.wanted o (yielded ops a.tmps) = true then Oper.wp P o a w K Q else E := by
  have hw : Region.wanted o (yielded ops a.tmps) = true := by simp [Region.wanted, hgd]
  rw [if_pos hw]
  exact wp_make_any w l c t hop e i z size h1 h2 h3 h4 kl kc L C m n hl hc hL hC hmn b2 b3 hK
/-- a grid as a result of its own -/
theorem results_g {fn : Func} {p : Tmp} (h : fn.results = #[.cell p 46]) (tmps : Array Value) (w : World) (g : Nat) (a b c d e : Value)
    (hp : tmps.getD p undef = .pointer (some ⟨g, 0, none⟩)) (hg : Bk w g 46 #[a, b, c, d, e]) :
    (results fn tmps).run Try.prog w = .ok (.agg #[a, b, c, d, e]) w := by
  have hp' : tmps[p]?.getD undef = .pointer (some ⟨g, 0, none⟩) := by simpa using hp
  have hl := run_loadVar_row (P := Try.prog) w g 46 46 #[a, b, c, d, e] (0, 0) _ hg Try.underlying46 rfl (by kernel_rfl)
  simp [results, h, hp', asAddr, hl]
/-- a series and an error -/
theorem results_s {fn : Func} {p u : Tmp} (h : fn.results = #[.cell p 54, .tmp u]) (tmps : Array Value) (w : World) (g : Nat) (a b c : Value)
    (hp : tmps.getD p undef = .pointer (some ⟨g, 0, none⟩)) (hg : Bk w g 54 #[a, b, c]) :
    (results fn tmps).run Try.prog w = .ok (.tuple #[.agg #[a, b, c], tmps.getD u undef]) w := by
  have hp' : tmps[p]?.getD undef = .pointer (some ⟨g, 0, none⟩) := by simpa using hp
  have hl := run_loadVar_row (P := Try.prog) w g 54 54 #[a, b, c] (0, 0) _ hg Try.underlying54 rfl (by kernel_rfl)
  simp [results, h, hp', asAddr, hl]
set_option maxHeartbeats 4000000 in
theorem grid_ok (r q : Int) (w : World) : Calls Try.prog 22 #[.int .i64 r, .int .i64 q] w fun e w' => e = .returned (gv 0 1 0 r q) ∧ Bel w w' := by
  go_enter Try.func22, Try.ntmps22
  go_wp2
  refine bodyPost_ret (v := gv 0 1 0 r q) (results_g Try.results22 _ _ w.heap.size (.int .i64 0) (.int .i64 1) (.int .i64 0) (.int .i64 r) (.int .i64 q) rfl ?_) rfl ⟨rfl, ?_⟩
  · exact Bk.nw w _ _
  · exact Bel.rf.al _
end Go.Proofs.Ytdkibffbaamkkaa.Rg
