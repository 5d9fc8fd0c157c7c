/- slices.Grow of nil, slices.Concat of three lists, slices.Repeat of one number, series.Join. -/
import Derived.Test.YthpmgadmefhfpaaSer6
import Derived.Test.YthpmgadmefhfpaaSer7
import Derived.Lib.AppendZeros
import Derived.Laws.CopyOwn
import Derived.Laws.Bits64b
namespace Go.Proofs.Ythpmgadmefhfpaa.Se
open Go.ChangeShapes Go.WideShapes Go.RowKit Wo Sr Wi
set_option linter.unusedVariables false
def SomeRow (w : World) (e : Ending) (w' : World) : Prop := ∃ v, e = .returned v ∧ w'.ownsRow w.heap.size 3 1 v 0 (zs []) ∧ Bel w w'
theorem grow_zero (w : World) : Calls Try.prog 41 #[.slice none 0 0, .int .i64 0] w (SomeRow w) := by
  go_enter Try.func41, Try.ntmps41
  go_wp2
  go_ret
  exact ⟨_, rfl, World.ownsRow_nil _ _ _ _, Bel.rf⟩
theorem under_int : Try.prog.underlying 3 = some (.int .i64) := by kernel_rfl
set_option maxHeartbeats 1000000 in
theorem grow_some (n : Nat) (n1 : 1 ≤ n) (n2 : n ≤ 3000) (w : World) : Calls Try.prog 41 #[.slice none 0 0, .int .i64 (n : Int)] w (SomeRow w) := by
  obtain ⟨i0, hi0, hz0, hz1, hz2⟩ := info_parts info_int
  have hr := Lib.run_append_nil_zeros (P := Try.prog) w 22 3 22 3 i0 (.int .i64 0) .i64 .i64 Try.underlying22 under_int hi0 hz0 n (by omega) (by omega) (by omega) (by rw [hz2]; omega)
  have HR := Lib.hid hr
  have i1 : (n : Int) > 0 := by omega
  have i2 : (n : Int) ≤ 3000 := by omega
  have i3 : ¬ (n : Int) < 0 := by omega
  clear hr hi0 hz0 hz1 hz2
  go_enter Try.func41, Try.ntmps41
  go_wp2_with (at_builtin; refine Lib.wpList_append_run _ rfl _ _ 22 3 rfl _ _ rfl rfl _ _ HR.out ?_)
  go_ret
  have hle : n ≤ maxLen := by unfold maxLen; omega
  refine ⟨_, rfl, ?_, (Bel.rf.al _).drw⟩
  have h := World.ownsRow_made (base := w.heap.size) (e := 3) (size := 1) w (Builtin.zeroCells #[Value.int IntKind.i64 0] n ++ Builtin.zeroCells #[Value.int IntKind.i64 0] (grownCap w n 0 3 - n)) (grownCap w n 0 3) (Nat.le_refl _) (grownCap_le_maxLen _ _ _ _ hle) (by rw [Array.size_append, size_zeroCells, size_zeroCells]; have := grownCap_ge w n 0 3; simp; omega)
  exact own_bel h Bel.rf.drw
theorem grow_any (n : Nat) (n2 : n ≤ 3000) (w : World) : Calls Try.prog 41 #[.slice none 0 0, .int .i64 (n : Int)] w (SomeRow w) := by
  rcases Nat.eq_zero_or_pos n with h | h
  · subst h; exact grow_zero w
  · exact grow_some n h n2 w
theorem run_app_any (w : World) (ty : TypeId) (base : Nat) (v : Value) (n : Nat) (L : List Int) (hown : w.ownsRow base 3 1 v n (zs L)) (A : Option Addr) (m c : Nat) (M : List Int) (hz : Zi w A m M) (hn : n + m ≤ 1000000) (hbase : base ≤ w.heap.size) :
    ∃ v' w', (Builtin.append_ #[22, 22] ty #[v, .slice A m c]).run Try.prog w = .ok v' w' ∧ w'.ownsRow base 3 1 v' (n + m) (zs (L ++ M)) ∧ w.grownBy w' v.ownBlock := by
  rcases A with _ | ad
  · have hm : m = 0 := by
      rcases Nat.eq_zero_or_pos m with h | h
      · exact h
      · obtain ⟨ad, e, _⟩ := hz.2 h; cases e
    subst hm
    have hM : M = [] := List.eq_nil_of_length_eq_zero hz.1
    subst hM
    obtain ⟨i0, hi0, hz0, hz1, hz2⟩ := info_parts info_int
    refine ⟨v, w, ?_, by simpa using hown, World.grownBy.refl _ _⟩
    rcases hown.2 with ⟨rfl, rfl⟩ | ⟨g, cap, cur, rfl, _, _, hnc, _⟩
    · simp [Builtin.append_, run_underlying Try.underlying22, sizeOf, typeInfo, hi0, Builtin.lenOf, Builtin.firstCells]
    · simp [Builtin.append_, run_underlying Try.underlying22, sizeOf, typeInfo, hi0, Builtin.lenOf, Builtin.firstCells, hnc, storeCells]
  · obtain ⟨v', w', h1, h2, h3, _⟩ := run_app w ty base v n L hown ad m c M hz hn hbase
    exact ⟨v', w', h1, h2, h3⟩
theorem list_app_any (w : World) {ops : Array Oper} {rest : List Oper} {o : Oper} {a : Act} {Q : Exit → Act → World → Prop} (hgd : o.guard = none) (s x : Operand)
    (ho : o.op = .call { callee := .builtin .append, args := #[s, x], argTypes := #[22, 22] })
    (base : Nat) (v : Value) (n : Nat) (L : List Int) (hs : a.eval s = v) (hown : w.ownsRow base 3 1 v n (zs L)) (A : Option Addr) (m c : Nat) (M : List Int) (hx : a.eval x = .slice A m c) (hz : Zi w A m M) (hn : n + m ≤ 1000000) (hbase : base ≤ w.heap.size)
    (h : ∀ v' w', w'.ownsRow base 3 1 v' (n + m) (zs (L ++ M)) → w.grownBy w' v.ownBlock → wpList Try.prog ops Q rest (a.put o.dst v') w') : wpList Try.prog ops Q (o :: rest) a w := by
  obtain ⟨v', w', hr, h2, h3⟩ := run_app_any w o.type base v n L hown A m c M hz hn hbase
  exact Lib.wpList_append_run w hgd s x _ _ ho _ _ hs hx v' w' hr (h v' w' h2 h3)
def tot (ns : Nat → Nat) : Nat → Nat
  | 0 => 0
  | t + 1 => tot ns t + ns t
def cat (Ls : Nat → List Int) : Nat → List Int
  | 0 => []
  | t + 1 => cat Ls t ++ Ls t
theorem tot_le (ns : Nat → Nat) : ∀ (q t : Nat), t ≤ q → tot ns t ≤ tot ns q
  | 0, t, h => by have : t = 0 := by omega
                  subst this; exact Nat.le_refl _
  | q + 1, t, h => by
    rcases Nat.lt_or_ge t (q + 1) with h1 | h1
    · have := tot_le ns q t (by omega)
      show _ ≤ tot ns q + ns q
      omega
    · have : t = q + 1 := by omega
      subst this; exact Nat.le_refl _
theorem cat_len {ns : Nat → Nat} {Ls : Nat → List Int} : ∀ q, (∀ j, j < q → (Ls j).length = ns j) → (cat Ls q).length = tot ns q
  | 0, _ => rfl
  | q + 1, h => by
    show (cat Ls q ++ Ls q).length = tot ns q + ns q
    rw [List.length_append, cat_len q (fun j hj => h j (by omega)), h q (by omega)]
set_option maxHeartbeats 4000000 in
theorem concat_any (g q : Nat) (As : Nat → Option Addr) (ns cs : Nat → Nat) (Ls : Nat → List Int) (hq : q ≤ 10) (hN : tot ns q ≤ 3000) (w : World) (hgl : g < w.heap.size)
    (hc : ∀ j, j < q → w.cell? ⟨g, j, none⟩ = some (.slice (As j) (ns j) (cs j))) (hz : ∀ j, j < q → Zi w (As j) (ns j) (Ls j)) :
    Calls Try.prog 33 #[.slice (some ⟨g, 0, none⟩) q q] w (SomeVs (tot ns q) (cat Ls q) w) := by
  have HC := Lib.hid hc
  have HZ := Lib.hid hz
  have HT := Lib.hid (tot_le ns q)
  have hqi : (q : Int) ≤ 10 := by omega
  clear hc hz
  go_enter Try.func33, Try.ntmps33
  go_wp2
  go_loopw [3, 11] (fun s3 s11 wr => ∃ (t : Nat) (V : World), V = wr ∧ t ≤ q ∧ s3 = .int .i64 (tot ns t : Int) ∧ s11 = .int .i64 (t : Int) ∧ Bel w wr) (fun _ s11 _ => q - (intOf s11).toNat)
  case atStart => exact ⟨0, _, rfl, by omega, rfl, rfl, Bel.rf⟩
  case round =>
    obtain ⟨t, wr, hwr, ht, rfl, rfl, hb⟩ := hrel
    subst hwr
    have HB := Lib.hid hb
    rcases Nat.lt_or_ge t q with hlt | hge
    · have c1 := hb.kp (HC.out t hlt)
      have hn1 := HT.out t ht
      have hn2 := HT.out (t + 1) hlt
      have HTN : Hid (tot ns (t + 1) = tot ns t + ns t) := rfl
      have hn3 : tot ns t + ns t ≤ 3000 := by have : tot ns (t + 1) = tot ns t + ns t := rfl
                                              omega
      obtain ⟨a, ha⟩ : ∃ a, tot ns t = a := ⟨_, rfl⟩
      obtain ⟨b, hbb⟩ : ∃ a, ns t = a := ⟨_, rfl⟩
      rw [ha, hbb] at HTN hn3
      rw [hbb] at c1
      rw [ha]
      have ti : (t : Int) < (q : Int) := by omega
      have ab : (a : Int) + (b : Int) ≤ 3000 := by omega
      have ab0 : ¬ (a : Int) + (b : Int) < 0 := by omega
      clear hb hn1 hn2 hn3 ha hbb
      go_wp2
      go_roundw
      case rel => exact ⟨t + 1, _, rfl, by omega, by rw [HTN.out]; go_num, by go_num, by first | exact HB.out | exact HB.out.drw | exact HB.out.drwN _⟩
      case measure => simp [intOf]; omega
    · obtain rfl : t = q := by omega
      clear hb
      obtain ⟨N, hNN⟩ : ∃ N, tot ns t = N := ⟨_, rfl⟩
      rw [hNN] at hN ⊢
      have HNN := Lib.hid hNN
      have GR : Hid (∀ W, _) := fun W => grow_any N (by omega) W
      clear hNN
      go_wp2_with (go_at_call 41; refine (GR.out _).mono ?_; rintro e w2 ⟨v, rfl, hown, hb2⟩)
      have hb12 := HB.out.tr hb2
      have HR0 : Hid (∃ (u : Nat) (V : World) (v' : Value), V = w2 ∧ v' = v ∧ u ≤ t ∧ (Value.int .i64 0) = .int .i64 (u : Int) ∧ V.ownsRow w.heap.size 3 1 v' (tot ns u) (zs (cat Ls u)) ∧ Bel w V) := by
        refine ⟨0, _, _, rfl, rfl, Nat.zero_le _, rfl, ?_, hb12⟩
        refine ⟨hown.1, ?_⟩
        rcases hown.2 with hn | ⟨q', cap, cur, rfl, hbb, rest⟩
        · exact .inl hn
        · exact .inr ⟨q', cap, cur, rfl, by have := HB.out.size; omega, rest⟩
      clear hown hb2 hb12
      go_loopw [6, 27] (fun s6 s27 wr => ∃ (u : Nat) (V : World) (v' : Value), V = wr ∧ v' = s6 ∧ u ≤ t ∧ s27 = .int .i64 (u : Int) ∧ V.ownsRow w.heap.size 3 1 v' (tot ns u) (zs (cat Ls u)) ∧ Bel w V) (fun _ s27 _ => t - (intOf s27).toNat)
      case atStart => exact HR0.out
      case round =>
        clear HR0
        obtain ⟨u, wr2, v', hwr, hv', hu, rfl, hown, hb⟩ := hrel
        subst hwr hv'
        rcases Nat.lt_or_ge u t with hlt | hge
        · have c1 := hb.kp (HC.out u hlt)
          have hn2 := HT.out (u + 1) hlt
          have HTN : Hid (tot ns (u + 1) = tot ns u + ns u ∧ cat Ls (u + 1) = cat Ls u ++ Ls u) := ⟨rfl, rfl⟩
          have hn3 : tot ns u + ns u ≤ 3000 := by have : tot ns (u + 1) = tot ns u + ns u := rfl
                                                  have := HNN.out
                                                  omega
          have HZU := Lib.hid ((HZ.out u hlt).bel hb)
          have HV := Lib.hid (And.intro hown hb)
          have hsz := hb.size
          have ui : (u : Int) < (t : Int) := by omega
          clear hown hb hn2
          go_wp2_with (at_builtin; refine list_app_any _ rfl _ _ rfl w.heap.size v' (tot ns u) (cat Ls u) rfl HV.out.1 (As u) (ns u) (cs u) (Ls u) rfl HZU.out (by omega) hsz ?_; intro v2 w3 h2 h3)
          go_roundw
          case rel => exact ⟨u + 1, _, _, rfl, rfl, by omega, by go_num, by rw [HTN.out.1, HTN.out.2]; exact h2, bel_grown HV.out.2 h3 (own_base HV.out.1)⟩
          case measure => simp [intOf]; omega
        · obtain rfl : u = t := by omega
          rw [HNN.out] at hown
          obtain ⟨A, c, rfl, hvs, hf⟩ := own_vs hown (by rw [cat_len u (fun j hj => (HZ.out j hj).1)]; exact HNN.out)
          have HV := Lib.hid (And.intro hvs (And.intro hf hb))
          clear hown hvs hf hb
          go_wp2
          go_ret
          have hN' := HNN.out
          subst hN'
          exact ⟨A, c, rfl, HV.out.1, HV.out.2.1, HV.out.2.2⟩
end Go.Proofs.Ythpmgadmefhfpaa.Se
