/- shapesearchref07.Times. Written by mktm.py. -/
import Derived.Test.YtgcjangnlbhicaaStTm
namespace Go.Proofs.Ytgcjangnlbhicaa.St
open Go.ChangeShapes Go.WideShapes Go.RowKit Wo Sr Wi Rm Rg
set_option linter.unusedVariables false
set_option linter.unusedSimpArgs false
set_option maxHeartbeats 8000000 in
set_option maxRecDepth 100000 in
theorem times_ok (A : Option Addr) (c n : Nat) (l : List Rp) (hn : n ≤ 2000) (w : World) (hz : Zo w A n l) :
    Calls Try.prog 17 #[.slice A n c] w (SomeTm l w) := by
  have hl := hz.1
  have HL := Lib.hid hl
  have HZ := Lib.hid hz
  have ni : (n : Int) ≤ 2000 := by omega
  clear hz hl
  go_enter Try.func17, Try.ntmps17
  go_wp2
  go_loopw [3, 8] (fun s3 s8 wr => ∃ (i : Nat) (V : World) (B : Option Addr) (k cB : Nat), V = wr ∧ i ≤ n ∧ s3 = .slice B k cB ∧ s8 = .int .i64 (i : Int) ∧ Zi wr B k (uts (l.take i)) ∧ Ns B k cB ∧ Bel w wr) (fun _ s8 _ => n - (intOf s8).toNat)
  case atStart => exact ⟨0, _, none, 0, 0, rfl, by omega, rfl, rfl, zi_nonet, .inl ⟨rfl, rfl, rfl⟩, by first | exact Bel.rf | exact Bel.rf.drwN _⟩
  case round =>
    obtain ⟨i, wr, B, k, cB, hwr, hin, rfl, rfl, hzi, hns, hb⟩ := hrel
    subst hwr
    rcases Nat.lt_or_ge i n with hlt | hge
    · obtain ⟨g, o, e, hg, hcc⟩ := (Zo.bel HZ.out hb).2 (by omega)
      subst e
      obtain ⟨c1r, _⟩ := hcc i hlt
      have hsn := uts_snoc (l := l) (i := i) (by rw [HL.out]; exact hlt)
      have hul := uts_le (l.take i)
      obtain ⟨T, hT⟩ : ∃ T, uts (l.take i) = T := ⟨_, rfl⟩
      rw [hT] at hsn hzi hul
      obtain ⟨t, ht⟩ : ∃ x, tm l i = x := ⟨_, rfl⟩
      rw [ht] at c1r hsn
      have kn : k ≤ 2000 := by have := hzi.1; rw [List.length_take] at hul; omega
      have ki : (k : Int) ≤ 2000 := by omega
      have ii : (i : Int) < (n : Int) := by omega
      have i0 : (0 : Int) ≤ (i : Int) := by omega
      have HSN := Lib.hid hsn
      have HZI := Lib.hid hzi
      have HB := Lib.hid hb
      clear hcc hT ht hsn hul
      rcases hns with ⟨rfl, rfl, rfl⟩ | ⟨gb, rfl, hcap⟩
      · go_wp2
        go_loopw [5] (fun s5 wq => ∃ (a : Nat) (V : World), V = wq ∧ a ≤ 0 ∧ s5 = .int .i64 (a : Int) ∧ (∀ j, j < a → T.getD j 0 < t) ∧ Bel wr wq) (fun s5 _ => 0 - (intOf s5).toNat)
        case atStart => exact ⟨0, _, rfl, by omega, rfl, fun j hj => by omega, by first | exact Bel.rf | exact Bel.rf.drwN _⟩
        case round =>
          obtain ⟨a, wq, hwq, ha, rfl, hal, hq⟩ := hrel
          subst hwq
          have c1 := hq.kp c1r
          have HQ := Lib.hid hq
          have ka1 : ∀ o', (wq.alloc o').cell? (⟨g, o + i * 2, none⟩ : Addr) = some (.int .i64 t) := fun o' => (Bel.rf.al o').kp c1
          have HAL := Lib.hid hal
          clear hal c1r
          obtain rfl : a = 0 := by omega
          have HWY : Hid (ins t T = T.take 0 ++ (t :: T.drop 0)) := by show _ = _; rw [ins_at t T 0 (by omega) HAL.out (by intro h; have := HZI.out.1; omega), if_neg (by have := HZI.out.1; omega)]
          have HZF : Hid (∀ W, Bel wq W → Zi W none 0 (T.take 0)) := fun W hW => by rw [List.take_zero]; exact zi_nonet
          have HZD : Hid (∀ W (ad : Option Addr), Bel wq W → Zi W ad 0 (T.drop 0)) := fun W ad hW => by rw [List.drop_of_length_le (by have := HZI.out.1; omega)]; exact zi_nonet
          clear hq hzi hb ha
          go_wp2
          refine wp_region_noPanic ?_
          refine wp_region_held_drew (S := fun W => Bel wq W) (by kernel_rfl) ?_ (fun hH0 => ?_)
          · (try dsimp only); exact (by repeat (first | exact Bel.rf | (with_reducible refine Bel.drwN ?_ _) | (with_reducible refine Bel.drw ?_) | (with_reducible refine Bel.al ?_ _)))
          refine wpAnyH_take (i := 0) (oi := ⟨some 11, .move (.tmp 5), 3, "ref.go:15", #[], none⟩) (v := ?_) rfl (by kernel_rfl) (by kernel_rfl) (by kernel_rfl) (fun _ _ _ h => h) (Or.inl ⟨by first | kernel_rfl | rfl, ?_⟩) (by assumption) ?_
          rotate_left
          · (intro w hSw; (try dsimp only at hSw); go_simp; try with_reducible rfl)
          try simp only [Act.put, List.setIfInBounds_toArray, List.set_cons_zero, List.set_cons_succ]
          refine wpAnyH_take (i := 1) (oi := ⟨some 12, .move (.tmp 3), 22, "ref.go:15", #[], none⟩) (v := ?_) rfl (by kernel_rfl) (by kernel_rfl) (by kernel_rfl) (fun _ _ _ h => h) (Or.inl ⟨by first | kernel_rfl | rfl, ?_⟩) (by assumption) ?_
          rotate_left
          · (intro w hSw; (try dsimp only at hSw); go_simp; try with_reducible rfl)
          try simp only [Act.put, List.setIfInBounds_toArray, List.set_cons_zero, List.set_cons_succ]
          refine wpAnyH_take (i := 2) (oi := ⟨some 13, .call { callee := Callee.builtin Builtin.len, args := #[.tmp 12], argTypes := #[22] }, 3, "ref.go:15", #[⟨1, .data⟩], none⟩) (v := ?_) rfl (by kernel_rfl) (by kernel_rfl) (by kernel_rfl) (fun _ _ _ h => h) (Or.inl ⟨by first | kernel_rfl | rfl, ?_⟩) (by assumption) ?_
          rotate_left
          · (intro w hSw; (try dsimp only at hSw); go_simp; try with_reducible rfl)
          try simp only [Act.put, List.setIfInBounds_toArray, List.set_cons_zero, List.set_cons_succ]
          refine wpAnyH_take (i := 3) (oi := ⟨some 14, .binOp BinOp.lss 3 (.tmp 11) (.tmp 13) 3, 4, "ref.go:15", #[⟨0, .data⟩, ⟨2, .data⟩], none⟩) (v := ?_) rfl (by kernel_rfl) (by kernel_rfl) (by kernel_rfl) (fun _ _ _ h => h) (Or.inl ⟨by first | kernel_rfl | rfl, ?_⟩) (by assumption) ?_
          rotate_left
          · (intro w hSw; (try dsimp only at hSw); go_simp; try with_reducible rfl)
          try simp only [Act.put, List.setIfInBounds_toArray, List.set_cons_zero, List.set_cons_succ]
          refine wpAnyH_take (i := 4) (oi := ⟨some 15, .move (.tmp 14), 4, "ref.go:15", #[⟨3, .data⟩], none⟩) (v := ?_) rfl (by kernel_rfl) (by kernel_rfl) (by kernel_rfl) (fun _ _ _ h => h) (Or.inl ⟨by first | kernel_rfl | rfl, ?_⟩) (by assumption) ?_
          rotate_left
          · (intro w hSw; (try dsimp only at hSw); go_simp; try with_reducible rfl)
          try simp only [Act.put, List.setIfInBounds_toArray, List.set_cons_zero, List.set_cons_succ]
          refine wpAnyH_take (i := 5) (oi := ⟨some 16, .move (.tmp 3), 22, "ref.go:15", #[⟨4, .guard⟩], some (4, Bool.true)⟩) (v := undef) rfl (by kernel_rfl) (by kernel_rfl) (by kernel_rfl) (fun _ _ _ h => h) (Or.inr ⟨by first | kernel_rfl | rfl, rfl⟩) (by assumption) ?_
          try simp only [Act.put, List.setIfInBounds_toArray, List.set_cons_zero, List.set_cons_succ]
          refine wpAnyH_take (i := 6) (oi := ⟨some 17, .move (.tmp 5), 3, "ref.go:15", #[⟨4, .guard⟩], some (4, Bool.true)⟩) (v := undef) rfl (by kernel_rfl) (by kernel_rfl) (by kernel_rfl) (fun _ _ _ h => h) (Or.inr ⟨by first | kernel_rfl | rfl, rfl⟩) (by assumption) ?_
          try simp only [Act.put, List.setIfInBounds_toArray, List.set_cons_zero, List.set_cons_succ]
          refine wpAnyH_take (i := 7) (oi := ⟨some 18, .indexAddr 22 (.tmp 16) (.tmp 17), 0, "ref.go:15", #[⟨5, .data⟩, ⟨6, .data⟩, ⟨4, .guard⟩], some (4, Bool.true)⟩) (v := undef) rfl (by kernel_rfl) (by kernel_rfl) (by kernel_rfl) (fun _ _ _ h => h) (Or.inr ⟨by first | kernel_rfl | rfl, rfl⟩) (by assumption) ?_
          try simp only [Act.put, List.setIfInBounds_toArray, List.set_cons_zero, List.set_cons_succ]
          refine wpAnyH_take (i := 8) (oi := ⟨some 19, .load 3 (.tmp 18), 3, "ref.go:15", #[⟨7, .data⟩, ⟨4, .guard⟩], some (4, Bool.true)⟩) (v := undef) rfl (by kernel_rfl) (by kernel_rfl) (by kernel_rfl) (fun _ _ _ h => h) (Or.inr ⟨by first | kernel_rfl | rfl, rfl⟩) (by assumption) ?_
          try simp only [Act.put, List.setIfInBounds_toArray, List.set_cons_zero, List.set_cons_succ]
          refine wpAnyH_take (i := 9) (oi := ⟨some 20, .move (.tmp 0), 23, "ref.go:15", #[⟨4, .guard⟩], some (4, Bool.true)⟩) (v := undef) rfl (by kernel_rfl) (by kernel_rfl) (by kernel_rfl) (fun _ _ _ h => h) (Or.inr ⟨by first | kernel_rfl | rfl, rfl⟩) (by assumption) ?_
          try simp only [Act.put, List.setIfInBounds_toArray, List.set_cons_zero, List.set_cons_succ]
          refine wpAnyH_take (i := 10) (oi := ⟨some 21, .move (.tmp 4), 3, "ref.go:15", #[⟨4, .guard⟩], some (4, Bool.true)⟩) (v := undef) rfl (by kernel_rfl) (by kernel_rfl) (by kernel_rfl) (fun _ _ _ h => h) (Or.inr ⟨by first | kernel_rfl | rfl, rfl⟩) (by assumption) ?_
          try simp only [Act.put, List.setIfInBounds_toArray, List.set_cons_zero, List.set_cons_succ]
          refine wpAnyH_take (i := 11) (oi := ⟨some 22, .indexAddr 23 (.tmp 20) (.tmp 21), 0, "ref.go:15", #[⟨9, .data⟩, ⟨10, .data⟩, ⟨4, .guard⟩], some (4, Bool.true)⟩) (v := undef) rfl (by kernel_rfl) (by kernel_rfl) (by kernel_rfl) (fun _ _ _ h => h) (Or.inr ⟨by first | kernel_rfl | rfl, rfl⟩) (by assumption) ?_
          try simp only [Act.put, List.setIfInBounds_toArray, List.set_cons_zero, List.set_cons_succ]
          refine wpAnyH_take (i := 12) (oi := ⟨some 23, .fieldAddr 28 (.tmp 22) 0, 0, "ref.go:15", #[⟨11, .data⟩, ⟨4, .guard⟩], some (4, Bool.true)⟩) (v := undef) rfl (by kernel_rfl) (by kernel_rfl) (by kernel_rfl) (fun _ _ _ h => h) (Or.inr ⟨by first | kernel_rfl | rfl, rfl⟩) (by assumption) ?_
          try simp only [Act.put, List.setIfInBounds_toArray, List.set_cons_zero, List.set_cons_succ]
          refine wpAnyH_take (i := 13) (oi := ⟨some 24, .load 3 (.tmp 23), 3, "ref.go:15", #[⟨12, .data⟩, ⟨4, .guard⟩], some (4, Bool.true)⟩) (v := undef) rfl (by kernel_rfl) (by kernel_rfl) (by kernel_rfl) (fun _ _ _ h => h) (Or.inr ⟨by first | kernel_rfl | rfl, rfl⟩) (by assumption) ?_
          try simp only [Act.put, List.setIfInBounds_toArray, List.set_cons_zero, List.set_cons_succ]
          refine wpAnyH_take (i := 14) (oi := ⟨some 25, .binOp BinOp.lss 3 (.tmp 19) (.tmp 24) 3, 4, "ref.go:15", #[⟨8, .data⟩, ⟨13, .data⟩, ⟨4, .guard⟩], some (4, Bool.true)⟩) (v := undef) rfl (by kernel_rfl) (by kernel_rfl) (by kernel_rfl) (fun _ _ _ h => h) (Or.inr ⟨by first | kernel_rfl | rfl, rfl⟩) (by assumption) ?_
          try simp only [Act.put, List.setIfInBounds_toArray, List.set_cons_zero, List.set_cons_succ]
          refine wpAnyH_take (i := 15) (oi := ⟨some 26, .pick (.tmp 15) (.tmp 25) (.const (.bool Bool.false)), 4, "ref.go:15", #[⟨4, .data⟩, ⟨14, .data⟩], none⟩) (v := ?_) rfl (by kernel_rfl) (by kernel_rfl) (by kernel_rfl) (fun _ _ _ h => h) (Or.inl ⟨by first | kernel_rfl | rfl, ?_⟩) (by assumption) ?_
          rotate_left
          · (intro w hSw; (try dsimp only at hSw); go_simp; try with_reducible rfl)
          try simp only [Act.put, List.setIfInBounds_toArray, List.set_cons_zero, List.set_cons_succ]
          refine wpAnyH_done (by kernel_rfl) ?_ _
          refine NoPanic.normal ?_
          go_wp2
          refine wp_region_noPanic ?_
          refine wp_region_held_drew (S := fun W => Bel wq W) (by kernel_rfl) ?_ (fun hH0 => ?_)
          · (try dsimp only); exact (by repeat (first | exact Bel.rf | (with_reducible refine Bel.drwN ?_ _) | (with_reducible refine Bel.drw ?_) | (with_reducible refine Bel.al ?_ _)))
          refine wpAnyH_take (i := 0) (oi := ⟨some 29, .move (.tmp 5), 3, "ref.go:18", #[], none⟩) (v := ?_) rfl (by kernel_rfl) (by kernel_rfl) (by kernel_rfl) (fun _ _ _ h => h) (Or.inl ⟨by first | kernel_rfl | rfl, ?_⟩) (by assumption) ?_
          rotate_left
          · (intro w hSw; (try dsimp only at hSw); go_simp; try with_reducible rfl)
          try simp only [Act.put, List.setIfInBounds_toArray, List.set_cons_zero, List.set_cons_succ]
          refine wpAnyH_take (i := 1) (oi := ⟨some 30, .move (.tmp 3), 22, "ref.go:18", #[], none⟩) (v := ?_) rfl (by kernel_rfl) (by kernel_rfl) (by kernel_rfl) (fun _ _ _ h => h) (Or.inl ⟨by first | kernel_rfl | rfl, ?_⟩) (by assumption) ?_
          rotate_left
          · (intro w hSw; (try dsimp only at hSw); go_simp; try with_reducible rfl)
          try simp only [Act.put, List.setIfInBounds_toArray, List.set_cons_zero, List.set_cons_succ]
          refine wpAnyH_take (i := 2) (oi := ⟨some 31, .call { callee := Callee.builtin Builtin.len, args := #[.tmp 30], argTypes := #[22] }, 3, "ref.go:18", #[⟨1, .data⟩], none⟩) (v := ?_) rfl (by kernel_rfl) (by kernel_rfl) (by kernel_rfl) (fun _ _ _ h => h) (Or.inl ⟨by first | kernel_rfl | rfl, ?_⟩) (by assumption) ?_
          rotate_left
          · (intro w hSw; (try dsimp only at hSw); go_simp; try with_reducible rfl)
          try simp only [Act.put, List.setIfInBounds_toArray, List.set_cons_zero, List.set_cons_succ]
          refine wpAnyH_take (i := 3) (oi := ⟨some 32, .binOp BinOp.eql 3 (.tmp 29) (.tmp 31) 3, 4, "ref.go:18", #[⟨0, .data⟩, ⟨2, .data⟩], none⟩) (v := ?_) rfl (by kernel_rfl) (by kernel_rfl) (by kernel_rfl) (fun _ _ _ h => h) (Or.inl ⟨by first | kernel_rfl | rfl, ?_⟩) (by assumption) ?_
          rotate_left
          · (intro w hSw; (try dsimp only at hSw); go_simp; try with_reducible rfl)
          try simp only [Act.put, List.setIfInBounds_toArray, List.set_cons_zero, List.set_cons_succ]
          refine wpAnyH_take (i := 4) (oi := ⟨some 33, .move (.tmp 32), 4, "ref.go:18", #[⟨3, .data⟩], none⟩) (v := ?_) rfl (by kernel_rfl) (by kernel_rfl) (by kernel_rfl) (fun _ _ _ h => h) (Or.inl ⟨by first | kernel_rfl | rfl, ?_⟩) (by assumption) ?_
          rotate_left
          · (intro w hSw; (try dsimp only at hSw); go_simp; try with_reducible rfl)
          try simp only [Act.put, List.setIfInBounds_toArray, List.set_cons_zero, List.set_cons_succ]
          refine wpAnyH_take (i := 5) (oi := ⟨some 34, .move (.tmp 3), 22, "ref.go:18", #[⟨4, .guard⟩], some (4, Bool.false)⟩) (v := undef) rfl (by kernel_rfl) (by kernel_rfl) (by kernel_rfl) (fun _ _ _ h => h) (Or.inr ⟨by first | kernel_rfl | rfl, rfl⟩) (by assumption) ?_
          try simp only [Act.put, List.setIfInBounds_toArray, List.set_cons_zero, List.set_cons_succ]
          refine wpAnyH_take (i := 6) (oi := ⟨some 35, .move (.tmp 5), 3, "ref.go:18", #[⟨4, .guard⟩], some (4, Bool.false)⟩) (v := undef) rfl (by kernel_rfl) (by kernel_rfl) (by kernel_rfl) (fun _ _ _ h => h) (Or.inr ⟨by first | kernel_rfl | rfl, rfl⟩) (by assumption) ?_
          try simp only [Act.put, List.setIfInBounds_toArray, List.set_cons_zero, List.set_cons_succ]
          refine wpAnyH_take (i := 7) (oi := ⟨some 36, .indexAddr 22 (.tmp 34) (.tmp 35), 0, "ref.go:18", #[⟨5, .data⟩, ⟨6, .data⟩, ⟨4, .guard⟩], some (4, Bool.false)⟩) (v := undef) rfl (by kernel_rfl) (by kernel_rfl) (by kernel_rfl) (fun _ _ _ h => h) (Or.inr ⟨by first | kernel_rfl | rfl, rfl⟩) (by assumption) ?_
          try simp only [Act.put, List.setIfInBounds_toArray, List.set_cons_zero, List.set_cons_succ]
          refine wpAnyH_take (i := 8) (oi := ⟨some 37, .load 3 (.tmp 36), 3, "ref.go:18", #[⟨7, .data⟩, ⟨4, .guard⟩], some (4, Bool.false)⟩) (v := undef) rfl (by kernel_rfl) (by kernel_rfl) (by kernel_rfl) (fun _ _ _ h => h) (Or.inr ⟨by first | kernel_rfl | rfl, rfl⟩) (by assumption) ?_
          try simp only [Act.put, List.setIfInBounds_toArray, List.set_cons_zero, List.set_cons_succ]
          refine wpAnyH_take (i := 9) (oi := ⟨some 38, .move (.tmp 0), 23, "ref.go:18", #[⟨4, .guard⟩], some (4, Bool.false)⟩) (v := undef) rfl (by kernel_rfl) (by kernel_rfl) (by kernel_rfl) (fun _ _ _ h => h) (Or.inr ⟨by first | kernel_rfl | rfl, rfl⟩) (by assumption) ?_
          try simp only [Act.put, List.setIfInBounds_toArray, List.set_cons_zero, List.set_cons_succ]
          refine wpAnyH_take (i := 10) (oi := ⟨some 39, .move (.tmp 4), 3, "ref.go:18", #[⟨4, .guard⟩], some (4, Bool.false)⟩) (v := undef) rfl (by kernel_rfl) (by kernel_rfl) (by kernel_rfl) (fun _ _ _ h => h) (Or.inr ⟨by first | kernel_rfl | rfl, rfl⟩) (by assumption) ?_
          try simp only [Act.put, List.setIfInBounds_toArray, List.set_cons_zero, List.set_cons_succ]
          refine wpAnyH_take (i := 11) (oi := ⟨some 40, .indexAddr 23 (.tmp 38) (.tmp 39), 0, "ref.go:18", #[⟨9, .data⟩, ⟨10, .data⟩, ⟨4, .guard⟩], some (4, Bool.false)⟩) (v := undef) rfl (by kernel_rfl) (by kernel_rfl) (by kernel_rfl) (fun _ _ _ h => h) (Or.inr ⟨by first | kernel_rfl | rfl, rfl⟩) (by assumption) ?_
          try simp only [Act.put, List.setIfInBounds_toArray, List.set_cons_zero, List.set_cons_succ]
          refine wpAnyH_take (i := 12) (oi := ⟨some 41, .fieldAddr 28 (.tmp 40) 0, 0, "ref.go:18", #[⟨11, .data⟩, ⟨4, .guard⟩], some (4, Bool.false)⟩) (v := undef) rfl (by kernel_rfl) (by kernel_rfl) (by kernel_rfl) (fun _ _ _ h => h) (Or.inr ⟨by first | kernel_rfl | rfl, rfl⟩) (by assumption) ?_
          try simp only [Act.put, List.setIfInBounds_toArray, List.set_cons_zero, List.set_cons_succ]
          refine wpAnyH_take (i := 13) (oi := ⟨some 42, .load 3 (.tmp 41), 3, "ref.go:18", #[⟨12, .data⟩, ⟨4, .guard⟩], some (4, Bool.false)⟩) (v := undef) rfl (by kernel_rfl) (by kernel_rfl) (by kernel_rfl) (fun _ _ _ h => h) (Or.inr ⟨by first | kernel_rfl | rfl, rfl⟩) (by assumption) ?_
          try simp only [Act.put, List.setIfInBounds_toArray, List.set_cons_zero, List.set_cons_succ]
          refine wpAnyH_take (i := 14) (oi := ⟨some 43, .binOp BinOp.neq 3 (.tmp 37) (.tmp 42) 3, 4, "ref.go:18", #[⟨8, .data⟩, ⟨13, .data⟩, ⟨4, .guard⟩], some (4, Bool.false)⟩) (v := undef) rfl (by kernel_rfl) (by kernel_rfl) (by kernel_rfl) (fun _ _ _ h => h) (Or.inr ⟨by first | kernel_rfl | rfl, rfl⟩) (by assumption) ?_
          try simp only [Act.put, List.setIfInBounds_toArray, List.set_cons_zero, List.set_cons_succ]
          refine wpAnyH_take (i := 15) (oi := ⟨some 44, .pick (.tmp 33) (.const (.bool Bool.true)) (.tmp 43), 4, "ref.go:18", #[⟨4, .data⟩, ⟨14, .data⟩], none⟩) (v := ?_) rfl (by kernel_rfl) (by kernel_rfl) (by kernel_rfl) (fun _ _ _ h => h) (Or.inl ⟨by first | kernel_rfl | rfl, ?_⟩) (by assumption) ?_
          rotate_left
          · (intro w hSw; (try dsimp only at hSw); go_simp; try with_reducible rfl)
          try simp only [Act.put, List.setIfInBounds_toArray, List.set_cons_zero, List.set_cons_succ]
          refine wpAnyH_done (by kernel_rfl) ?_ _
          refine NoPanic.normal ?_
          go_wp2
          go_region_law (first
            | (refine step_apt _ rfl (.tmp 56) (.tmp 59) rfl wq.heap.size v2 _ _ rfl (own_bel hO2 (by repeat (first | exact Bel.rf | (with_reducible refine Bel.drwN ?_ _) | (with_reducible refine Bel.drw ?_) | (with_reducible refine Bel.al ?_ _)))) _ 0 _ (T.drop 0) (by first | rfl | simp [Act.eval, *]) (HZD.out _ _ (by repeat (first | exact hB2 | (with_reducible refine Bel.drwN ?_ _) | (with_reducible refine Bel.drw ?_) | (with_reducible refine Bel.al ?_ _)))) (by omega) (by have := hB2.size; simp at *; omega) ?_; intro v3 w3 h3 hg3; have hB3 : Bel wq w3 := bel_grt (by repeat (first | exact hB2 | (with_reducible refine Bel.drwN ?_ _) | (with_reducible refine Bel.drw ?_) | (with_reducible refine Bel.al ?_ _))) hg3 (fun q e => (hO2.lt q e).1))
            | (refine step_apt _ rfl (.tmp 49) (.tmp 55) rfl wq.heap.size v1 _ _ rfl (own_bel hO1 (by repeat (first | exact Bel.rf | (with_reducible refine Bel.drwN ?_ _) | (with_reducible refine Bel.drw ?_) | (with_reducible refine Bel.al ?_ _)))) _ 1 1 [t] rfl (by first | (refine Zi.bel (zi_1t (Bk.nq ?_ _ _ ?_)) ?_; rotate_left 2; (repeat (first | (with_reducible exact Bel.rf) | (with_reducible refine Bel.drwN ?_ _) | (with_reducible refine Bel.drw ?_) | (with_reducible refine Bel.al ?_ _))); all_goals first | (simp; done) | (simp [Value.ownBlock]; done)) | (refine Zi.bel (zi_1t (hkA _ ?_ (Bk.bel (Bk.nq ?_ _ _ ?_) ?_))) ?_; rotate_left 4; (repeat (first | (with_reducible exact Bel.rf) | (with_reducible refine Bel.drwN ?_ _) | (with_reducible refine Bel.drw ?_) | (with_reducible refine Bel.al ?_ _))); rotate_left 3; (repeat (first | (with_reducible exact Bel.rf) | (with_reducible refine Bel.drwN ?_ _) | (with_reducible refine Bel.drw ?_) | (with_reducible refine Bel.al ?_ _))); all_goals first | (simp; done) | (simp [Value.ownBlock]; done))) (by omega) (by have := hB1.size; simp at *; omega) ?_; intro v2 w2 hO2 hg2; have hB2 : Bel wq w2 := bel_grt (by repeat (first | exact hB1 | (with_reducible refine Bel.drwN ?_ _) | (with_reducible refine Bel.drw ?_) | (with_reducible refine Bel.al ?_ _))) hg2 (fun q e => (hO1.lt q e).1); have c1b := hB2.kp c1)
            | (refine step_apt _ rfl (.tmp 45) (.tmp 48) rfl wq.heap.size (.slice (some ⟨wq.heap.size, 0, none⟩) 0 0) 0 [] rfl (by refine own_bel (own_madet ?_ _ ?_ ?_) ?_; rotate_left 3; (repeat (first | (with_reducible exact Bel.rf) | (with_reducible refine Bel.drwN ?_ _) | (with_reducible refine Bel.drw ?_) | (with_reducible refine Bel.al ?_ _))); all_goals first | (simp; done) | (simp [Value.ownBlock]; done)) none 0 0 (T.take 0) rfl (HZF.out _ (by repeat (first | exact Bel.rf | (with_reducible refine Bel.drwN ?_ _) | (with_reducible refine Bel.drw ?_) | (with_reducible refine Bel.al ?_ _)))) (by omega) (by first | (simp; done) | (simp; omega)) ?_; intro v1 w1 hO1 hg1; have hB1 : Bel wq w1 := bel_grt (by repeat (first | exact Bel.rf | (with_reducible refine Bel.drwN ?_ _) | (with_reducible refine Bel.drw ?_) | (with_reducible refine Bel.al ?_ _))) hg1 (fun q e => by cases e; simp); have hkA := fun q hq h => bk_grt (g := q) (t := 3) (cs := #[.int .i64 t]) h hg1 hq; have c1a := hB1.kp c1)
            | (refine step_apt _ rfl (.tmp 45) (.tmp 48) rfl wq.heap.size (.slice (some ⟨(wq.heap.size + 1), 0, none⟩) 0 0) 0 [] rfl (by refine own_bel (own_madet ?_ _ ?_ ?_) ?_; rotate_left 3; (repeat (first | (with_reducible exact Bel.rf) | (with_reducible refine Bel.drwN ?_ _) | (with_reducible refine Bel.drw ?_) | (with_reducible refine Bel.al ?_ _))); all_goals first | (simp; done) | (simp [Value.ownBlock]; done)) none 0 0 (T.take 0) rfl (HZF.out _ (by repeat (first | exact Bel.rf | (with_reducible refine Bel.drwN ?_ _) | (with_reducible refine Bel.drw ?_) | (with_reducible refine Bel.al ?_ _)))) (by omega) (by first | (simp; done) | (simp; omega)) ?_; intro v1 w1 hO1 hg1; have hB1 : Bel wq w1 := bel_grt (by repeat (first | exact Bel.rf | (with_reducible refine Bel.drwN ?_ _) | (with_reducible refine Bel.drw ?_) | (with_reducible refine Bel.al ?_ _))) hg1 (fun q e => by cases e; simp); have hkA := fun q hq h => bk_grt (g := q) (t := 3) (cs := #[.int .i64 t]) h hg1 hq; have c1a := hB1.kp c1))
          all_goals
            have hE : 0 + 0 + 1 + 0 = 0 + 1 := by omega
            have hL3 : [] ++ T.take 0 ++ [t] ++ T.drop 0 = uts (l.take (i + 1)) := by rw [HSN.out, HWY.out]; simp
            rw [hE, hL3] at h3
            obtain ⟨B3, c3, rfl, hz3, hs3⟩ := own_ns h3 (by have := HZI.out.1; rw [← hL3]; simp only [List.length_append, List.length_take, List.length_drop, List.length_cons, List.length_nil]; omega)
            have HR3 : Hid (Zi w3 B3 (0 + 1) (uts (l.take (i + 1))) ∧ Ns B3 (0 + 1) c3 ∧ Bel w w3) := ⟨hz3, hs3, (HB.out.tr HQ.out).tr hB3⟩
            clear h3 hg3 hB3 hz3 hs3 hE hL3
            go_wp2
            go_roundw
            case rel => exact ⟨i + 1, _, B3, 0 + 1, c3, rfl, by omega, rfl, by go_num, by exact HR3.out.1.bel (by repeat (first | exact Bel.rf | (with_reducible refine Bel.drwN ?_ _) | (with_reducible refine Bel.drw ?_) | (with_reducible refine Bel.al ?_ _))), HR3.out.2.1, (by repeat (first | exact HR3.out.2.2 | (with_reducible refine Bel.drwN ?_ _) | (with_reducible refine Bel.drw ?_) | (with_reducible refine Bel.al ?_ _)))⟩
            case measure => simp [intOf]; omega
      · go_wp2
        go_loopw [5] (fun s5 wq => ∃ (a : Nat) (V : World), V = wq ∧ a ≤ k ∧ s5 = .int .i64 (a : Int) ∧ (∀ j, j < a → T.getD j 0 < t) ∧ Bel wr wq) (fun s5 _ => k - (intOf s5).toNat)
        case atStart => exact ⟨0, _, rfl, by omega, rfl, fun j hj => by omega, by first | exact Bel.rf | exact Bel.rf.drwN _⟩
        case round =>
          obtain ⟨a, wq, hwq, ha, rfl, hal, hq⟩ := hrel
          subst hwq
          have c1 := hq.kp c1r
          have HQ := Lib.hid hq
          have ka1 : ∀ o', (wq.alloc o').cell? (⟨g, o + i * 2, none⟩ : Addr) = some (.int .i64 t) := fun o' => (Bel.rf.al o').kp c1
          have HAL := Lib.hid hal
          clear hal c1r
          rcases Nat.lt_or_ge a k with hak | hak
          · have c2 := (HZI.out.bel hq).at a hak
            obtain ⟨x, hx⟩ : ∃ x, T.getD a 0 = x := ⟨_, rfl⟩
            rw [hx] at c2
            have HX := Lib.hid hx
            have HKF : Hid (∀ W, Bel wq W → Bel wq W ∧ W.cell? (⟨g, o + i * 2, none⟩ : Addr) = some (.int .i64 t) ∧ W.cell? (⟨gb, a, none⟩ : Addr) = some (.int .i64 x)) := fun W hW => ⟨hW, hW.kp c1, hW.kp c2⟩
            have ai : (a : Int) < (k : Int) := by omega
            have a0 : (0 : Int) ≤ (a : Int) := by omega
            clear hx
            rcases Int.lt_or_le x t with hxt | hxt
            · have dx : decide (x < t) = true := decide_eq_true hxt
              have HAN : Hid (∀ j, j < a + 1 → T.getD j 0 < t) := fun j hj => (Nat.lt_or_ge j a).elim (HAL.out j) (fun h => by rw [show j = a by omega, HX.out]; exact hxt)
              clear hq hzi hb ha
              go_wp2
              refine wp_region_noPanic ?_
              refine wp_region_held_drew (S := fun W => Bel wq W ∧ W.cell? (⟨g, o + i * 2, none⟩ : Addr) = some (.int .i64 t) ∧ W.cell? (⟨gb, a, none⟩ : Addr) = some (.int .i64 x)) (by kernel_rfl) ?_ (fun hH0 => ?_)
              · (try dsimp only); exact HKF.out _ (by repeat (first | exact Bel.rf | (with_reducible refine Bel.drwN ?_ _) | (with_reducible refine Bel.drw ?_) | (with_reducible refine Bel.al ?_ _)))
              refine wpAnyH_take (i := 0) (oi := ⟨some 11, .move (.tmp 5), 3, "ref.go:15", #[], none⟩) (v := ?_) rfl (by kernel_rfl) (by kernel_rfl) (by kernel_rfl) (fun _ _ _ h => h) (Or.inl ⟨by first | kernel_rfl | rfl, ?_⟩) (by assumption) ?_
              rotate_left
              · (intro w hSw; (try dsimp only at hSw); obtain ⟨_, d1, d2⟩ := hSw; go_simp; try with_reducible rfl)
              try simp only [Act.put, List.setIfInBounds_toArray, List.set_cons_zero, List.set_cons_succ]
              refine wpAnyH_take (i := 1) (oi := ⟨some 12, .move (.tmp 3), 22, "ref.go:15", #[], none⟩) (v := ?_) rfl (by kernel_rfl) (by kernel_rfl) (by kernel_rfl) (fun _ _ _ h => h) (Or.inl ⟨by first | kernel_rfl | rfl, ?_⟩) (by assumption) ?_
              rotate_left
              · (intro w hSw; (try dsimp only at hSw); obtain ⟨_, d1, d2⟩ := hSw; go_simp; try with_reducible rfl)
              try simp only [Act.put, List.setIfInBounds_toArray, List.set_cons_zero, List.set_cons_succ]
              refine wpAnyH_take (i := 2) (oi := ⟨some 13, .call { callee := Callee.builtin Builtin.len, args := #[.tmp 12], argTypes := #[22] }, 3, "ref.go:15", #[⟨1, .data⟩], none⟩) (v := ?_) rfl (by kernel_rfl) (by kernel_rfl) (by kernel_rfl) (fun _ _ _ h => h) (Or.inl ⟨by first | kernel_rfl | rfl, ?_⟩) (by assumption) ?_
              rotate_left
              · (intro w hSw; (try dsimp only at hSw); obtain ⟨_, d1, d2⟩ := hSw; go_simp; try with_reducible rfl)
              try simp only [Act.put, List.setIfInBounds_toArray, List.set_cons_zero, List.set_cons_succ]
              refine wpAnyH_take (i := 3) (oi := ⟨some 14, .binOp BinOp.lss 3 (.tmp 11) (.tmp 13) 3, 4, "ref.go:15", #[⟨0, .data⟩, ⟨2, .data⟩], none⟩) (v := ?_) rfl (by kernel_rfl) (by kernel_rfl) (by kernel_rfl) (fun _ _ _ h => h) (Or.inl ⟨by first | kernel_rfl | rfl, ?_⟩) (by assumption) ?_
              rotate_left
              · (intro w hSw; (try dsimp only at hSw); obtain ⟨_, d1, d2⟩ := hSw; go_simp; try with_reducible rfl)
              try simp only [Act.put, List.setIfInBounds_toArray, List.set_cons_zero, List.set_cons_succ]
              refine wpAnyH_take (i := 4) (oi := ⟨some 15, .move (.tmp 14), 4, "ref.go:15", #[⟨3, .data⟩], none⟩) (v := ?_) rfl (by kernel_rfl) (by kernel_rfl) (by kernel_rfl) (fun _ _ _ h => h) (Or.inl ⟨by first | kernel_rfl | rfl, ?_⟩) (by assumption) ?_
              rotate_left
              · (intro w hSw; (try dsimp only at hSw); obtain ⟨_, d1, d2⟩ := hSw; go_simp; try with_reducible rfl)
              try simp only [Act.put, List.setIfInBounds_toArray, List.set_cons_zero, List.set_cons_succ]
              refine wpAnyH_take (i := 5) (oi := ⟨some 16, .move (.tmp 3), 22, "ref.go:15", #[⟨4, .guard⟩], some (4, Bool.true)⟩) (v := ?_) rfl (by kernel_rfl) (by kernel_rfl) (by kernel_rfl) (fun _ _ _ h => h) (Or.inl ⟨by first | kernel_rfl | rfl, ?_⟩) (by assumption) ?_
              rotate_left
              · (intro w hSw; (try dsimp only at hSw); obtain ⟨_, d1, d2⟩ := hSw; go_simp; try with_reducible rfl)
              try simp only [Act.put, List.setIfInBounds_toArray, List.set_cons_zero, List.set_cons_succ]
              refine wpAnyH_take (i := 6) (oi := ⟨some 17, .move (.tmp 5), 3, "ref.go:15", #[⟨4, .guard⟩], some (4, Bool.true)⟩) (v := ?_) rfl (by kernel_rfl) (by kernel_rfl) (by kernel_rfl) (fun _ _ _ h => h) (Or.inl ⟨by first | kernel_rfl | rfl, ?_⟩) (by assumption) ?_
              rotate_left
              · (intro w hSw; (try dsimp only at hSw); obtain ⟨_, d1, d2⟩ := hSw; go_simp; try with_reducible rfl)
              try simp only [Act.put, List.setIfInBounds_toArray, List.set_cons_zero, List.set_cons_succ]
              refine wpAnyH_take (i := 7) (oi := ⟨some 18, .indexAddr 22 (.tmp 16) (.tmp 17), 0, "ref.go:15", #[⟨5, .data⟩, ⟨6, .data⟩, ⟨4, .guard⟩], some (4, Bool.true)⟩) (v := ?_) rfl (by kernel_rfl) (by kernel_rfl) (by kernel_rfl) (fun _ _ _ h => h) (Or.inl ⟨by first | kernel_rfl | rfl, ?_⟩) (by assumption) ?_
              rotate_left
              · (intro w hSw; (try dsimp only at hSw); obtain ⟨_, d1, d2⟩ := hSw; go_simp; try with_reducible rfl)
              try simp only [Act.put, List.setIfInBounds_toArray, List.set_cons_zero, List.set_cons_succ]
              refine wpAnyH_take (i := 8) (oi := ⟨some 19, .load 3 (.tmp 18), 3, "ref.go:15", #[⟨7, .data⟩, ⟨4, .guard⟩], some (4, Bool.true)⟩) (v := ?_) rfl (by kernel_rfl) (by kernel_rfl) (by kernel_rfl) (fun _ _ _ h => h) (Or.inl ⟨by first | kernel_rfl | rfl, ?_⟩) (by assumption) ?_
              rotate_left
              · (intro w hSw; (try dsimp only at hSw); obtain ⟨_, d1, d2⟩ := hSw; go_simp; try with_reducible rfl)
              try simp only [Act.put, List.setIfInBounds_toArray, List.set_cons_zero, List.set_cons_succ]
              refine wpAnyH_take (i := 9) (oi := ⟨some 20, .move (.tmp 0), 23, "ref.go:15", #[⟨4, .guard⟩], some (4, Bool.true)⟩) (v := ?_) rfl (by kernel_rfl) (by kernel_rfl) (by kernel_rfl) (fun _ _ _ h => h) (Or.inl ⟨by first | kernel_rfl | rfl, ?_⟩) (by assumption) ?_
              rotate_left
              · (intro w hSw; (try dsimp only at hSw); obtain ⟨_, d1, d2⟩ := hSw; go_simp; try with_reducible rfl)
              try simp only [Act.put, List.setIfInBounds_toArray, List.set_cons_zero, List.set_cons_succ]
              refine wpAnyH_take (i := 10) (oi := ⟨some 21, .move (.tmp 4), 3, "ref.go:15", #[⟨4, .guard⟩], some (4, Bool.true)⟩) (v := ?_) rfl (by kernel_rfl) (by kernel_rfl) (by kernel_rfl) (fun _ _ _ h => h) (Or.inl ⟨by first | kernel_rfl | rfl, ?_⟩) (by assumption) ?_
              rotate_left
              · (intro w hSw; (try dsimp only at hSw); obtain ⟨_, d1, d2⟩ := hSw; go_simp; try with_reducible rfl)
              try simp only [Act.put, List.setIfInBounds_toArray, List.set_cons_zero, List.set_cons_succ]
              refine wpAnyH_take (i := 11) (oi := ⟨some 22, .indexAddr 23 (.tmp 20) (.tmp 21), 0, "ref.go:15", #[⟨9, .data⟩, ⟨10, .data⟩, ⟨4, .guard⟩], some (4, Bool.true)⟩) (v := ?_) rfl (by kernel_rfl) (by kernel_rfl) (by kernel_rfl) (fun _ _ _ h => h) (Or.inl ⟨by first | kernel_rfl | rfl, ?_⟩) (by assumption) ?_
              rotate_left
              · (intro w hSw; (try dsimp only at hSw); obtain ⟨_, d1, d2⟩ := hSw; go_simp; try with_reducible rfl)
              try simp only [Act.put, List.setIfInBounds_toArray, List.set_cons_zero, List.set_cons_succ]
              refine wpAnyH_take (i := 12) (oi := ⟨some 23, .fieldAddr 28 (.tmp 22) 0, 0, "ref.go:15", #[⟨11, .data⟩, ⟨4, .guard⟩], some (4, Bool.true)⟩) (v := ?_) rfl (by kernel_rfl) (by kernel_rfl) (by kernel_rfl) (fun _ _ _ h => h) (Or.inl ⟨by first | kernel_rfl | rfl, ?_⟩) (by assumption) ?_
              rotate_left
              · (intro w hSw; (try dsimp only at hSw); obtain ⟨_, d1, d2⟩ := hSw; go_simp; try with_reducible rfl)
              try simp only [Act.put, List.setIfInBounds_toArray, List.set_cons_zero, List.set_cons_succ]
              refine wpAnyH_take (i := 13) (oi := ⟨some 24, .load 3 (.tmp 23), 3, "ref.go:15", #[⟨12, .data⟩, ⟨4, .guard⟩], some (4, Bool.true)⟩) (v := ?_) rfl (by kernel_rfl) (by kernel_rfl) (by kernel_rfl) (fun _ _ _ h => h) (Or.inl ⟨by first | kernel_rfl | rfl, ?_⟩) (by assumption) ?_
              rotate_left
              · (intro w hSw; (try dsimp only at hSw); obtain ⟨_, d1, d2⟩ := hSw; go_simp; try with_reducible rfl)
              try simp only [Act.put, List.setIfInBounds_toArray, List.set_cons_zero, List.set_cons_succ]
              refine wpAnyH_take (i := 14) (oi := ⟨some 25, .binOp BinOp.lss 3 (.tmp 19) (.tmp 24) 3, 4, "ref.go:15", #[⟨8, .data⟩, ⟨13, .data⟩, ⟨4, .guard⟩], some (4, Bool.true)⟩) (v := ?_) rfl (by kernel_rfl) (by kernel_rfl) (by kernel_rfl) (fun _ _ _ h => h) (Or.inl ⟨by first | kernel_rfl | rfl, ?_⟩) (by assumption) ?_
              rotate_left
              · (intro w hSw; (try dsimp only at hSw); obtain ⟨_, d1, d2⟩ := hSw; go_simp; try with_reducible rfl)
              try simp only [Act.put, List.setIfInBounds_toArray, List.set_cons_zero, List.set_cons_succ]
              refine wpAnyH_take (i := 15) (oi := ⟨some 26, .pick (.tmp 15) (.tmp 25) (.const (.bool Bool.false)), 4, "ref.go:15", #[⟨4, .data⟩, ⟨14, .data⟩], none⟩) (v := ?_) rfl (by kernel_rfl) (by kernel_rfl) (by kernel_rfl) (fun _ _ _ h => h) (Or.inl ⟨by first | kernel_rfl | rfl, ?_⟩) (by assumption) ?_
              rotate_left
              · (intro w hSw; (try dsimp only at hSw); obtain ⟨_, d1, d2⟩ := hSw; go_simp; try with_reducible rfl)
              try simp only [Act.put, List.setIfInBounds_toArray, List.set_cons_zero, List.set_cons_succ]
              refine wpAnyH_done (by kernel_rfl) ?_ _
              refine NoPanic.normal ?_
              go_wp2
              go_roundw
              case rel => exact ⟨a + 1, _, rfl, by omega, by go_num, HAN.out, by repeat (first | exact HQ.out | (with_reducible refine Bel.drwN ?_ _) | (with_reducible refine Bel.drw ?_) | (with_reducible refine Bel.al ?_ _))⟩
              case measure => simp [intOf]; omega
            · have dx : decide (x < t) = false := decide_eq_false (by omega)
              have nx : ¬ x < t := by omega
              by_cases hxe : x = t
              · subst hxe
                have nn := ne_self x
                have ake : ¬ a = k := by omega
                have ake2 : ((a : Int) == (k : Int)) = false := by simp; omega
                have HSE : Hid (uts (l.take (i + 1)) = T) := by show _ = _; rw [HSN.out, ins_at x T a (by have := HZI.out.1; omega) HAL.out (by rw [HX.out]; intro _; omega), if_pos ⟨by have := HZI.out.1; omega, HX.out⟩]
                have HR3 : Hid (Zi wq (some ⟨gb, 0, none⟩) k T ∧ Bel w wq) := ⟨HZI.out.bel HQ.out, HB.out.tr HQ.out⟩
                clear hq hzi hb ha
                go_wp2
                refine wp_region_noPanic ?_
                refine wp_region_held_drew (S := fun W => Bel wq W ∧ W.cell? (⟨g, o + i * 2, none⟩ : Addr) = some (.int .i64 x) ∧ W.cell? (⟨gb, a, none⟩ : Addr) = some (.int .i64 x)) (by kernel_rfl) ?_ (fun hH0 => ?_)
                · (try dsimp only); exact HKF.out _ (by repeat (first | exact Bel.rf | (with_reducible refine Bel.drwN ?_ _) | (with_reducible refine Bel.drw ?_) | (with_reducible refine Bel.al ?_ _)))
                refine wpAnyH_take (i := 0) (oi := ⟨some 11, .move (.tmp 5), 3, "ref.go:15", #[], none⟩) (v := ?_) rfl (by kernel_rfl) (by kernel_rfl) (by kernel_rfl) (fun _ _ _ h => h) (Or.inl ⟨by first | kernel_rfl | rfl, ?_⟩) (by assumption) ?_
                rotate_left
                · (intro w hSw; (try dsimp only at hSw); obtain ⟨_, d1, d2⟩ := hSw; go_simp; try with_reducible rfl)
                try simp only [Act.put, List.setIfInBounds_toArray, List.set_cons_zero, List.set_cons_succ]
                refine wpAnyH_take (i := 1) (oi := ⟨some 12, .move (.tmp 3), 22, "ref.go:15", #[], none⟩) (v := ?_) rfl (by kernel_rfl) (by kernel_rfl) (by kernel_rfl) (fun _ _ _ h => h) (Or.inl ⟨by first | kernel_rfl | rfl, ?_⟩) (by assumption) ?_
                rotate_left
                · (intro w hSw; (try dsimp only at hSw); obtain ⟨_, d1, d2⟩ := hSw; go_simp; try with_reducible rfl)
                try simp only [Act.put, List.setIfInBounds_toArray, List.set_cons_zero, List.set_cons_succ]
                refine wpAnyH_take (i := 2) (oi := ⟨some 13, .call { callee := Callee.builtin Builtin.len, args := #[.tmp 12], argTypes := #[22] }, 3, "ref.go:15", #[⟨1, .data⟩], none⟩) (v := ?_) rfl (by kernel_rfl) (by kernel_rfl) (by kernel_rfl) (fun _ _ _ h => h) (Or.inl ⟨by first | kernel_rfl | rfl, ?_⟩) (by assumption) ?_
                rotate_left
                · (intro w hSw; (try dsimp only at hSw); obtain ⟨_, d1, d2⟩ := hSw; go_simp; try with_reducible rfl)
                try simp only [Act.put, List.setIfInBounds_toArray, List.set_cons_zero, List.set_cons_succ]
                refine wpAnyH_take (i := 3) (oi := ⟨some 14, .binOp BinOp.lss 3 (.tmp 11) (.tmp 13) 3, 4, "ref.go:15", #[⟨0, .data⟩, ⟨2, .data⟩], none⟩) (v := ?_) rfl (by kernel_rfl) (by kernel_rfl) (by kernel_rfl) (fun _ _ _ h => h) (Or.inl ⟨by first | kernel_rfl | rfl, ?_⟩) (by assumption) ?_
                rotate_left
                · (intro w hSw; (try dsimp only at hSw); obtain ⟨_, d1, d2⟩ := hSw; go_simp; try with_reducible rfl)
                try simp only [Act.put, List.setIfInBounds_toArray, List.set_cons_zero, List.set_cons_succ]
                refine wpAnyH_take (i := 4) (oi := ⟨some 15, .move (.tmp 14), 4, "ref.go:15", #[⟨3, .data⟩], none⟩) (v := ?_) rfl (by kernel_rfl) (by kernel_rfl) (by kernel_rfl) (fun _ _ _ h => h) (Or.inl ⟨by first | kernel_rfl | rfl, ?_⟩) (by assumption) ?_
                rotate_left
                · (intro w hSw; (try dsimp only at hSw); obtain ⟨_, d1, d2⟩ := hSw; go_simp; try with_reducible rfl)
                try simp only [Act.put, List.setIfInBounds_toArray, List.set_cons_zero, List.set_cons_succ]
                refine wpAnyH_take (i := 5) (oi := ⟨some 16, .move (.tmp 3), 22, "ref.go:15", #[⟨4, .guard⟩], some (4, Bool.true)⟩) (v := ?_) rfl (by kernel_rfl) (by kernel_rfl) (by kernel_rfl) (fun _ _ _ h => h) (Or.inl ⟨by first | kernel_rfl | rfl, ?_⟩) (by assumption) ?_
                rotate_left
                · (intro w hSw; (try dsimp only at hSw); obtain ⟨_, d1, d2⟩ := hSw; go_simp; try with_reducible rfl)
                try simp only [Act.put, List.setIfInBounds_toArray, List.set_cons_zero, List.set_cons_succ]
                refine wpAnyH_take (i := 6) (oi := ⟨some 17, .move (.tmp 5), 3, "ref.go:15", #[⟨4, .guard⟩], some (4, Bool.true)⟩) (v := ?_) rfl (by kernel_rfl) (by kernel_rfl) (by kernel_rfl) (fun _ _ _ h => h) (Or.inl ⟨by first | kernel_rfl | rfl, ?_⟩) (by assumption) ?_
                rotate_left
                · (intro w hSw; (try dsimp only at hSw); obtain ⟨_, d1, d2⟩ := hSw; go_simp; try with_reducible rfl)
                try simp only [Act.put, List.setIfInBounds_toArray, List.set_cons_zero, List.set_cons_succ]
                refine wpAnyH_take (i := 7) (oi := ⟨some 18, .indexAddr 22 (.tmp 16) (.tmp 17), 0, "ref.go:15", #[⟨5, .data⟩, ⟨6, .data⟩, ⟨4, .guard⟩], some (4, Bool.true)⟩) (v := ?_) rfl (by kernel_rfl) (by kernel_rfl) (by kernel_rfl) (fun _ _ _ h => h) (Or.inl ⟨by first | kernel_rfl | rfl, ?_⟩) (by assumption) ?_
                rotate_left
                · (intro w hSw; (try dsimp only at hSw); obtain ⟨_, d1, d2⟩ := hSw; go_simp; try with_reducible rfl)
                try simp only [Act.put, List.setIfInBounds_toArray, List.set_cons_zero, List.set_cons_succ]
                refine wpAnyH_take (i := 8) (oi := ⟨some 19, .load 3 (.tmp 18), 3, "ref.go:15", #[⟨7, .data⟩, ⟨4, .guard⟩], some (4, Bool.true)⟩) (v := ?_) rfl (by kernel_rfl) (by kernel_rfl) (by kernel_rfl) (fun _ _ _ h => h) (Or.inl ⟨by first | kernel_rfl | rfl, ?_⟩) (by assumption) ?_
                rotate_left
                · (intro w hSw; (try dsimp only at hSw); obtain ⟨_, d1, d2⟩ := hSw; go_simp; try with_reducible rfl)
                try simp only [Act.put, List.setIfInBounds_toArray, List.set_cons_zero, List.set_cons_succ]
                refine wpAnyH_take (i := 9) (oi := ⟨some 20, .move (.tmp 0), 23, "ref.go:15", #[⟨4, .guard⟩], some (4, Bool.true)⟩) (v := ?_) rfl (by kernel_rfl) (by kernel_rfl) (by kernel_rfl) (fun _ _ _ h => h) (Or.inl ⟨by first | kernel_rfl | rfl, ?_⟩) (by assumption) ?_
                rotate_left
                · (intro w hSw; (try dsimp only at hSw); obtain ⟨_, d1, d2⟩ := hSw; go_simp; try with_reducible rfl)
                try simp only [Act.put, List.setIfInBounds_toArray, List.set_cons_zero, List.set_cons_succ]
                refine wpAnyH_take (i := 10) (oi := ⟨some 21, .move (.tmp 4), 3, "ref.go:15", #[⟨4, .guard⟩], some (4, Bool.true)⟩) (v := ?_) rfl (by kernel_rfl) (by kernel_rfl) (by kernel_rfl) (fun _ _ _ h => h) (Or.inl ⟨by first | kernel_rfl | rfl, ?_⟩) (by assumption) ?_
                rotate_left
                · (intro w hSw; (try dsimp only at hSw); obtain ⟨_, d1, d2⟩ := hSw; go_simp; try with_reducible rfl)
                try simp only [Act.put, List.setIfInBounds_toArray, List.set_cons_zero, List.set_cons_succ]
                refine wpAnyH_take (i := 11) (oi := ⟨some 22, .indexAddr 23 (.tmp 20) (.tmp 21), 0, "ref.go:15", #[⟨9, .data⟩, ⟨10, .data⟩, ⟨4, .guard⟩], some (4, Bool.true)⟩) (v := ?_) rfl (by kernel_rfl) (by kernel_rfl) (by kernel_rfl) (fun _ _ _ h => h) (Or.inl ⟨by first | kernel_rfl | rfl, ?_⟩) (by assumption) ?_
                rotate_left
                · (intro w hSw; (try dsimp only at hSw); obtain ⟨_, d1, d2⟩ := hSw; go_simp; try with_reducible rfl)
                try simp only [Act.put, List.setIfInBounds_toArray, List.set_cons_zero, List.set_cons_succ]
                refine wpAnyH_take (i := 12) (oi := ⟨some 23, .fieldAddr 28 (.tmp 22) 0, 0, "ref.go:15", #[⟨11, .data⟩, ⟨4, .guard⟩], some (4, Bool.true)⟩) (v := ?_) rfl (by kernel_rfl) (by kernel_rfl) (by kernel_rfl) (fun _ _ _ h => h) (Or.inl ⟨by first | kernel_rfl | rfl, ?_⟩) (by assumption) ?_
                rotate_left
                · (intro w hSw; (try dsimp only at hSw); obtain ⟨_, d1, d2⟩ := hSw; go_simp; try with_reducible rfl)
                try simp only [Act.put, List.setIfInBounds_toArray, List.set_cons_zero, List.set_cons_succ]
                refine wpAnyH_take (i := 13) (oi := ⟨some 24, .load 3 (.tmp 23), 3, "ref.go:15", #[⟨12, .data⟩, ⟨4, .guard⟩], some (4, Bool.true)⟩) (v := ?_) rfl (by kernel_rfl) (by kernel_rfl) (by kernel_rfl) (fun _ _ _ h => h) (Or.inl ⟨by first | kernel_rfl | rfl, ?_⟩) (by assumption) ?_
                rotate_left
                · (intro w hSw; (try dsimp only at hSw); obtain ⟨_, d1, d2⟩ := hSw; go_simp; try with_reducible rfl)
                try simp only [Act.put, List.setIfInBounds_toArray, List.set_cons_zero, List.set_cons_succ]
                refine wpAnyH_take (i := 14) (oi := ⟨some 25, .binOp BinOp.lss 3 (.tmp 19) (.tmp 24) 3, 4, "ref.go:15", #[⟨8, .data⟩, ⟨13, .data⟩, ⟨4, .guard⟩], some (4, Bool.true)⟩) (v := ?_) rfl (by kernel_rfl) (by kernel_rfl) (by kernel_rfl) (fun _ _ _ h => h) (Or.inl ⟨by first | kernel_rfl | rfl, ?_⟩) (by assumption) ?_
                rotate_left
                · (intro w hSw; (try dsimp only at hSw); obtain ⟨_, d1, d2⟩ := hSw; go_simp; try with_reducible rfl)
                try simp only [Act.put, List.setIfInBounds_toArray, List.set_cons_zero, List.set_cons_succ]
                refine wpAnyH_take (i := 15) (oi := ⟨some 26, .pick (.tmp 15) (.tmp 25) (.const (.bool Bool.false)), 4, "ref.go:15", #[⟨4, .data⟩, ⟨14, .data⟩], none⟩) (v := ?_) rfl (by kernel_rfl) (by kernel_rfl) (by kernel_rfl) (fun _ _ _ h => h) (Or.inl ⟨by first | kernel_rfl | rfl, ?_⟩) (by assumption) ?_
                rotate_left
                · (intro w hSw; (try dsimp only at hSw); obtain ⟨_, d1, d2⟩ := hSw; go_simp; try with_reducible rfl)
                try simp only [Act.put, List.setIfInBounds_toArray, List.set_cons_zero, List.set_cons_succ]
                refine wpAnyH_done (by kernel_rfl) ?_ _
                refine NoPanic.normal ?_
                go_wp2
                refine wp_region_noPanic ?_
                refine wp_region_held_drew (S := fun W => Bel wq W ∧ W.cell? (⟨g, o + i * 2, none⟩ : Addr) = some (.int .i64 x) ∧ W.cell? (⟨gb, a, none⟩ : Addr) = some (.int .i64 x)) (by kernel_rfl) ?_ (fun hH0 => ?_)
                · (try dsimp only); exact HKF.out _ (by repeat (first | exact Bel.rf | (with_reducible refine Bel.drwN ?_ _) | (with_reducible refine Bel.drw ?_) | (with_reducible refine Bel.al ?_ _)))
                refine wpAnyH_take (i := 0) (oi := ⟨some 29, .move (.tmp 5), 3, "ref.go:18", #[], none⟩) (v := ?_) rfl (by kernel_rfl) (by kernel_rfl) (by kernel_rfl) (fun _ _ _ h => h) (Or.inl ⟨by first | kernel_rfl | rfl, ?_⟩) (by assumption) ?_
                rotate_left
                · (intro w hSw; (try dsimp only at hSw); obtain ⟨_, d1, d2⟩ := hSw; go_simp; try with_reducible rfl)
                try simp only [Act.put, List.setIfInBounds_toArray, List.set_cons_zero, List.set_cons_succ]
                refine wpAnyH_take (i := 1) (oi := ⟨some 30, .move (.tmp 3), 22, "ref.go:18", #[], none⟩) (v := ?_) rfl (by kernel_rfl) (by kernel_rfl) (by kernel_rfl) (fun _ _ _ h => h) (Or.inl ⟨by first | kernel_rfl | rfl, ?_⟩) (by assumption) ?_
                rotate_left
                · (intro w hSw; (try dsimp only at hSw); obtain ⟨_, d1, d2⟩ := hSw; go_simp; try with_reducible rfl)
                try simp only [Act.put, List.setIfInBounds_toArray, List.set_cons_zero, List.set_cons_succ]
                refine wpAnyH_take (i := 2) (oi := ⟨some 31, .call { callee := Callee.builtin Builtin.len, args := #[.tmp 30], argTypes := #[22] }, 3, "ref.go:18", #[⟨1, .data⟩], none⟩) (v := ?_) rfl (by kernel_rfl) (by kernel_rfl) (by kernel_rfl) (fun _ _ _ h => h) (Or.inl ⟨by first | kernel_rfl | rfl, ?_⟩) (by assumption) ?_
                rotate_left
                · (intro w hSw; (try dsimp only at hSw); obtain ⟨_, d1, d2⟩ := hSw; go_simp; try with_reducible rfl)
                try simp only [Act.put, List.setIfInBounds_toArray, List.set_cons_zero, List.set_cons_succ]
                refine wpAnyH_take (i := 3) (oi := ⟨some 32, .binOp BinOp.eql 3 (.tmp 29) (.tmp 31) 3, 4, "ref.go:18", #[⟨0, .data⟩, ⟨2, .data⟩], none⟩) (v := ?_) rfl (by kernel_rfl) (by kernel_rfl) (by kernel_rfl) (fun _ _ _ h => h) (Or.inl ⟨by first | kernel_rfl | rfl, ?_⟩) (by assumption) ?_
                rotate_left
                · (intro w hSw; (try dsimp only at hSw); obtain ⟨_, d1, d2⟩ := hSw; go_simp; try with_reducible rfl)
                try simp only [Act.put, List.setIfInBounds_toArray, List.set_cons_zero, List.set_cons_succ]
                refine wpAnyH_take (i := 4) (oi := ⟨some 33, .move (.tmp 32), 4, "ref.go:18", #[⟨3, .data⟩], none⟩) (v := ?_) rfl (by kernel_rfl) (by kernel_rfl) (by kernel_rfl) (fun _ _ _ h => h) (Or.inl ⟨by first | kernel_rfl | rfl, ?_⟩) (by assumption) ?_
                rotate_left
                · (intro w hSw; (try dsimp only at hSw); obtain ⟨_, d1, d2⟩ := hSw; go_simp; try with_reducible rfl)
                try simp only [Act.put, List.setIfInBounds_toArray, List.set_cons_zero, List.set_cons_succ]
                refine wpAnyH_take (i := 5) (oi := ⟨some 34, .move (.tmp 3), 22, "ref.go:18", #[⟨4, .guard⟩], some (4, Bool.false)⟩) (v := ?_) rfl (by kernel_rfl) (by kernel_rfl) (by kernel_rfl) (fun _ _ _ h => h) (Or.inl ⟨by first | kernel_rfl | rfl, ?_⟩) (by assumption) ?_
                rotate_left
                · (intro w hSw; (try dsimp only at hSw); obtain ⟨_, d1, d2⟩ := hSw; go_simp; try with_reducible rfl)
                try simp only [Act.put, List.setIfInBounds_toArray, List.set_cons_zero, List.set_cons_succ]
                refine wpAnyH_take (i := 6) (oi := ⟨some 35, .move (.tmp 5), 3, "ref.go:18", #[⟨4, .guard⟩], some (4, Bool.false)⟩) (v := ?_) rfl (by kernel_rfl) (by kernel_rfl) (by kernel_rfl) (fun _ _ _ h => h) (Or.inl ⟨by first | kernel_rfl | rfl, ?_⟩) (by assumption) ?_
                rotate_left
                · (intro w hSw; (try dsimp only at hSw); obtain ⟨_, d1, d2⟩ := hSw; go_simp; try with_reducible rfl)
                try simp only [Act.put, List.setIfInBounds_toArray, List.set_cons_zero, List.set_cons_succ]
                refine wpAnyH_take (i := 7) (oi := ⟨some 36, .indexAddr 22 (.tmp 34) (.tmp 35), 0, "ref.go:18", #[⟨5, .data⟩, ⟨6, .data⟩, ⟨4, .guard⟩], some (4, Bool.false)⟩) (v := ?_) rfl (by kernel_rfl) (by kernel_rfl) (by kernel_rfl) (fun _ _ _ h => h) (Or.inl ⟨by first | kernel_rfl | rfl, ?_⟩) (by assumption) ?_
                rotate_left
                · (intro w hSw; (try dsimp only at hSw); obtain ⟨_, d1, d2⟩ := hSw; go_simp; try with_reducible rfl)
                try simp only [Act.put, List.setIfInBounds_toArray, List.set_cons_zero, List.set_cons_succ]
                refine wpAnyH_take (i := 8) (oi := ⟨some 37, .load 3 (.tmp 36), 3, "ref.go:18", #[⟨7, .data⟩, ⟨4, .guard⟩], some (4, Bool.false)⟩) (v := ?_) rfl (by kernel_rfl) (by kernel_rfl) (by kernel_rfl) (fun _ _ _ h => h) (Or.inl ⟨by first | kernel_rfl | rfl, ?_⟩) (by assumption) ?_
                rotate_left
                · (intro w hSw; (try dsimp only at hSw); obtain ⟨_, d1, d2⟩ := hSw; go_simp; try with_reducible rfl)
                try simp only [Act.put, List.setIfInBounds_toArray, List.set_cons_zero, List.set_cons_succ]
                refine wpAnyH_take (i := 9) (oi := ⟨some 38, .move (.tmp 0), 23, "ref.go:18", #[⟨4, .guard⟩], some (4, Bool.false)⟩) (v := ?_) rfl (by kernel_rfl) (by kernel_rfl) (by kernel_rfl) (fun _ _ _ h => h) (Or.inl ⟨by first | kernel_rfl | rfl, ?_⟩) (by assumption) ?_
                rotate_left
                · (intro w hSw; (try dsimp only at hSw); obtain ⟨_, d1, d2⟩ := hSw; go_simp; try with_reducible rfl)
                try simp only [Act.put, List.setIfInBounds_toArray, List.set_cons_zero, List.set_cons_succ]
                refine wpAnyH_take (i := 10) (oi := ⟨some 39, .move (.tmp 4), 3, "ref.go:18", #[⟨4, .guard⟩], some (4, Bool.false)⟩) (v := ?_) rfl (by kernel_rfl) (by kernel_rfl) (by kernel_rfl) (fun _ _ _ h => h) (Or.inl ⟨by first | kernel_rfl | rfl, ?_⟩) (by assumption) ?_
                rotate_left
                · (intro w hSw; (try dsimp only at hSw); obtain ⟨_, d1, d2⟩ := hSw; go_simp; try with_reducible rfl)
                try simp only [Act.put, List.setIfInBounds_toArray, List.set_cons_zero, List.set_cons_succ]
                refine wpAnyH_take (i := 11) (oi := ⟨some 40, .indexAddr 23 (.tmp 38) (.tmp 39), 0, "ref.go:18", #[⟨9, .data⟩, ⟨10, .data⟩, ⟨4, .guard⟩], some (4, Bool.false)⟩) (v := ?_) rfl (by kernel_rfl) (by kernel_rfl) (by kernel_rfl) (fun _ _ _ h => h) (Or.inl ⟨by first | kernel_rfl | rfl, ?_⟩) (by assumption) ?_
                rotate_left
                · (intro w hSw; (try dsimp only at hSw); obtain ⟨_, d1, d2⟩ := hSw; go_simp; try with_reducible rfl)
                try simp only [Act.put, List.setIfInBounds_toArray, List.set_cons_zero, List.set_cons_succ]
                refine wpAnyH_take (i := 12) (oi := ⟨some 41, .fieldAddr 28 (.tmp 40) 0, 0, "ref.go:18", #[⟨11, .data⟩, ⟨4, .guard⟩], some (4, Bool.false)⟩) (v := ?_) rfl (by kernel_rfl) (by kernel_rfl) (by kernel_rfl) (fun _ _ _ h => h) (Or.inl ⟨by first | kernel_rfl | rfl, ?_⟩) (by assumption) ?_
                rotate_left
                · (intro w hSw; (try dsimp only at hSw); obtain ⟨_, d1, d2⟩ := hSw; go_simp; try with_reducible rfl)
                try simp only [Act.put, List.setIfInBounds_toArray, List.set_cons_zero, List.set_cons_succ]
                refine wpAnyH_take (i := 13) (oi := ⟨some 42, .load 3 (.tmp 41), 3, "ref.go:18", #[⟨12, .data⟩, ⟨4, .guard⟩], some (4, Bool.false)⟩) (v := ?_) rfl (by kernel_rfl) (by kernel_rfl) (by kernel_rfl) (fun _ _ _ h => h) (Or.inl ⟨by first | kernel_rfl | rfl, ?_⟩) (by assumption) ?_
                rotate_left
                · (intro w hSw; (try dsimp only at hSw); obtain ⟨_, d1, d2⟩ := hSw; go_simp; try with_reducible rfl)
                try simp only [Act.put, List.setIfInBounds_toArray, List.set_cons_zero, List.set_cons_succ]
                refine wpAnyH_take (i := 14) (oi := ⟨some 43, .binOp BinOp.neq 3 (.tmp 37) (.tmp 42) 3, 4, "ref.go:18", #[⟨8, .data⟩, ⟨13, .data⟩, ⟨4, .guard⟩], some (4, Bool.false)⟩) (v := ?_) rfl (by kernel_rfl) (by kernel_rfl) (by kernel_rfl) (fun _ _ _ h => h) (Or.inl ⟨by first | kernel_rfl | rfl, ?_⟩) (by assumption) ?_
                rotate_left
                · (intro w hSw; (try dsimp only at hSw); obtain ⟨_, d1, d2⟩ := hSw; go_simp; try with_reducible rfl)
                try simp only [Act.put, List.setIfInBounds_toArray, List.set_cons_zero, List.set_cons_succ]
                refine wpAnyH_take (i := 15) (oi := ⟨some 44, .pick (.tmp 33) (.const (.bool Bool.true)) (.tmp 43), 4, "ref.go:18", #[⟨4, .data⟩, ⟨14, .data⟩], none⟩) (v := ?_) rfl (by kernel_rfl) (by kernel_rfl) (by kernel_rfl) (fun _ _ _ h => h) (Or.inl ⟨by first | kernel_rfl | rfl, ?_⟩) (by assumption) ?_
                rotate_left
                · (intro w hSw; (try dsimp only at hSw); obtain ⟨_, d1, d2⟩ := hSw; go_simp; try with_reducible rfl)
                try simp only [Act.put, List.setIfInBounds_toArray, List.set_cons_zero, List.set_cons_succ]
                refine wpAnyH_done (by kernel_rfl) ?_ _
                refine NoPanic.normal ?_
                go_wp2
                go_roundw
                case rel => exact ⟨i + 1, _, _, k, cB, rfl, by omega, rfl, by go_num, by rw [HSE.out]; exact HR3.out.1.bel (by repeat (first | exact Bel.rf | (with_reducible refine Bel.drwN ?_ _) | (with_reducible refine Bel.drw ?_) | (with_reducible refine Bel.al ?_ _))), .inr ⟨gb, rfl, hcap⟩, (by repeat (first | exact HR3.out.2 | (with_reducible refine Bel.drwN ?_ _) | (with_reducible refine Bel.drw ?_) | (with_reducible refine Bel.al ?_ _)))⟩
                case measure => simp [intOf]; omega
              · have xn : (x != t) = true := by simp [hxe]
                have HWY : Hid (ins t T = T.take a ++ (t :: T.drop a)) := by show _ = _; rw [ins_at t T a (by have := HZI.out.1; omega) HAL.out (by rw [HX.out]; intro _; omega), if_neg (by rw [HX.out]; exact fun h => hxe h.2)]
                have HZF : Hid (∀ W, Bel wq W → Zi W (some ⟨gb, 0, none⟩) a (T.take a)) := fun W hW => zi_frt ((HZI.out.bel HQ.out).bel hW) a (by omega)
                have HZD : Hid (∀ W, Bel wq W → Zi W (some ⟨gb, a, none⟩) (k - a) (T.drop a)) := fun W hW => zi_bkt ((HZI.out.bel HQ.out).bel hW) a (by omega)
                have cn : ¬ cB = a := by omega
                have ac : a ≤ cB := by omega
                have aci : (a : Int) ≤ (cB : Int) := by omega
                have aki : (a : Int) ≤ (k : Int) := by omega
                have kci : (k : Int) ≤ (cB : Int) := by omega
                have ake : ¬ a = k := by omega
                have ake2 : ((a : Int) == (k : Int)) = false := by simp; omega
                clear hq hzi hb ha
                go_wp2
                refine wp_region_noPanic ?_
                refine wp_region_held_drew (S := fun W => Bel wq W ∧ W.cell? (⟨g, o + i * 2, none⟩ : Addr) = some (.int .i64 t) ∧ W.cell? (⟨gb, a, none⟩ : Addr) = some (.int .i64 x)) (by kernel_rfl) ?_ (fun hH0 => ?_)
                · (try dsimp only); exact HKF.out _ (by repeat (first | exact Bel.rf | (with_reducible refine Bel.drwN ?_ _) | (with_reducible refine Bel.drw ?_) | (with_reducible refine Bel.al ?_ _)))
                refine wpAnyH_take (i := 0) (oi := ⟨some 11, .move (.tmp 5), 3, "ref.go:15", #[], none⟩) (v := ?_) rfl (by kernel_rfl) (by kernel_rfl) (by kernel_rfl) (fun _ _ _ h => h) (Or.inl ⟨by first | kernel_rfl | rfl, ?_⟩) (by assumption) ?_
                rotate_left
                · (intro w hSw; (try dsimp only at hSw); obtain ⟨_, d1, d2⟩ := hSw; go_simp; try with_reducible rfl)
                try simp only [Act.put, List.setIfInBounds_toArray, List.set_cons_zero, List.set_cons_succ]
                refine wpAnyH_take (i := 1) (oi := ⟨some 12, .move (.tmp 3), 22, "ref.go:15", #[], none⟩) (v := ?_) rfl (by kernel_rfl) (by kernel_rfl) (by kernel_rfl) (fun _ _ _ h => h) (Or.inl ⟨by first | kernel_rfl | rfl, ?_⟩) (by assumption) ?_
                rotate_left
                · (intro w hSw; (try dsimp only at hSw); obtain ⟨_, d1, d2⟩ := hSw; go_simp; try with_reducible rfl)
                try simp only [Act.put, List.setIfInBounds_toArray, List.set_cons_zero, List.set_cons_succ]
                refine wpAnyH_take (i := 2) (oi := ⟨some 13, .call { callee := Callee.builtin Builtin.len, args := #[.tmp 12], argTypes := #[22] }, 3, "ref.go:15", #[⟨1, .data⟩], none⟩) (v := ?_) rfl (by kernel_rfl) (by kernel_rfl) (by kernel_rfl) (fun _ _ _ h => h) (Or.inl ⟨by first | kernel_rfl | rfl, ?_⟩) (by assumption) ?_
                rotate_left
                · (intro w hSw; (try dsimp only at hSw); obtain ⟨_, d1, d2⟩ := hSw; go_simp; try with_reducible rfl)
                try simp only [Act.put, List.setIfInBounds_toArray, List.set_cons_zero, List.set_cons_succ]
                refine wpAnyH_take (i := 3) (oi := ⟨some 14, .binOp BinOp.lss 3 (.tmp 11) (.tmp 13) 3, 4, "ref.go:15", #[⟨0, .data⟩, ⟨2, .data⟩], none⟩) (v := ?_) rfl (by kernel_rfl) (by kernel_rfl) (by kernel_rfl) (fun _ _ _ h => h) (Or.inl ⟨by first | kernel_rfl | rfl, ?_⟩) (by assumption) ?_
                rotate_left
                · (intro w hSw; (try dsimp only at hSw); obtain ⟨_, d1, d2⟩ := hSw; go_simp; try with_reducible rfl)
                try simp only [Act.put, List.setIfInBounds_toArray, List.set_cons_zero, List.set_cons_succ]
                refine wpAnyH_take (i := 4) (oi := ⟨some 15, .move (.tmp 14), 4, "ref.go:15", #[⟨3, .data⟩], none⟩) (v := ?_) rfl (by kernel_rfl) (by kernel_rfl) (by kernel_rfl) (fun _ _ _ h => h) (Or.inl ⟨by first | kernel_rfl | rfl, ?_⟩) (by assumption) ?_
                rotate_left
                · (intro w hSw; (try dsimp only at hSw); obtain ⟨_, d1, d2⟩ := hSw; go_simp; try with_reducible rfl)
                try simp only [Act.put, List.setIfInBounds_toArray, List.set_cons_zero, List.set_cons_succ]
                refine wpAnyH_take (i := 5) (oi := ⟨some 16, .move (.tmp 3), 22, "ref.go:15", #[⟨4, .guard⟩], some (4, Bool.true)⟩) (v := ?_) rfl (by kernel_rfl) (by kernel_rfl) (by kernel_rfl) (fun _ _ _ h => h) (Or.inl ⟨by first | kernel_rfl | rfl, ?_⟩) (by assumption) ?_
                rotate_left
                · (intro w hSw; (try dsimp only at hSw); obtain ⟨_, d1, d2⟩ := hSw; go_simp; try with_reducible rfl)
                try simp only [Act.put, List.setIfInBounds_toArray, List.set_cons_zero, List.set_cons_succ]
                refine wpAnyH_take (i := 6) (oi := ⟨some 17, .move (.tmp 5), 3, "ref.go:15", #[⟨4, .guard⟩], some (4, Bool.true)⟩) (v := ?_) rfl (by kernel_rfl) (by kernel_rfl) (by kernel_rfl) (fun _ _ _ h => h) (Or.inl ⟨by first | kernel_rfl | rfl, ?_⟩) (by assumption) ?_
                rotate_left
                · (intro w hSw; (try dsimp only at hSw); obtain ⟨_, d1, d2⟩ := hSw; go_simp; try with_reducible rfl)
                try simp only [Act.put, List.setIfInBounds_toArray, List.set_cons_zero, List.set_cons_succ]
                refine wpAnyH_take (i := 7) (oi := ⟨some 18, .indexAddr 22 (.tmp 16) (.tmp 17), 0, "ref.go:15", #[⟨5, .data⟩, ⟨6, .data⟩, ⟨4, .guard⟩], some (4, Bool.true)⟩) (v := ?_) rfl (by kernel_rfl) (by kernel_rfl) (by kernel_rfl) (fun _ _ _ h => h) (Or.inl ⟨by first | kernel_rfl | rfl, ?_⟩) (by assumption) ?_
                rotate_left
                · (intro w hSw; (try dsimp only at hSw); obtain ⟨_, d1, d2⟩ := hSw; go_simp; try with_reducible rfl)
                try simp only [Act.put, List.setIfInBounds_toArray, List.set_cons_zero, List.set_cons_succ]
                refine wpAnyH_take (i := 8) (oi := ⟨some 19, .load 3 (.tmp 18), 3, "ref.go:15", #[⟨7, .data⟩, ⟨4, .guard⟩], some (4, Bool.true)⟩) (v := ?_) rfl (by kernel_rfl) (by kernel_rfl) (by kernel_rfl) (fun _ _ _ h => h) (Or.inl ⟨by first | kernel_rfl | rfl, ?_⟩) (by assumption) ?_
                rotate_left
                · (intro w hSw; (try dsimp only at hSw); obtain ⟨_, d1, d2⟩ := hSw; go_simp; try with_reducible rfl)
                try simp only [Act.put, List.setIfInBounds_toArray, List.set_cons_zero, List.set_cons_succ]
                refine wpAnyH_take (i := 9) (oi := ⟨some 20, .move (.tmp 0), 23, "ref.go:15", #[⟨4, .guard⟩], some (4, Bool.true)⟩) (v := ?_) rfl (by kernel_rfl) (by kernel_rfl) (by kernel_rfl) (fun _ _ _ h => h) (Or.inl ⟨by first | kernel_rfl | rfl, ?_⟩) (by assumption) ?_
                rotate_left
                · (intro w hSw; (try dsimp only at hSw); obtain ⟨_, d1, d2⟩ := hSw; go_simp; try with_reducible rfl)
                try simp only [Act.put, List.setIfInBounds_toArray, List.set_cons_zero, List.set_cons_succ]
                refine wpAnyH_take (i := 10) (oi := ⟨some 21, .move (.tmp 4), 3, "ref.go:15", #[⟨4, .guard⟩], some (4, Bool.true)⟩) (v := ?_) rfl (by kernel_rfl) (by kernel_rfl) (by kernel_rfl) (fun _ _ _ h => h) (Or.inl ⟨by first | kernel_rfl | rfl, ?_⟩) (by assumption) ?_
                rotate_left
                · (intro w hSw; (try dsimp only at hSw); obtain ⟨_, d1, d2⟩ := hSw; go_simp; try with_reducible rfl)
                try simp only [Act.put, List.setIfInBounds_toArray, List.set_cons_zero, List.set_cons_succ]
                refine wpAnyH_take (i := 11) (oi := ⟨some 22, .indexAddr 23 (.tmp 20) (.tmp 21), 0, "ref.go:15", #[⟨9, .data⟩, ⟨10, .data⟩, ⟨4, .guard⟩], some (4, Bool.true)⟩) (v := ?_) rfl (by kernel_rfl) (by kernel_rfl) (by kernel_rfl) (fun _ _ _ h => h) (Or.inl ⟨by first | kernel_rfl | rfl, ?_⟩) (by assumption) ?_
                rotate_left
                · (intro w hSw; (try dsimp only at hSw); obtain ⟨_, d1, d2⟩ := hSw; go_simp; try with_reducible rfl)
                try simp only [Act.put, List.setIfInBounds_toArray, List.set_cons_zero, List.set_cons_succ]
                refine wpAnyH_take (i := 12) (oi := ⟨some 23, .fieldAddr 28 (.tmp 22) 0, 0, "ref.go:15", #[⟨11, .data⟩, ⟨4, .guard⟩], some (4, Bool.true)⟩) (v := ?_) rfl (by kernel_rfl) (by kernel_rfl) (by kernel_rfl) (fun _ _ _ h => h) (Or.inl ⟨by first | kernel_rfl | rfl, ?_⟩) (by assumption) ?_
                rotate_left
                · (intro w hSw; (try dsimp only at hSw); obtain ⟨_, d1, d2⟩ := hSw; go_simp; try with_reducible rfl)
                try simp only [Act.put, List.setIfInBounds_toArray, List.set_cons_zero, List.set_cons_succ]
                refine wpAnyH_take (i := 13) (oi := ⟨some 24, .load 3 (.tmp 23), 3, "ref.go:15", #[⟨12, .data⟩, ⟨4, .guard⟩], some (4, Bool.true)⟩) (v := ?_) rfl (by kernel_rfl) (by kernel_rfl) (by kernel_rfl) (fun _ _ _ h => h) (Or.inl ⟨by first | kernel_rfl | rfl, ?_⟩) (by assumption) ?_
                rotate_left
                · (intro w hSw; (try dsimp only at hSw); obtain ⟨_, d1, d2⟩ := hSw; go_simp; try with_reducible rfl)
                try simp only [Act.put, List.setIfInBounds_toArray, List.set_cons_zero, List.set_cons_succ]
                refine wpAnyH_take (i := 14) (oi := ⟨some 25, .binOp BinOp.lss 3 (.tmp 19) (.tmp 24) 3, 4, "ref.go:15", #[⟨8, .data⟩, ⟨13, .data⟩, ⟨4, .guard⟩], some (4, Bool.true)⟩) (v := ?_) rfl (by kernel_rfl) (by kernel_rfl) (by kernel_rfl) (fun _ _ _ h => h) (Or.inl ⟨by first | kernel_rfl | rfl, ?_⟩) (by assumption) ?_
                rotate_left
                · (intro w hSw; (try dsimp only at hSw); obtain ⟨_, d1, d2⟩ := hSw; go_simp; try with_reducible rfl)
                try simp only [Act.put, List.setIfInBounds_toArray, List.set_cons_zero, List.set_cons_succ]
                refine wpAnyH_take (i := 15) (oi := ⟨some 26, .pick (.tmp 15) (.tmp 25) (.const (.bool Bool.false)), 4, "ref.go:15", #[⟨4, .data⟩, ⟨14, .data⟩], none⟩) (v := ?_) rfl (by kernel_rfl) (by kernel_rfl) (by kernel_rfl) (fun _ _ _ h => h) (Or.inl ⟨by first | kernel_rfl | rfl, ?_⟩) (by assumption) ?_
                rotate_left
                · (intro w hSw; (try dsimp only at hSw); obtain ⟨_, d1, d2⟩ := hSw; go_simp; try with_reducible rfl)
                try simp only [Act.put, List.setIfInBounds_toArray, List.set_cons_zero, List.set_cons_succ]
                refine wpAnyH_done (by kernel_rfl) ?_ _
                refine NoPanic.normal ?_
                go_wp2
                refine wp_region_noPanic ?_
                refine wp_region_held_drew (S := fun W => Bel wq W ∧ W.cell? (⟨g, o + i * 2, none⟩ : Addr) = some (.int .i64 t) ∧ W.cell? (⟨gb, a, none⟩ : Addr) = some (.int .i64 x)) (by kernel_rfl) ?_ (fun hH0 => ?_)
                · (try dsimp only); exact HKF.out _ (by repeat (first | exact Bel.rf | (with_reducible refine Bel.drwN ?_ _) | (with_reducible refine Bel.drw ?_) | (with_reducible refine Bel.al ?_ _)))
                refine wpAnyH_take (i := 0) (oi := ⟨some 29, .move (.tmp 5), 3, "ref.go:18", #[], none⟩) (v := ?_) rfl (by kernel_rfl) (by kernel_rfl) (by kernel_rfl) (fun _ _ _ h => h) (Or.inl ⟨by first | kernel_rfl | rfl, ?_⟩) (by assumption) ?_
                rotate_left
                · (intro w hSw; (try dsimp only at hSw); obtain ⟨_, d1, d2⟩ := hSw; go_simp; try with_reducible rfl)
                try simp only [Act.put, List.setIfInBounds_toArray, List.set_cons_zero, List.set_cons_succ]
                refine wpAnyH_take (i := 1) (oi := ⟨some 30, .move (.tmp 3), 22, "ref.go:18", #[], none⟩) (v := ?_) rfl (by kernel_rfl) (by kernel_rfl) (by kernel_rfl) (fun _ _ _ h => h) (Or.inl ⟨by first | kernel_rfl | rfl, ?_⟩) (by assumption) ?_
                rotate_left
                · (intro w hSw; (try dsimp only at hSw); obtain ⟨_, d1, d2⟩ := hSw; go_simp; try with_reducible rfl)
                try simp only [Act.put, List.setIfInBounds_toArray, List.set_cons_zero, List.set_cons_succ]
                refine wpAnyH_take (i := 2) (oi := ⟨some 31, .call { callee := Callee.builtin Builtin.len, args := #[.tmp 30], argTypes := #[22] }, 3, "ref.go:18", #[⟨1, .data⟩], none⟩) (v := ?_) rfl (by kernel_rfl) (by kernel_rfl) (by kernel_rfl) (fun _ _ _ h => h) (Or.inl ⟨by first | kernel_rfl | rfl, ?_⟩) (by assumption) ?_
                rotate_left
                · (intro w hSw; (try dsimp only at hSw); obtain ⟨_, d1, d2⟩ := hSw; go_simp; try with_reducible rfl)
                try simp only [Act.put, List.setIfInBounds_toArray, List.set_cons_zero, List.set_cons_succ]
                refine wpAnyH_take (i := 3) (oi := ⟨some 32, .binOp BinOp.eql 3 (.tmp 29) (.tmp 31) 3, 4, "ref.go:18", #[⟨0, .data⟩, ⟨2, .data⟩], none⟩) (v := ?_) rfl (by kernel_rfl) (by kernel_rfl) (by kernel_rfl) (fun _ _ _ h => h) (Or.inl ⟨by first | kernel_rfl | rfl, ?_⟩) (by assumption) ?_
                rotate_left
                · (intro w hSw; (try dsimp only at hSw); obtain ⟨_, d1, d2⟩ := hSw; go_simp; try with_reducible rfl)
                try simp only [Act.put, List.setIfInBounds_toArray, List.set_cons_zero, List.set_cons_succ]
                refine wpAnyH_take (i := 4) (oi := ⟨some 33, .move (.tmp 32), 4, "ref.go:18", #[⟨3, .data⟩], none⟩) (v := ?_) rfl (by kernel_rfl) (by kernel_rfl) (by kernel_rfl) (fun _ _ _ h => h) (Or.inl ⟨by first | kernel_rfl | rfl, ?_⟩) (by assumption) ?_
                rotate_left
                · (intro w hSw; (try dsimp only at hSw); obtain ⟨_, d1, d2⟩ := hSw; go_simp; try with_reducible rfl)
                try simp only [Act.put, List.setIfInBounds_toArray, List.set_cons_zero, List.set_cons_succ]
                refine wpAnyH_take (i := 5) (oi := ⟨some 34, .move (.tmp 3), 22, "ref.go:18", #[⟨4, .guard⟩], some (4, Bool.false)⟩) (v := ?_) rfl (by kernel_rfl) (by kernel_rfl) (by kernel_rfl) (fun _ _ _ h => h) (Or.inl ⟨by first | kernel_rfl | rfl, ?_⟩) (by assumption) ?_
                rotate_left
                · (intro w hSw; (try dsimp only at hSw); obtain ⟨_, d1, d2⟩ := hSw; go_simp; try with_reducible rfl)
                try simp only [Act.put, List.setIfInBounds_toArray, List.set_cons_zero, List.set_cons_succ]
                refine wpAnyH_take (i := 6) (oi := ⟨some 35, .move (.tmp 5), 3, "ref.go:18", #[⟨4, .guard⟩], some (4, Bool.false)⟩) (v := ?_) rfl (by kernel_rfl) (by kernel_rfl) (by kernel_rfl) (fun _ _ _ h => h) (Or.inl ⟨by first | kernel_rfl | rfl, ?_⟩) (by assumption) ?_
                rotate_left
                · (intro w hSw; (try dsimp only at hSw); obtain ⟨_, d1, d2⟩ := hSw; go_simp; try with_reducible rfl)
                try simp only [Act.put, List.setIfInBounds_toArray, List.set_cons_zero, List.set_cons_succ]
                refine wpAnyH_take (i := 7) (oi := ⟨some 36, .indexAddr 22 (.tmp 34) (.tmp 35), 0, "ref.go:18", #[⟨5, .data⟩, ⟨6, .data⟩, ⟨4, .guard⟩], some (4, Bool.false)⟩) (v := ?_) rfl (by kernel_rfl) (by kernel_rfl) (by kernel_rfl) (fun _ _ _ h => h) (Or.inl ⟨by first | kernel_rfl | rfl, ?_⟩) (by assumption) ?_
                rotate_left
                · (intro w hSw; (try dsimp only at hSw); obtain ⟨_, d1, d2⟩ := hSw; go_simp; try with_reducible rfl)
                try simp only [Act.put, List.setIfInBounds_toArray, List.set_cons_zero, List.set_cons_succ]
                refine wpAnyH_take (i := 8) (oi := ⟨some 37, .load 3 (.tmp 36), 3, "ref.go:18", #[⟨7, .data⟩, ⟨4, .guard⟩], some (4, Bool.false)⟩) (v := ?_) rfl (by kernel_rfl) (by kernel_rfl) (by kernel_rfl) (fun _ _ _ h => h) (Or.inl ⟨by first | kernel_rfl | rfl, ?_⟩) (by assumption) ?_
                rotate_left
                · (intro w hSw; (try dsimp only at hSw); obtain ⟨_, d1, d2⟩ := hSw; go_simp; try with_reducible rfl)
                try simp only [Act.put, List.setIfInBounds_toArray, List.set_cons_zero, List.set_cons_succ]
                refine wpAnyH_take (i := 9) (oi := ⟨some 38, .move (.tmp 0), 23, "ref.go:18", #[⟨4, .guard⟩], some (4, Bool.false)⟩) (v := ?_) rfl (by kernel_rfl) (by kernel_rfl) (by kernel_rfl) (fun _ _ _ h => h) (Or.inl ⟨by first | kernel_rfl | rfl, ?_⟩) (by assumption) ?_
                rotate_left
                · (intro w hSw; (try dsimp only at hSw); obtain ⟨_, d1, d2⟩ := hSw; go_simp; try with_reducible rfl)
                try simp only [Act.put, List.setIfInBounds_toArray, List.set_cons_zero, List.set_cons_succ]
                refine wpAnyH_take (i := 10) (oi := ⟨some 39, .move (.tmp 4), 3, "ref.go:18", #[⟨4, .guard⟩], some (4, Bool.false)⟩) (v := ?_) rfl (by kernel_rfl) (by kernel_rfl) (by kernel_rfl) (fun _ _ _ h => h) (Or.inl ⟨by first | kernel_rfl | rfl, ?_⟩) (by assumption) ?_
                rotate_left
                · (intro w hSw; (try dsimp only at hSw); obtain ⟨_, d1, d2⟩ := hSw; go_simp; try with_reducible rfl)
                try simp only [Act.put, List.setIfInBounds_toArray, List.set_cons_zero, List.set_cons_succ]
                refine wpAnyH_take (i := 11) (oi := ⟨some 40, .indexAddr 23 (.tmp 38) (.tmp 39), 0, "ref.go:18", #[⟨9, .data⟩, ⟨10, .data⟩, ⟨4, .guard⟩], some (4, Bool.false)⟩) (v := ?_) rfl (by kernel_rfl) (by kernel_rfl) (by kernel_rfl) (fun _ _ _ h => h) (Or.inl ⟨by first | kernel_rfl | rfl, ?_⟩) (by assumption) ?_
                rotate_left
                · (intro w hSw; (try dsimp only at hSw); obtain ⟨_, d1, d2⟩ := hSw; go_simp; try with_reducible rfl)
                try simp only [Act.put, List.setIfInBounds_toArray, List.set_cons_zero, List.set_cons_succ]
                refine wpAnyH_take (i := 12) (oi := ⟨some 41, .fieldAddr 28 (.tmp 40) 0, 0, "ref.go:18", #[⟨11, .data⟩, ⟨4, .guard⟩], some (4, Bool.false)⟩) (v := ?_) rfl (by kernel_rfl) (by kernel_rfl) (by kernel_rfl) (fun _ _ _ h => h) (Or.inl ⟨by first | kernel_rfl | rfl, ?_⟩) (by assumption) ?_
                rotate_left
                · (intro w hSw; (try dsimp only at hSw); obtain ⟨_, d1, d2⟩ := hSw; go_simp; try with_reducible rfl)
                try simp only [Act.put, List.setIfInBounds_toArray, List.set_cons_zero, List.set_cons_succ]
                refine wpAnyH_take (i := 13) (oi := ⟨some 42, .load 3 (.tmp 41), 3, "ref.go:18", #[⟨12, .data⟩, ⟨4, .guard⟩], some (4, Bool.false)⟩) (v := ?_) rfl (by kernel_rfl) (by kernel_rfl) (by kernel_rfl) (fun _ _ _ h => h) (Or.inl ⟨by first | kernel_rfl | rfl, ?_⟩) (by assumption) ?_
                rotate_left
                · (intro w hSw; (try dsimp only at hSw); obtain ⟨_, d1, d2⟩ := hSw; go_simp; try with_reducible rfl)
                try simp only [Act.put, List.setIfInBounds_toArray, List.set_cons_zero, List.set_cons_succ]
                refine wpAnyH_take (i := 14) (oi := ⟨some 43, .binOp BinOp.neq 3 (.tmp 37) (.tmp 42) 3, 4, "ref.go:18", #[⟨8, .data⟩, ⟨13, .data⟩, ⟨4, .guard⟩], some (4, Bool.false)⟩) (v := ?_) rfl (by kernel_rfl) (by kernel_rfl) (by kernel_rfl) (fun _ _ _ h => h) (Or.inl ⟨by first | kernel_rfl | rfl, ?_⟩) (by assumption) ?_
                rotate_left
                · (intro w hSw; (try dsimp only at hSw); obtain ⟨_, d1, d2⟩ := hSw; go_simp; try with_reducible rfl)
                try simp only [Act.put, List.setIfInBounds_toArray, List.set_cons_zero, List.set_cons_succ]
                refine wpAnyH_take (i := 15) (oi := ⟨some 44, .pick (.tmp 33) (.const (.bool Bool.true)) (.tmp 43), 4, "ref.go:18", #[⟨4, .data⟩, ⟨14, .data⟩], none⟩) (v := ?_) rfl (by kernel_rfl) (by kernel_rfl) (by kernel_rfl) (fun _ _ _ h => h) (Or.inl ⟨by first | kernel_rfl | rfl, ?_⟩) (by assumption) ?_
                rotate_left
                · (intro w hSw; (try dsimp only at hSw); obtain ⟨_, d1, d2⟩ := hSw; go_simp; try with_reducible rfl)
                try simp only [Act.put, List.setIfInBounds_toArray, List.set_cons_zero, List.set_cons_succ]
                refine wpAnyH_done (by kernel_rfl) ?_ _
                refine NoPanic.normal ?_
                go_wp2
                go_region_law (first
                  | (refine step_apt _ rfl (.tmp 56) (.tmp 59) rfl wq.heap.size v2 _ _ rfl (own_bel hO2 (by repeat (first | exact Bel.rf | (with_reducible refine Bel.drwN ?_ _) | (with_reducible refine Bel.drw ?_) | (with_reducible refine Bel.al ?_ _)))) _ (k - a) _ (T.drop a) (by first | rfl | simp [Act.eval, *]) (HZD.out _ (by repeat (first | exact hB2 | (with_reducible refine Bel.drwN ?_ _) | (with_reducible refine Bel.drw ?_) | (with_reducible refine Bel.al ?_ _)))) (by omega) (by have := hB2.size; simp at *; omega) ?_; intro v3 w3 h3 hg3; have hB3 : Bel wq w3 := bel_grt (by repeat (first | exact hB2 | (with_reducible refine Bel.drwN ?_ _) | (with_reducible refine Bel.drw ?_) | (with_reducible refine Bel.al ?_ _))) hg3 (fun q e => (hO2.lt q e).1))
                  | (refine step_apt _ rfl (.tmp 49) (.tmp 55) rfl wq.heap.size v1 _ _ rfl (own_bel hO1 (by repeat (first | exact Bel.rf | (with_reducible refine Bel.drwN ?_ _) | (with_reducible refine Bel.drw ?_) | (with_reducible refine Bel.al ?_ _)))) _ 1 1 [t] rfl (by first | (refine Zi.bel (zi_1t (Bk.nq ?_ _ _ ?_)) ?_; rotate_left 2; (repeat (first | (with_reducible exact Bel.rf) | (with_reducible refine Bel.drwN ?_ _) | (with_reducible refine Bel.drw ?_) | (with_reducible refine Bel.al ?_ _))); all_goals first | (simp; done) | (simp [Value.ownBlock]; done)) | (refine Zi.bel (zi_1t (hkA _ ?_ (Bk.bel (Bk.nq ?_ _ _ ?_) ?_))) ?_; rotate_left 4; (repeat (first | (with_reducible exact Bel.rf) | (with_reducible refine Bel.drwN ?_ _) | (with_reducible refine Bel.drw ?_) | (with_reducible refine Bel.al ?_ _))); rotate_left 3; (repeat (first | (with_reducible exact Bel.rf) | (with_reducible refine Bel.drwN ?_ _) | (with_reducible refine Bel.drw ?_) | (with_reducible refine Bel.al ?_ _))); all_goals first | (simp; done) | (simp [Value.ownBlock]; done))) (by omega) (by have := hB1.size; simp at *; omega) ?_; intro v2 w2 hO2 hg2; have hB2 : Bel wq w2 := bel_grt (by repeat (first | exact hB1 | (with_reducible refine Bel.drwN ?_ _) | (with_reducible refine Bel.drw ?_) | (with_reducible refine Bel.al ?_ _))) hg2 (fun q e => (hO1.lt q e).1); have c1b := hB2.kp c1)
                  | (refine step_apt _ rfl (.tmp 45) (.tmp 48) rfl wq.heap.size (.slice (some ⟨wq.heap.size, 0, none⟩) 0 0) 0 [] rfl (by refine own_bel (own_madet ?_ _ ?_ ?_) ?_; rotate_left 3; (repeat (first | (with_reducible exact Bel.rf) | (with_reducible refine Bel.drwN ?_ _) | (with_reducible refine Bel.drw ?_) | (with_reducible refine Bel.al ?_ _))); all_goals first | (simp; done) | (simp [Value.ownBlock]; done)) (some ⟨gb, 0, none⟩) a cB (T.take a) rfl (HZF.out _ (by repeat (first | exact Bel.rf | (with_reducible refine Bel.drwN ?_ _) | (with_reducible refine Bel.drw ?_) | (with_reducible refine Bel.al ?_ _)))) (by omega) (by first | (simp; done) | (simp; omega)) ?_; intro v1 w1 hO1 hg1; have hB1 : Bel wq w1 := bel_grt (by repeat (first | exact Bel.rf | (with_reducible refine Bel.drwN ?_ _) | (with_reducible refine Bel.drw ?_) | (with_reducible refine Bel.al ?_ _))) hg1 (fun q e => by cases e; simp); have hkA := fun q hq h => bk_grt (g := q) (t := 3) (cs := #[.int .i64 t]) h hg1 hq; have c1a := hB1.kp c1)
                  | (refine step_apt _ rfl (.tmp 45) (.tmp 48) rfl wq.heap.size (.slice (some ⟨(wq.heap.size + 1), 0, none⟩) 0 0) 0 [] rfl (by refine own_bel (own_madet ?_ _ ?_ ?_) ?_; rotate_left 3; (repeat (first | (with_reducible exact Bel.rf) | (with_reducible refine Bel.drwN ?_ _) | (with_reducible refine Bel.drw ?_) | (with_reducible refine Bel.al ?_ _))); all_goals first | (simp; done) | (simp [Value.ownBlock]; done)) (some ⟨gb, 0, none⟩) a cB (T.take a) rfl (HZF.out _ (by repeat (first | exact Bel.rf | (with_reducible refine Bel.drwN ?_ _) | (with_reducible refine Bel.drw ?_) | (with_reducible refine Bel.al ?_ _)))) (by omega) (by first | (simp; done) | (simp; omega)) ?_; intro v1 w1 hO1 hg1; have hB1 : Bel wq w1 := bel_grt (by repeat (first | exact Bel.rf | (with_reducible refine Bel.drwN ?_ _) | (with_reducible refine Bel.drw ?_) | (with_reducible refine Bel.al ?_ _))) hg1 (fun q e => by cases e; simp); have hkA := fun q hq h => bk_grt (g := q) (t := 3) (cs := #[.int .i64 t]) h hg1 hq; have c1a := hB1.kp c1))
                all_goals
                  have hE : 0 + a + 1 + (k - a) = k + 1 := by omega
                  have hL3 : [] ++ T.take a ++ [t] ++ T.drop a = uts (l.take (i + 1)) := by rw [HSN.out, HWY.out]; simp
                  rw [hE, hL3] at h3
                  obtain ⟨B3, c3, rfl, hz3, hs3⟩ := own_ns h3 (by have := HZI.out.1; rw [← hL3]; simp only [List.length_append, List.length_take, List.length_drop, List.length_cons, List.length_nil]; omega)
                  have HR3 : Hid (Zi w3 B3 (k + 1) (uts (l.take (i + 1))) ∧ Ns B3 (k + 1) c3 ∧ Bel w w3) := ⟨hz3, hs3, (HB.out.tr HQ.out).tr hB3⟩
                  clear h3 hg3 hB3 hz3 hs3 hE hL3
                  go_wp2
                  go_roundw
                  case rel => exact ⟨i + 1, _, B3, k + 1, c3, rfl, by omega, rfl, by go_num, by exact HR3.out.1.bel (by repeat (first | exact Bel.rf | (with_reducible refine Bel.drwN ?_ _) | (with_reducible refine Bel.drw ?_) | (with_reducible refine Bel.al ?_ _))), HR3.out.2.1, (by repeat (first | exact HR3.out.2.2 | (with_reducible refine Bel.drwN ?_ _) | (with_reducible refine Bel.drw ?_) | (with_reducible refine Bel.al ?_ _)))⟩
                  case measure => simp [intOf]; omega
          · obtain rfl : a = k := by omega
            have HWY : Hid (ins t T = T.take a ++ (t :: T.drop a)) := by show _ = _; rw [ins_at t T a (by have := HZI.out.1; omega) HAL.out (by intro h; have := HZI.out.1; omega), if_neg (by have := HZI.out.1; omega)]
            have HZF : Hid (∀ W, Bel wq W → Zi W (some ⟨gb, 0, none⟩) a (T.take a)) := fun W hW => zi_frt ((HZI.out.bel HQ.out).bel hW) a (by omega)
            have HZD : Hid (∀ W (ad : Option Addr), Bel wq W → Zi W ad 0 (T.drop a)) := fun W ad hW => by rw [List.drop_of_length_le (by have := HZI.out.1; omega)]; exact zi_nonet
            have kci : (a : Int) ≤ (cB : Int) := by omega
            have aa : a - a = 0 := Nat.sub_self a
            clear hq hzi hb ha
            go_wp2
            refine wp_region_noPanic ?_
            refine wp_region_held_drew (S := fun W => Bel wq W) (by kernel_rfl) ?_ (fun hH0 => ?_)
            · (try dsimp only); exact (by repeat (first | exact Bel.rf | (with_reducible refine Bel.drwN ?_ _) | (with_reducible refine Bel.drw ?_) | (with_reducible refine Bel.al ?_ _)))
            refine wpAnyH_take (i := 0) (oi := ⟨some 11, .move (.tmp 5), 3, "ref.go:15", #[], none⟩) (v := ?_) rfl (by kernel_rfl) (by kernel_rfl) (by kernel_rfl) (fun _ _ _ h => h) (Or.inl ⟨by first | kernel_rfl | rfl, ?_⟩) (by assumption) ?_
            rotate_left
            · (intro w hSw; (try dsimp only at hSw); go_simp; try with_reducible rfl)
            try simp only [Act.put, List.setIfInBounds_toArray, List.set_cons_zero, List.set_cons_succ]
            refine wpAnyH_take (i := 1) (oi := ⟨some 12, .move (.tmp 3), 22, "ref.go:15", #[], none⟩) (v := ?_) rfl (by kernel_rfl) (by kernel_rfl) (by kernel_rfl) (fun _ _ _ h => h) (Or.inl ⟨by first | kernel_rfl | rfl, ?_⟩) (by assumption) ?_
            rotate_left
            · (intro w hSw; (try dsimp only at hSw); go_simp; try with_reducible rfl)
            try simp only [Act.put, List.setIfInBounds_toArray, List.set_cons_zero, List.set_cons_succ]
            refine wpAnyH_take (i := 2) (oi := ⟨some 13, .call { callee := Callee.builtin Builtin.len, args := #[.tmp 12], argTypes := #[22] }, 3, "ref.go:15", #[⟨1, .data⟩], none⟩) (v := ?_) rfl (by kernel_rfl) (by kernel_rfl) (by kernel_rfl) (fun _ _ _ h => h) (Or.inl ⟨by first | kernel_rfl | rfl, ?_⟩) (by assumption) ?_
            rotate_left
            · (intro w hSw; (try dsimp only at hSw); go_simp; try with_reducible rfl)
            try simp only [Act.put, List.setIfInBounds_toArray, List.set_cons_zero, List.set_cons_succ]
            refine wpAnyH_take (i := 3) (oi := ⟨some 14, .binOp BinOp.lss 3 (.tmp 11) (.tmp 13) 3, 4, "ref.go:15", #[⟨0, .data⟩, ⟨2, .data⟩], none⟩) (v := ?_) rfl (by kernel_rfl) (by kernel_rfl) (by kernel_rfl) (fun _ _ _ h => h) (Or.inl ⟨by first | kernel_rfl | rfl, ?_⟩) (by assumption) ?_
            rotate_left
            · (intro w hSw; (try dsimp only at hSw); go_simp; try with_reducible rfl)
            try simp only [Act.put, List.setIfInBounds_toArray, List.set_cons_zero, List.set_cons_succ]
            refine wpAnyH_take (i := 4) (oi := ⟨some 15, .move (.tmp 14), 4, "ref.go:15", #[⟨3, .data⟩], none⟩) (v := ?_) rfl (by kernel_rfl) (by kernel_rfl) (by kernel_rfl) (fun _ _ _ h => h) (Or.inl ⟨by first | kernel_rfl | rfl, ?_⟩) (by assumption) ?_
            rotate_left
            · (intro w hSw; (try dsimp only at hSw); go_simp; try with_reducible rfl)
            try simp only [Act.put, List.setIfInBounds_toArray, List.set_cons_zero, List.set_cons_succ]
            refine wpAnyH_take (i := 5) (oi := ⟨some 16, .move (.tmp 3), 22, "ref.go:15", #[⟨4, .guard⟩], some (4, Bool.true)⟩) (v := undef) rfl (by kernel_rfl) (by kernel_rfl) (by kernel_rfl) (fun _ _ _ h => h) (Or.inr ⟨by first | kernel_rfl | rfl, rfl⟩) (by assumption) ?_
            try simp only [Act.put, List.setIfInBounds_toArray, List.set_cons_zero, List.set_cons_succ]
            refine wpAnyH_take (i := 6) (oi := ⟨some 17, .move (.tmp 5), 3, "ref.go:15", #[⟨4, .guard⟩], some (4, Bool.true)⟩) (v := undef) rfl (by kernel_rfl) (by kernel_rfl) (by kernel_rfl) (fun _ _ _ h => h) (Or.inr ⟨by first | kernel_rfl | rfl, rfl⟩) (by assumption) ?_
            try simp only [Act.put, List.setIfInBounds_toArray, List.set_cons_zero, List.set_cons_succ]
            refine wpAnyH_take (i := 7) (oi := ⟨some 18, .indexAddr 22 (.tmp 16) (.tmp 17), 0, "ref.go:15", #[⟨5, .data⟩, ⟨6, .data⟩, ⟨4, .guard⟩], some (4, Bool.true)⟩) (v := undef) rfl (by kernel_rfl) (by kernel_rfl) (by kernel_rfl) (fun _ _ _ h => h) (Or.inr ⟨by first | kernel_rfl | rfl, rfl⟩) (by assumption) ?_
            try simp only [Act.put, List.setIfInBounds_toArray, List.set_cons_zero, List.set_cons_succ]
            refine wpAnyH_take (i := 8) (oi := ⟨some 19, .load 3 (.tmp 18), 3, "ref.go:15", #[⟨7, .data⟩, ⟨4, .guard⟩], some (4, Bool.true)⟩) (v := undef) rfl (by kernel_rfl) (by kernel_rfl) (by kernel_rfl) (fun _ _ _ h => h) (Or.inr ⟨by first | kernel_rfl | rfl, rfl⟩) (by assumption) ?_
            try simp only [Act.put, List.setIfInBounds_toArray, List.set_cons_zero, List.set_cons_succ]
            refine wpAnyH_take (i := 9) (oi := ⟨some 20, .move (.tmp 0), 23, "ref.go:15", #[⟨4, .guard⟩], some (4, Bool.true)⟩) (v := undef) rfl (by kernel_rfl) (by kernel_rfl) (by kernel_rfl) (fun _ _ _ h => h) (Or.inr ⟨by first | kernel_rfl | rfl, rfl⟩) (by assumption) ?_
            try simp only [Act.put, List.setIfInBounds_toArray, List.set_cons_zero, List.set_cons_succ]
            refine wpAnyH_take (i := 10) (oi := ⟨some 21, .move (.tmp 4), 3, "ref.go:15", #[⟨4, .guard⟩], some (4, Bool.true)⟩) (v := undef) rfl (by kernel_rfl) (by kernel_rfl) (by kernel_rfl) (fun _ _ _ h => h) (Or.inr ⟨by first | kernel_rfl | rfl, rfl⟩) (by assumption) ?_
            try simp only [Act.put, List.setIfInBounds_toArray, List.set_cons_zero, List.set_cons_succ]
            refine wpAnyH_take (i := 11) (oi := ⟨some 22, .indexAddr 23 (.tmp 20) (.tmp 21), 0, "ref.go:15", #[⟨9, .data⟩, ⟨10, .data⟩, ⟨4, .guard⟩], some (4, Bool.true)⟩) (v := undef) rfl (by kernel_rfl) (by kernel_rfl) (by kernel_rfl) (fun _ _ _ h => h) (Or.inr ⟨by first | kernel_rfl | rfl, rfl⟩) (by assumption) ?_
            try simp only [Act.put, List.setIfInBounds_toArray, List.set_cons_zero, List.set_cons_succ]
            refine wpAnyH_take (i := 12) (oi := ⟨some 23, .fieldAddr 28 (.tmp 22) 0, 0, "ref.go:15", #[⟨11, .data⟩, ⟨4, .guard⟩], some (4, Bool.true)⟩) (v := undef) rfl (by kernel_rfl) (by kernel_rfl) (by kernel_rfl) (fun _ _ _ h => h) (Or.inr ⟨by first | kernel_rfl | rfl, rfl⟩) (by assumption) ?_
            try simp only [Act.put, List.setIfInBounds_toArray, List.set_cons_zero, List.set_cons_succ]
            refine wpAnyH_take (i := 13) (oi := ⟨some 24, .load 3 (.tmp 23), 3, "ref.go:15", #[⟨12, .data⟩, ⟨4, .guard⟩], some (4, Bool.true)⟩) (v := undef) rfl (by kernel_rfl) (by kernel_rfl) (by kernel_rfl) (fun _ _ _ h => h) (Or.inr ⟨by first | kernel_rfl | rfl, rfl⟩) (by assumption) ?_
            try simp only [Act.put, List.setIfInBounds_toArray, List.set_cons_zero, List.set_cons_succ]
            refine wpAnyH_take (i := 14) (oi := ⟨some 25, .binOp BinOp.lss 3 (.tmp 19) (.tmp 24) 3, 4, "ref.go:15", #[⟨8, .data⟩, ⟨13, .data⟩, ⟨4, .guard⟩], some (4, Bool.true)⟩) (v := undef) rfl (by kernel_rfl) (by kernel_rfl) (by kernel_rfl) (fun _ _ _ h => h) (Or.inr ⟨by first | kernel_rfl | rfl, rfl⟩) (by assumption) ?_
            try simp only [Act.put, List.setIfInBounds_toArray, List.set_cons_zero, List.set_cons_succ]
            refine wpAnyH_take (i := 15) (oi := ⟨some 26, .pick (.tmp 15) (.tmp 25) (.const (.bool Bool.false)), 4, "ref.go:15", #[⟨4, .data⟩, ⟨14, .data⟩], none⟩) (v := ?_) rfl (by kernel_rfl) (by kernel_rfl) (by kernel_rfl) (fun _ _ _ h => h) (Or.inl ⟨by first | kernel_rfl | rfl, ?_⟩) (by assumption) ?_
            rotate_left
            · (intro w hSw; (try dsimp only at hSw); go_simp; try with_reducible rfl)
            try simp only [Act.put, List.setIfInBounds_toArray, List.set_cons_zero, List.set_cons_succ]
            refine wpAnyH_done (by kernel_rfl) ?_ _
            refine NoPanic.normal ?_
            go_wp2
            refine wp_region_noPanic ?_
            refine wp_region_held_drew (S := fun W => Bel wq W) (by kernel_rfl) ?_ (fun hH0 => ?_)
            · (try dsimp only); exact (by repeat (first | exact Bel.rf | (with_reducible refine Bel.drwN ?_ _) | (with_reducible refine Bel.drw ?_) | (with_reducible refine Bel.al ?_ _)))
            refine wpAnyH_take (i := 0) (oi := ⟨some 29, .move (.tmp 5), 3, "ref.go:18", #[], none⟩) (v := ?_) rfl (by kernel_rfl) (by kernel_rfl) (by kernel_rfl) (fun _ _ _ h => h) (Or.inl ⟨by first | kernel_rfl | rfl, ?_⟩) (by assumption) ?_
            rotate_left
            · (intro w hSw; (try dsimp only at hSw); go_simp; try with_reducible rfl)
            try simp only [Act.put, List.setIfInBounds_toArray, List.set_cons_zero, List.set_cons_succ]
            refine wpAnyH_take (i := 1) (oi := ⟨some 30, .move (.tmp 3), 22, "ref.go:18", #[], none⟩) (v := ?_) rfl (by kernel_rfl) (by kernel_rfl) (by kernel_rfl) (fun _ _ _ h => h) (Or.inl ⟨by first | kernel_rfl | rfl, ?_⟩) (by assumption) ?_
            rotate_left
            · (intro w hSw; (try dsimp only at hSw); go_simp; try with_reducible rfl)
            try simp only [Act.put, List.setIfInBounds_toArray, List.set_cons_zero, List.set_cons_succ]
            refine wpAnyH_take (i := 2) (oi := ⟨some 31, .call { callee := Callee.builtin Builtin.len, args := #[.tmp 30], argTypes := #[22] }, 3, "ref.go:18", #[⟨1, .data⟩], none⟩) (v := ?_) rfl (by kernel_rfl) (by kernel_rfl) (by kernel_rfl) (fun _ _ _ h => h) (Or.inl ⟨by first | kernel_rfl | rfl, ?_⟩) (by assumption) ?_
            rotate_left
            · (intro w hSw; (try dsimp only at hSw); go_simp; try with_reducible rfl)
            try simp only [Act.put, List.setIfInBounds_toArray, List.set_cons_zero, List.set_cons_succ]
            refine wpAnyH_take (i := 3) (oi := ⟨some 32, .binOp BinOp.eql 3 (.tmp 29) (.tmp 31) 3, 4, "ref.go:18", #[⟨0, .data⟩, ⟨2, .data⟩], none⟩) (v := ?_) rfl (by kernel_rfl) (by kernel_rfl) (by kernel_rfl) (fun _ _ _ h => h) (Or.inl ⟨by first | kernel_rfl | rfl, ?_⟩) (by assumption) ?_
            rotate_left
            · (intro w hSw; (try dsimp only at hSw); go_simp; try with_reducible rfl)
            try simp only [Act.put, List.setIfInBounds_toArray, List.set_cons_zero, List.set_cons_succ]
            refine wpAnyH_take (i := 4) (oi := ⟨some 33, .move (.tmp 32), 4, "ref.go:18", #[⟨3, .data⟩], none⟩) (v := ?_) rfl (by kernel_rfl) (by kernel_rfl) (by kernel_rfl) (fun _ _ _ h => h) (Or.inl ⟨by first | kernel_rfl | rfl, ?_⟩) (by assumption) ?_
            rotate_left
            · (intro w hSw; (try dsimp only at hSw); go_simp; try with_reducible rfl)
            try simp only [Act.put, List.setIfInBounds_toArray, List.set_cons_zero, List.set_cons_succ]
            refine wpAnyH_take (i := 5) (oi := ⟨some 34, .move (.tmp 3), 22, "ref.go:18", #[⟨4, .guard⟩], some (4, Bool.false)⟩) (v := undef) rfl (by kernel_rfl) (by kernel_rfl) (by kernel_rfl) (fun _ _ _ h => h) (Or.inr ⟨by first | kernel_rfl | rfl, rfl⟩) (by assumption) ?_
            try simp only [Act.put, List.setIfInBounds_toArray, List.set_cons_zero, List.set_cons_succ]
            refine wpAnyH_take (i := 6) (oi := ⟨some 35, .move (.tmp 5), 3, "ref.go:18", #[⟨4, .guard⟩], some (4, Bool.false)⟩) (v := undef) rfl (by kernel_rfl) (by kernel_rfl) (by kernel_rfl) (fun _ _ _ h => h) (Or.inr ⟨by first | kernel_rfl | rfl, rfl⟩) (by assumption) ?_
            try simp only [Act.put, List.setIfInBounds_toArray, List.set_cons_zero, List.set_cons_succ]
            refine wpAnyH_take (i := 7) (oi := ⟨some 36, .indexAddr 22 (.tmp 34) (.tmp 35), 0, "ref.go:18", #[⟨5, .data⟩, ⟨6, .data⟩, ⟨4, .guard⟩], some (4, Bool.false)⟩) (v := undef) rfl (by kernel_rfl) (by kernel_rfl) (by kernel_rfl) (fun _ _ _ h => h) (Or.inr ⟨by first | kernel_rfl | rfl, rfl⟩) (by assumption) ?_
            try simp only [Act.put, List.setIfInBounds_toArray, List.set_cons_zero, List.set_cons_succ]
            refine wpAnyH_take (i := 8) (oi := ⟨some 37, .load 3 (.tmp 36), 3, "ref.go:18", #[⟨7, .data⟩, ⟨4, .guard⟩], some (4, Bool.false)⟩) (v := undef) rfl (by kernel_rfl) (by kernel_rfl) (by kernel_rfl) (fun _ _ _ h => h) (Or.inr ⟨by first | kernel_rfl | rfl, rfl⟩) (by assumption) ?_
            try simp only [Act.put, List.setIfInBounds_toArray, List.set_cons_zero, List.set_cons_succ]
            refine wpAnyH_take (i := 9) (oi := ⟨some 38, .move (.tmp 0), 23, "ref.go:18", #[⟨4, .guard⟩], some (4, Bool.false)⟩) (v := undef) rfl (by kernel_rfl) (by kernel_rfl) (by kernel_rfl) (fun _ _ _ h => h) (Or.inr ⟨by first | kernel_rfl | rfl, rfl⟩) (by assumption) ?_
            try simp only [Act.put, List.setIfInBounds_toArray, List.set_cons_zero, List.set_cons_succ]
            refine wpAnyH_take (i := 10) (oi := ⟨some 39, .move (.tmp 4), 3, "ref.go:18", #[⟨4, .guard⟩], some (4, Bool.false)⟩) (v := undef) rfl (by kernel_rfl) (by kernel_rfl) (by kernel_rfl) (fun _ _ _ h => h) (Or.inr ⟨by first | kernel_rfl | rfl, rfl⟩) (by assumption) ?_
            try simp only [Act.put, List.setIfInBounds_toArray, List.set_cons_zero, List.set_cons_succ]
            refine wpAnyH_take (i := 11) (oi := ⟨some 40, .indexAddr 23 (.tmp 38) (.tmp 39), 0, "ref.go:18", #[⟨9, .data⟩, ⟨10, .data⟩, ⟨4, .guard⟩], some (4, Bool.false)⟩) (v := undef) rfl (by kernel_rfl) (by kernel_rfl) (by kernel_rfl) (fun _ _ _ h => h) (Or.inr ⟨by first | kernel_rfl | rfl, rfl⟩) (by assumption) ?_
            try simp only [Act.put, List.setIfInBounds_toArray, List.set_cons_zero, List.set_cons_succ]
            refine wpAnyH_take (i := 12) (oi := ⟨some 41, .fieldAddr 28 (.tmp 40) 0, 0, "ref.go:18", #[⟨11, .data⟩, ⟨4, .guard⟩], some (4, Bool.false)⟩) (v := undef) rfl (by kernel_rfl) (by kernel_rfl) (by kernel_rfl) (fun _ _ _ h => h) (Or.inr ⟨by first | kernel_rfl | rfl, rfl⟩) (by assumption) ?_
            try simp only [Act.put, List.setIfInBounds_toArray, List.set_cons_zero, List.set_cons_succ]
            refine wpAnyH_take (i := 13) (oi := ⟨some 42, .load 3 (.tmp 41), 3, "ref.go:18", #[⟨12, .data⟩, ⟨4, .guard⟩], some (4, Bool.false)⟩) (v := undef) rfl (by kernel_rfl) (by kernel_rfl) (by kernel_rfl) (fun _ _ _ h => h) (Or.inr ⟨by first | kernel_rfl | rfl, rfl⟩) (by assumption) ?_
            try simp only [Act.put, List.setIfInBounds_toArray, List.set_cons_zero, List.set_cons_succ]
            refine wpAnyH_take (i := 14) (oi := ⟨some 43, .binOp BinOp.neq 3 (.tmp 37) (.tmp 42) 3, 4, "ref.go:18", #[⟨8, .data⟩, ⟨13, .data⟩, ⟨4, .guard⟩], some (4, Bool.false)⟩) (v := undef) rfl (by kernel_rfl) (by kernel_rfl) (by kernel_rfl) (fun _ _ _ h => h) (Or.inr ⟨by first | kernel_rfl | rfl, rfl⟩) (by assumption) ?_
            try simp only [Act.put, List.setIfInBounds_toArray, List.set_cons_zero, List.set_cons_succ]
            refine wpAnyH_take (i := 15) (oi := ⟨some 44, .pick (.tmp 33) (.const (.bool Bool.true)) (.tmp 43), 4, "ref.go:18", #[⟨4, .data⟩, ⟨14, .data⟩], none⟩) (v := ?_) rfl (by kernel_rfl) (by kernel_rfl) (by kernel_rfl) (fun _ _ _ h => h) (Or.inl ⟨by first | kernel_rfl | rfl, ?_⟩) (by assumption) ?_
            rotate_left
            · (intro w hSw; (try dsimp only at hSw); go_simp; try with_reducible rfl)
            try simp only [Act.put, List.setIfInBounds_toArray, List.set_cons_zero, List.set_cons_succ]
            refine wpAnyH_done (by kernel_rfl) ?_ _
            refine NoPanic.normal ?_
            rcases Classical.em (a = cB) with hca | hca
            · subst hca
              go_wp2
              go_region_law (first
                | (refine step_apt _ rfl (.tmp 56) (.tmp 59) rfl wq.heap.size v2 _ _ rfl (own_bel hO2 (by repeat (first | exact Bel.rf | (with_reducible refine Bel.drwN ?_ _) | (with_reducible refine Bel.drw ?_) | (with_reducible refine Bel.al ?_ _)))) _ 0 _ (T.drop a) (by first | rfl | simp [Act.eval, *]) (HZD.out _ _ (by repeat (first | exact hB2 | (with_reducible refine Bel.drwN ?_ _) | (with_reducible refine Bel.drw ?_) | (with_reducible refine Bel.al ?_ _)))) (by omega) (by have := hB2.size; simp at *; omega) ?_; intro v3 w3 h3 hg3; have hB3 : Bel wq w3 := bel_grt (by repeat (first | exact hB2 | (with_reducible refine Bel.drwN ?_ _) | (with_reducible refine Bel.drw ?_) | (with_reducible refine Bel.al ?_ _))) hg3 (fun q e => (hO2.lt q e).1))
                | (refine step_apt _ rfl (.tmp 49) (.tmp 55) rfl wq.heap.size v1 _ _ rfl (own_bel hO1 (by repeat (first | exact Bel.rf | (with_reducible refine Bel.drwN ?_ _) | (with_reducible refine Bel.drw ?_) | (with_reducible refine Bel.al ?_ _)))) _ 1 1 [t] rfl (by first | (refine Zi.bel (zi_1t (Bk.nq ?_ _ _ ?_)) ?_; rotate_left 2; (repeat (first | (with_reducible exact Bel.rf) | (with_reducible refine Bel.drwN ?_ _) | (with_reducible refine Bel.drw ?_) | (with_reducible refine Bel.al ?_ _))); all_goals first | (simp; done) | (simp [Value.ownBlock]; done)) | (refine Zi.bel (zi_1t (hkA _ ?_ (Bk.bel (Bk.nq ?_ _ _ ?_) ?_))) ?_; rotate_left 4; (repeat (first | (with_reducible exact Bel.rf) | (with_reducible refine Bel.drwN ?_ _) | (with_reducible refine Bel.drw ?_) | (with_reducible refine Bel.al ?_ _))); rotate_left 3; (repeat (first | (with_reducible exact Bel.rf) | (with_reducible refine Bel.drwN ?_ _) | (with_reducible refine Bel.drw ?_) | (with_reducible refine Bel.al ?_ _))); all_goals first | (simp; done) | (simp [Value.ownBlock]; done))) (by omega) (by have := hB1.size; simp at *; omega) ?_; intro v2 w2 hO2 hg2; have hB2 : Bel wq w2 := bel_grt (by repeat (first | exact hB1 | (with_reducible refine Bel.drwN ?_ _) | (with_reducible refine Bel.drw ?_) | (with_reducible refine Bel.al ?_ _))) hg2 (fun q e => (hO1.lt q e).1); have c1b := hB2.kp c1)
                | (refine step_apt _ rfl (.tmp 45) (.tmp 48) rfl wq.heap.size (.slice (some ⟨wq.heap.size, 0, none⟩) 0 0) 0 [] rfl (by refine own_bel (own_madet ?_ _ ?_ ?_) ?_; rotate_left 3; (repeat (first | (with_reducible exact Bel.rf) | (with_reducible refine Bel.drwN ?_ _) | (with_reducible refine Bel.drw ?_) | (with_reducible refine Bel.al ?_ _))); all_goals first | (simp; done) | (simp [Value.ownBlock]; done)) (some ⟨gb, 0, none⟩) a a (T.take a) rfl (HZF.out _ (by repeat (first | exact Bel.rf | (with_reducible refine Bel.drwN ?_ _) | (with_reducible refine Bel.drw ?_) | (with_reducible refine Bel.al ?_ _)))) (by omega) (by first | (simp; done) | (simp; omega)) ?_; intro v1 w1 hO1 hg1; have hB1 : Bel wq w1 := bel_grt (by repeat (first | exact Bel.rf | (with_reducible refine Bel.drwN ?_ _) | (with_reducible refine Bel.drw ?_) | (with_reducible refine Bel.al ?_ _))) hg1 (fun q e => by cases e; simp); have hkA := fun q hq h => bk_grt (g := q) (t := 3) (cs := #[.int .i64 t]) h hg1 hq; have c1a := hB1.kp c1)
                | (refine step_apt _ rfl (.tmp 45) (.tmp 48) rfl wq.heap.size (.slice (some ⟨(wq.heap.size + 1), 0, none⟩) 0 0) 0 [] rfl (by refine own_bel (own_madet ?_ _ ?_ ?_) ?_; rotate_left 3; (repeat (first | (with_reducible exact Bel.rf) | (with_reducible refine Bel.drwN ?_ _) | (with_reducible refine Bel.drw ?_) | (with_reducible refine Bel.al ?_ _))); all_goals first | (simp; done) | (simp [Value.ownBlock]; done)) (some ⟨gb, 0, none⟩) a a (T.take a) rfl (HZF.out _ (by repeat (first | exact Bel.rf | (with_reducible refine Bel.drwN ?_ _) | (with_reducible refine Bel.drw ?_) | (with_reducible refine Bel.al ?_ _)))) (by omega) (by first | (simp; done) | (simp; omega)) ?_; intro v1 w1 hO1 hg1; have hB1 : Bel wq w1 := bel_grt (by repeat (first | exact Bel.rf | (with_reducible refine Bel.drwN ?_ _) | (with_reducible refine Bel.drw ?_) | (with_reducible refine Bel.al ?_ _))) hg1 (fun q e => by cases e; simp); have hkA := fun q hq h => bk_grt (g := q) (t := 3) (cs := #[.int .i64 t]) h hg1 hq; have c1a := hB1.kp c1))
              all_goals
                have hE : 0 + a + 1 + 0 = a + 1 := by omega
                have hL3 : [] ++ T.take a ++ [t] ++ T.drop a = uts (l.take (i + 1)) := by rw [HSN.out, HWY.out]; simp
                rw [hE, hL3] at h3
                obtain ⟨B3, c3, rfl, hz3, hs3⟩ := own_ns h3 (by have := HZI.out.1; rw [← hL3]; simp only [List.length_append, List.length_take, List.length_drop, List.length_cons, List.length_nil]; omega)
                have HR3 : Hid (Zi w3 B3 (a + 1) (uts (l.take (i + 1))) ∧ Ns B3 (a + 1) c3 ∧ Bel w w3) := ⟨hz3, hs3, (HB.out.tr HQ.out).tr hB3⟩
                clear h3 hg3 hB3 hz3 hs3 hE hL3
                go_wp2
                go_roundw
                case rel => exact ⟨i + 1, _, B3, a + 1, c3, rfl, by omega, rfl, by go_num, by exact HR3.out.1.bel (by repeat (first | exact Bel.rf | (with_reducible refine Bel.drwN ?_ _) | (with_reducible refine Bel.drw ?_) | (with_reducible refine Bel.al ?_ _))), HR3.out.2.1, (by repeat (first | exact HR3.out.2.2 | (with_reducible refine Bel.drwN ?_ _) | (with_reducible refine Bel.drw ?_) | (with_reducible refine Bel.al ?_ _)))⟩
                case measure => simp [intOf]; omega
            · have HCA := Lib.hid hca
              go_wp2
              go_region_law (first
                | (refine step_apt _ rfl (.tmp 56) (.tmp 59) rfl wq.heap.size v2 _ _ rfl (own_bel hO2 (by repeat (first | exact Bel.rf | (with_reducible refine Bel.drwN ?_ _) | (with_reducible refine Bel.drw ?_) | (with_reducible refine Bel.al ?_ _)))) _ 0 _ (T.drop a) (by first | rfl | simp [Act.eval, *]) (HZD.out _ _ (by repeat (first | exact hB2 | (with_reducible refine Bel.drwN ?_ _) | (with_reducible refine Bel.drw ?_) | (with_reducible refine Bel.al ?_ _)))) (by omega) (by have := hB2.size; simp at *; omega) ?_; intro v3 w3 h3 hg3; have hB3 : Bel wq w3 := bel_grt (by repeat (first | exact hB2 | (with_reducible refine Bel.drwN ?_ _) | (with_reducible refine Bel.drw ?_) | (with_reducible refine Bel.al ?_ _))) hg3 (fun q e => (hO2.lt q e).1))
                | (refine step_apt _ rfl (.tmp 49) (.tmp 55) rfl wq.heap.size v1 _ _ rfl (own_bel hO1 (by repeat (first | exact Bel.rf | (with_reducible refine Bel.drwN ?_ _) | (with_reducible refine Bel.drw ?_) | (with_reducible refine Bel.al ?_ _)))) _ 1 1 [t] rfl (by first | (refine Zi.bel (zi_1t (Bk.nq ?_ _ _ ?_)) ?_; rotate_left 2; (repeat (first | (with_reducible exact Bel.rf) | (with_reducible refine Bel.drwN ?_ _) | (with_reducible refine Bel.drw ?_) | (with_reducible refine Bel.al ?_ _))); all_goals first | (simp; done) | (simp [Value.ownBlock]; done)) | (refine Zi.bel (zi_1t (hkA _ ?_ (Bk.bel (Bk.nq ?_ _ _ ?_) ?_))) ?_; rotate_left 4; (repeat (first | (with_reducible exact Bel.rf) | (with_reducible refine Bel.drwN ?_ _) | (with_reducible refine Bel.drw ?_) | (with_reducible refine Bel.al ?_ _))); rotate_left 3; (repeat (first | (with_reducible exact Bel.rf) | (with_reducible refine Bel.drwN ?_ _) | (with_reducible refine Bel.drw ?_) | (with_reducible refine Bel.al ?_ _))); all_goals first | (simp; done) | (simp [Value.ownBlock]; done))) (by omega) (by have := hB1.size; simp at *; omega) ?_; intro v2 w2 hO2 hg2; have hB2 : Bel wq w2 := bel_grt (by repeat (first | exact hB1 | (with_reducible refine Bel.drwN ?_ _) | (with_reducible refine Bel.drw ?_) | (with_reducible refine Bel.al ?_ _))) hg2 (fun q e => (hO1.lt q e).1); have c1b := hB2.kp c1)
                | (refine step_apt _ rfl (.tmp 45) (.tmp 48) rfl wq.heap.size (.slice (some ⟨wq.heap.size, 0, none⟩) 0 0) 0 [] rfl (by refine own_bel (own_madet ?_ _ ?_ ?_) ?_; rotate_left 3; (repeat (first | (with_reducible exact Bel.rf) | (with_reducible refine Bel.drwN ?_ _) | (with_reducible refine Bel.drw ?_) | (with_reducible refine Bel.al ?_ _))); all_goals first | (simp; done) | (simp [Value.ownBlock]; done)) (some ⟨gb, 0, none⟩) a cB (T.take a) rfl (HZF.out _ (by repeat (first | exact Bel.rf | (with_reducible refine Bel.drwN ?_ _) | (with_reducible refine Bel.drw ?_) | (with_reducible refine Bel.al ?_ _)))) (by omega) (by first | (simp; done) | (simp; omega)) ?_; intro v1 w1 hO1 hg1; have hB1 : Bel wq w1 := bel_grt (by repeat (first | exact Bel.rf | (with_reducible refine Bel.drwN ?_ _) | (with_reducible refine Bel.drw ?_) | (with_reducible refine Bel.al ?_ _))) hg1 (fun q e => by cases e; simp); have hkA := fun q hq h => bk_grt (g := q) (t := 3) (cs := #[.int .i64 t]) h hg1 hq; have c1a := hB1.kp c1)
                | (refine step_apt _ rfl (.tmp 45) (.tmp 48) rfl wq.heap.size (.slice (some ⟨(wq.heap.size + 1), 0, none⟩) 0 0) 0 [] rfl (by refine own_bel (own_madet ?_ _ ?_ ?_) ?_; rotate_left 3; (repeat (first | (with_reducible exact Bel.rf) | (with_reducible refine Bel.drwN ?_ _) | (with_reducible refine Bel.drw ?_) | (with_reducible refine Bel.al ?_ _))); all_goals first | (simp; done) | (simp [Value.ownBlock]; done)) (some ⟨gb, 0, none⟩) a cB (T.take a) rfl (HZF.out _ (by repeat (first | exact Bel.rf | (with_reducible refine Bel.drwN ?_ _) | (with_reducible refine Bel.drw ?_) | (with_reducible refine Bel.al ?_ _)))) (by omega) (by first | (simp; done) | (simp; omega)) ?_; intro v1 w1 hO1 hg1; have hB1 : Bel wq w1 := bel_grt (by repeat (first | exact Bel.rf | (with_reducible refine Bel.drwN ?_ _) | (with_reducible refine Bel.drw ?_) | (with_reducible refine Bel.al ?_ _))) hg1 (fun q e => by cases e; simp); have hkA := fun q hq h => bk_grt (g := q) (t := 3) (cs := #[.int .i64 t]) h hg1 hq; have c1a := hB1.kp c1))
              all_goals
                have hE : 0 + a + 1 + 0 = a + 1 := by omega
                have hL3 : [] ++ T.take a ++ [t] ++ T.drop a = uts (l.take (i + 1)) := by rw [HSN.out, HWY.out]; simp
                rw [hE, hL3] at h3
                obtain ⟨B3, c3, rfl, hz3, hs3⟩ := own_ns h3 (by have := HZI.out.1; rw [← hL3]; simp only [List.length_append, List.length_take, List.length_drop, List.length_cons, List.length_nil]; omega)
                have HR3 : Hid (Zi w3 B3 (a + 1) (uts (l.take (i + 1))) ∧ Ns B3 (a + 1) c3 ∧ Bel w w3) := ⟨hz3, hs3, (HB.out.tr HQ.out).tr hB3⟩
                clear h3 hg3 hB3 hz3 hs3 hE hL3
                go_wp2
                go_roundw
                case rel => exact ⟨i + 1, _, B3, a + 1, c3, rfl, by omega, rfl, by go_num, by exact HR3.out.1.bel (by repeat (first | exact Bel.rf | (with_reducible refine Bel.drwN ?_ _) | (with_reducible refine Bel.drw ?_) | (with_reducible refine Bel.al ?_ _))), HR3.out.2.1, (by repeat (first | exact HR3.out.2.2 | (with_reducible refine Bel.drwN ?_ _) | (with_reducible refine Bel.drw ?_) | (with_reducible refine Bel.al ?_ _)))⟩
                case measure => simp [intOf]; omega
    · obtain rfl : i = n := by omega
      rw [List.take_of_length_le (by rw [HL.out]; omega)] at hzi
      have hk := hzi.1
      subst hk
      have HZI := Lib.hid hzi
      have HB := Lib.hid hb
      clear hzi hb hns
      go_wp2
      go_ret
      exact ⟨B, cB, rfl, by first | exact HZI.out | exact HZI.out.bel (Bel.rf.drwN _), by first | exact HB.out | exact HB.out.drwN _⟩
end Go.Proofs.Ytgcjangnlbhicaa.St
