/- The contract of codec.PutInt: the bytes of the slice, and behind them the encoding of the number. -/
import Derived.Test.YtaplbkfmedofcaaCodecFold
import Derived.Test.YtaplbkfmedofcaaBytes
namespace Go.Proofs.Ytaplbkfmedofcaa.Cd
open Go.ChangeShapes Go.WideShapes Go.RowKit Wo Bm By
set_option linter.unusedVariables false
theorem info_u8 : (Try.prog.info? 5).map (fun i => (i.zero, i.size, i.bytes)) = some (some (.int .u8 0), 1, 1) := by kernel_rfl
theorem size_u8 : (Try.prog.info? 5).map (·.size) = some 1 := by kernel_rfl
def SomePut (B : List Nat) (n : Int) (w : World) (e : Ending) (w' : World) : Prop := ∃ h : Nat, e = .returned (.slice (some ⟨h, 0, none⟩) (B.length + (bytesOf n).length) (B.length + 10)) ∧
  w'.ownsRow w.heap.size 5 1 (.slice (some ⟨h, 0, none⟩) (B.length + (bytesOf n).length) (B.length + 10)) (B.length + (bytesOf n).length) (bys (B ++ bytesOf n)) ∧ Bel w w'
/-- the loop's relation: some bytes have been written, u is what is left -/
def PRel (B : List Nat) (n : Int) (h : Nat) (w : World) (s5 s6 : Value) (wr : World) : Prop := ∃ (k u : Nat) (L : List Nat), k ≤ 9 ∧ L.length = k ∧ L ++ enc (9 - k) u = bytesOf n ∧ u < room (9 - k) ∧ s6 = .int .u64 (u : Int) ∧
  s5 = .slice (some ⟨h, 0, none⟩) (B.length + k) (B.length + 10) ∧ wr.ownsRow w.heap.size 5 1 (.slice (some ⟨h, 0, none⟩) (B.length + k) (B.length + 10)) (B.length + k) (bys (B ++ L)) ∧ Bel w wr
theorem room_le : ∀ f, f ≤ 9 → room f ≤ 18446744073709551616 ∧ (f = 0 → room f = 2) := by decide
theorem low7 (u : Nat) : bits .or .u8 (IntKind.u8.wrap (u : Int)) 128 = ((u % 128 + 128 : Nat) : Int) := by
  rw [wrap_u8, show ((u : Int) % 256) = ((u % 256 : Nat) : Int) by omega, or128_u8 (by omega)]
  omega
set_option maxHeartbeats 8000000 in
set_option maxRecDepth 100000 in
theorem put_any (A : Option Addr) (c : Nat) (B : List Nat) (n : Int) (h0 : -9223372036854775808 ≤ n) (h1 : n ≤ 9223372036854775807) (hB : B.length ≤ 140737488355000) (w : World) (hr : Rd w A B.length B) :
    Calls Try.prog 30 #[.slice A B.length c, .int .i64 n] w (SomePut B n w) := by
  obtain ⟨i0, hi0, hz0, hz1, hz2⟩ := info_parts info_u8
  have HF := Lib.hid (fun w => fold_any n h0 h1 w)
  have HI := Lib.hid (And.intro hi0 (And.intro hz0 (And.intro hz1 hz2)))
  have HR := Lib.hid hr
  have bl : (B.length : Int) ≤ 140737488355000 := by omega
  clear hi0 hz0 hz1 hz2 hr
  have HP : Hid (0 < (bys B).length → (some ⟨w.heap.size, 0, none⟩ : Option Addr) = some ⟨w.heap.size, 0, none⟩ ∧ ∃ ad, A = some ad ∧ ∀ j v, (bys B)[j]? = some v → (w.alloc (.cells (bys (List.replicate (B.length + 10) 0)).toArray 5)).cell? (ad.add j) = some v) := by
    show _ → _
    intro hp
    refine ⟨rfl, ?_⟩
    obtain ⟨ad, e, hb, hc⟩ := HR.out.2.2 (by simpa [bys_len] using hp)
    refine ⟨ad, e, fun j v hv => ?_⟩
    have hj : j < B.length := by
      rcases Nat.lt_or_ge j B.length with h | h
      · exact h
      · rw [List.getElem?_eq_none (by rw [bys_len]; exact h)] at hv; cases hv
    rw [bys_at hj] at hv
    cases hv
    exact kp_al (hc j hj) _
  have HH : Hid ((w.alloc (.cells (bys (List.replicate (B.length + 10) 0)).toArray 5)).heap[w.heap.size]? = some (.cells (bys (List.replicate (B.length + 10) 0)).toArray 5)) := heap_alloc_new w _
  have HL : Hid ((bys B).length = Nat.min B.length B.length) := by show _ = _; simp [bys_len]
  have HL2 : Hid (0 + (bys B).length ≤ (bys (List.replicate (B.length + 10) 0)).length) := by show _ ≤ _; simp [bys_len]
  have HBE : Hid (Below w.heap.size w (w.alloc (.cells (bys (List.replicate (B.length + 10) 0)).toArray 5))) := (Bel.rf.al _).bl
  go_enter Try.func30, Try.ntmps30
  go_upto_region 2 with (refine wpList_make_any _ rfl (.tmp 8) (.tmp 11) 23 rfl 5 i0 (.int .u8 0) 1 Try.underlying23 HI.out.1 HI.out.2.1 HI.out.2.2.1 .i64 .i64 _ _ B.length (B.length + 10) rfl rfl rfl (by omega) (by omega) (by rw [HI.out.2.2.2]; omega) (by omega) ?_; rw [made_u8])
  go_wp2_with (first
    | (refine wpList_copy_splice rfl (.tmp 13) (.tmp 14) 23 23 rfl 5 Try.underlying23 size_u8 (some ⟨w.heap.size, 0, none⟩) A B.length (B.length + 10) B.length c rfl rfl w.heap.size 0 (bys (List.replicate (B.length + 10) 0)) 5 HH.out (bys B) HL.out HP.out HL2.out bys_one w.heap.size w HBE.out (Nat.le_refl _) ?_; intro w2 HG2 hB2)
    | (go_at_call 46; refine (HF.out _).mono ?_; rintro e w' ⟨rfl, rfl⟩))
  have HS : Hid (PRel B n w.heap.size w (.slice (some ⟨w.heap.size, 0, none⟩) B.length (B.length + 10)) (.int .u64 (fld n : Int)) w2) := by
    refine ⟨0, fld n, [], by omega, rfl, rfl, by rw [room_nine]; exact fld_lt h0 h1, rfl, rfl, ⟨by simp [bys_len], .inr ⟨_, _, _, rfl, Nat.le_refl _, HG2.out, by omega, by unfold maxLen; omega, ?_, ?_⟩⟩, hB2⟩
    · simp [splice, bys_len]
    · simp [splice, bys_len]
  clear HG2 hB2 HP HH HL HL2 HBE HR HF
  go_loopw [5, 6] (fun s5 s6 wr => PRel B n w.heap.size w s5 s6 wr) (fun _ s6 _ => (intOf s6).toNat)
  case atStart => exact HS.out
  case round =>
    clear HS
    obtain ⟨k, u, L, hk, hL, hE, hu, rfl, rfl, hown, hb⟩ := hrel
    rename_i wr
    have HO := Lib.hid hown
    have HB := Lib.hid hb
    have HE := Lib.hid hE
    have HLL := Lib.hid hL
    rcases Nat.lt_or_ge 127 u with hg | hg
    · have hk9 : k < 9 := by
        rcases Nat.lt_or_ge k 9 with h | h
        · exact h
        · have := (room_le (9 - k) (by omega)).2 (by omega); omega
      obtain ⟨f, hf⟩ : ∃ f, 9 - k = f + 1 := ⟨8 - k, by omega⟩
      have hE2 : L ++ [u % 128 + 128] ++ enc f (u / 128) = bytesOf n := by
        have := HE.out
        rw [hf, enc_great f (by omega)] at this
        simpa using this
      have hu2 : u / 128 < room f := by rw [hf] at hu; simp [room] at hu; omega
      obtain ⟨x, hx⟩ : ∃ x, u % 128 + 128 = x := ⟨_, rfl⟩
      have e1 : bits .or .u8 ((u : Int) % 256) 128 = (x : Int) := by rw [← wrap_u8, low7, hx]
      rw [hx] at hE2
      have HE2 := Lib.hid hE2
      have HU2 := Lib.hid hu2
      have HX := Lib.hid hx
      have HF9 := Lib.hid hf
      have gi : (127 : Int) < (u : Int) := by omega
      have HC : Hid (∀ j v, [Value.int .u8 (x : Int)][j]? = some v → (wr.alloc (.cells #[.int .u8 (x : Int)] 5)).cell? ((⟨wr.heap.size, 0, none⟩ : Addr).add j) = some v) := by
        intro j v hv
        rw [add_row, (Bk.nw wr _ _).cell j]
        simpa using hv
      clear hown hb hE hL hE2 hu2 hx hf hu
      go_wp2_with (first
        | (at_builtin; go_loud (refine wpList_append_fits _ rfl (.tmp 22) (.tmp 26) 23 rfl w.heap.size 5 i0 1 Try.underlying23 HI.out.1 HI.out.2.2.1 w.heap.size (B.length + k) (B.length + 10) (bys (B ++ L)) rfl (HO.out.alloc _) ⟨wr.heap.size, 0, none⟩ 1 1 [.int .u8 (x : Int)] rfl rfl HC.out (by intro v hv; simp at hv; subst hv; rfl) (by omega) ?_); intro w3 hown3 hg3))
      have HO3 := Lib.hid hown3
      have HG3 := Lib.hid hg3
      clear hown3 hg3 e1
      go_roundw
      case rel =>
        refine ⟨k + 1, u / 128, L ++ [x], by omega, by have := HLL.out; simp [this], ?_, ?_, by go_num, rfl, ?_, ?_⟩
        · have := HF9.out
          rw [show 9 - (k + 1) = f by omega, HE2.out]
        · have := HF9.out
          rw [show 9 - (k + 1) = f by omega]; exact HU2.out
        · have := HO3.out
          rw [show bys (B ++ (L ++ [x])) = bys (B ++ L) ++ [.int .u8 (x : Int)] by simp [bys]]
          exact this
        · exact Below.grown (Bel.al HB.out _).bl HG3.out (by simp; have := HB.out.size; omega) (fun b e => by cases e; exact Nat.le_refl _)
      case measure => simp [intOf]; omega
    · have hE2 : L ++ [u] = bytesOf n := by
        have := HE.out
        rwa [enc_small _ (by omega)] at this
      have HE2 := Lib.hid hE2
      have gi : (u : Int) ≤ 127 := by omega
      have gi0 : (0 : Int) ≤ (u : Int) := by omega
      have HC : Hid (∀ j v, [Value.int .u8 (u : Int)][j]? = some v → (wr.alloc (.cells #[.int .u8 (u : Int)] 5)).cell? ((⟨wr.heap.size, 0, none⟩ : Addr).add j) = some v) := by
        intro j v hv
        rw [add_row, (Bk.nw wr _ _).cell j]
        simpa using hv
      clear hown hb hE hL hE2 hu
      go_wp2_with (first
        | (at_builtin; refine wpList_append_fits _ rfl (.tmp 28) (.tmp 31) 23 rfl w.heap.size 5 i0 1 Try.underlying23 HI.out.1 HI.out.2.2.1 w.heap.size (B.length + k) (B.length + 10) (bys (B ++ L)) rfl (HO.out.alloc _) ⟨wr.heap.size, 0, none⟩ 1 1 [.int .u8 (u : Int)] rfl rfl HC.out (by intro v hv; simp at hv; subst hv; rfl) (by omega) ?_; intro w3 hown3 hg3))
      have HO3 := Lib.hid hown3
      have HG3 := Lib.hid hg3
      clear hown3 hg3
      go_ret
      have hln : (bytesOf n).length = k + 1 := by have := HLL.out; rw [← HE2.out]; simp [this]
      refine ⟨w.heap.size, by rw [hln]; rfl, ?_, ?_⟩
      · rw [hln]
        have := HO3.out
        rw [← HE2.out, show bys (B ++ (L ++ [u])) = bys (B ++ L) ++ [.int .u8 (u : Int)] by simp [bys]]
        exact this
      · exact Below.grown (Bel.al HB.out _).bl HG3.out (by simp; have := HB.out.size; omega) (fun b e => by cases e; exact Nat.le_refl _)
end Go.Proofs.Ytaplbkfmedofcaa.Cd
