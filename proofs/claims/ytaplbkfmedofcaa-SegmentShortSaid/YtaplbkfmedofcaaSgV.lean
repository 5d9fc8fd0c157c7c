/- The reference of layer 3: PutInt (out of Q3), Width of one number. -/
import Derived.Test.YtaplbkfmedofcaaSgR
namespace Go.Proofs.Ytaplbkfmedofcaa.Sg
open Go.ChangeShapes Go.WideShapes Go.RowKit Wo Sr Wi Cd Cr By Bm Pk
set_option linter.unusedVariables false
theorem rfold_ok (n : Int) (h : In64 n) (w : World) : Calls Try.prog 40 #[.int .i64 n] w fun e w' => e = .returned (.int .u64 (fld n : Int)) ∧ w = w' := by
  obtain ⟨h1, h2⟩ := h
  rcases Int.lt_or_le n 0 with h0 | h0
  · have e : ((fld n : Nat) : Int) = -2 * n - 1 := by unfold fld; rw [if_neg (by omega)]; omega
    rw [e]
    have q0 : ¬ 0 ≤ n := by omega
    have q1 : wrap64 (n + 1) = n + 1 := IntWalk.wrap64_in _ (by omega)
    have q2 : wrap64 (-(n + 1)) = -(n + 1) := IntWalk.wrap64_in _ (by omega)
    have q3 : IntKind.u64.wrap (-(n + 1)) = -(n + 1) := IntWalk.u64_in _ (by omega)
    have q4 : IntKind.u64.wrap (-(n + 1) * 2) = -(n + 1) * 2 := IntWalk.u64_in _ (by omega)
    have q5 : IntKind.u64.wrap (-(n + 1) * 2 + 1) = -(n + 1) * 2 + 1 := IntWalk.u64_in _ (by omega)
    go_enter Try.func40, Try.ntmps40
    go_wp2
    go_ret
    exact ⟨ret_int (by first | omega | (simp; omega)), rfl⟩
  · have e : ((fld n : Nat) : Int) = 2 * n := by unfold fld; rw [if_pos (by omega)]; omega
    rw [e]
    have q3 : IntKind.u64.wrap n = n := IntWalk.u64_in _ (by omega)
    have q4 : IntKind.u64.wrap (n * 2) = n * 2 := IntWalk.u64_in _ (by omega)
    go_enter Try.func40, Try.ntmps40
    go_wp2
    go_ret
    exact ⟨ret_int (by first | omega | (simp; omega)), rfl⟩
def QI (B : List Nat) (n : Int) (lb : Nat) (w : World) (s5 s6 : Value) (wr : World) : Prop := ∃ (k u : Nat) (L : List Nat) (V : World) (x : Value), V = wr ∧ x = s5 ∧ k ≤ 9 ∧ L.length = k ∧ L ++ enc (9 - k) u = bytesOf n ∧ u < room (9 - k) ∧ s6 = .int .u64 (u : Int) ∧
  wr.ownsRow w.heap.size 5 1 s5 (lb + k) (bys (B ++ L)) ∧ Bel w wr
set_option maxHeartbeats 4000000 in
theorem rput_ok (A : Option Addr) (c lb : Nat) (B : List Nat) (n : Int) (hn : In64 n) (hlb : B.length = lb) (hB : lb ≤ 1000000) (hnc : A = none → c = 0) (w : World) (hr : Rd w A lb B) :
    Calls Try.prog 22 #[.slice A lb c, .int .i64 n] w fun e w' => ∃ u : Value, e = .returned u ∧ w'.ownsRow w.heap.size 5 1 u (lb + (bytesOf n).length) (bys (B ++ bytesOf n)) ∧ Bel w w' := by
  obtain ⟨i0, hi0, hz0, hz1, hz2⟩ := info_parts info_u8
  have HI := Lib.hid (And.intro hi0 (And.intro hz0 (And.intro hz1 hz2)))
  have HR := Lib.hid hr
  have HNC := Lib.hid hnc
  have HF : Hid (∀ W, _) := fun W => rfold_ok n hn W
  have HFL : Hid (fld n < 18446744073709551616) := fld_lt hn.1 hn.2
  clear hi0 hz0 hz1 hz2 hr hnc
  go_enter Try.func22, Try.ntmps22
  go_upto_region 2 with (at_builtin; refine wpList_append_rd rfl (.tmp 7) (.tmp 8) 23 rfl w.heap.size 5 i0 (.int .u8 0) Try.underlying23 HI.out.1 HI.out.2.1 HI.out.2.2.1 HI.out.2.2.2 rfl (.slice (some ⟨w.heap.size, 0, none⟩) 0 0) 0 [] rfl (World.ownsRow_lit w #[] 0 (Nat.le_refl _) (by decide) rfl) A lb c B rfl (HR.out.bel (Bel.rf.al _)) HNC.out (by omega) (by simp) ?_; intro u6 w6 ho6 hg6
                         have HB6 : Hid (Bel w w6) := Below.grown ((Bel.rf.al _).bl) hg6 (by simp) (fun b e => by cases e; exact Nat.le_refl _)
                         have HO6 : Hid (w6.ownsRow w.heap.size 5 1 u6 lb (bys B)) := (by have h9 := ho6; rw [Nat.zero_add, List.nil_append] at h9; exact h9)
                         clear ho6 hg6)
  have HS : Hid (QI B n lb w u6 (.int .u64 (fld n : Int)) w6) := ⟨0, fld n, [], _, _, rfl, rfl, by omega, rfl, rfl, by rw [room_nine]; exact HFL.out, rfl, by rw [List.append_nil]; exact HO6.out, HB6.out⟩
  clear HO6 HB6 HR
  go_wp2_with (go_at_call 40; refine (HF.out _).mono ?_; rintro e w' ⟨rfl, rfl⟩)
  go_loopw [5, 6] (fun s5 s6 wr => QI B n lb w s5 s6 wr) (fun _ s6 _ => (intOf s6).toNat)
  case atStart => exact HS.out
  case round =>
    clear HS
    obtain ⟨k, u, L, wr, x, hwr, hx, hk, hL, hE, hu, rfl, ho, hb⟩ := hrel
    subst hwr hx
    have HO := Lib.hid ho
    have HB := Lib.hid hb
    have HE := Lib.hid (And.intro hL hE)
    have hrm := (room_le (9 - k) (by omega)).1
    rcases Nat.lt_or_ge u 128 with h1 | h1
    · have q1 : ¬ 128 ≤ (u : Int) := by omega
      have e1 : L ++ [u] = bytesOf n := by rw [← hE, enc_small _ h1]
      have e2 : (bytesOf n).length = k + 1 := by rw [← e1]; simp [hL]
      have q2 : IntKind.u8.wrap (u : Int) = (u : Int) := IntWalk.u8_in _ (by omega)
      have HE2 := Lib.hid (And.intro e1 e2)
      clear hE hL ho hb e1 e2 hu
      go_wp2_with (at_builtin; refine wpList_append_rd rfl (.tmp 23) (.tmp 26) 23 rfl w.heap.size 5 i0 (.int .u8 0) Try.underlying23 HI.out.1 HI.out.2.1 HI.out.2.2.1 HI.out.2.2.2 rfl x (lb + k) (bys (B ++ L)) rfl (own_bel1 HO.out (Bel.rf.al _)) _ 1 1 [u] rfl (rd_bk (Bk.nq _ _ _ rfl) (fun c hc => by simp at hc; omega) 1 rfl) (fun h => by cases h) (by omega) (HB.out.al _).size ?_; intro v' w9 h9 hg9
                   have HB9 : Hid (Bel w w9) := Below.grown (HB.out.al _).bl hg9 (HB.out.al _).size (fun b e => (HO.out.lt b e).1)
                   have HO9 : Hid (w9.ownsRow w.heap.size 5 1 v' (lb + (bytesOf n).length) (bys (B ++ bytesOf n))) := (by have h8 := h9; rw [← bys_app, List.append_assoc, HE2.out.1] at h8; rw [HE2.out.2, ← Nat.add_assoc]; exact h8)
                   clear h9 hg9)
      go_ret
      exact ⟨_, rfl, HO9.out, HB9.out⟩
    · rcases (show k = 9 ∨ k < 9 by omega) with h9 | h9
      · subst h9
        have := (room_le (9 - 9) (by omega)).2 rfl
        omega
      · obtain ⟨f, hf⟩ : ∃ f, 9 - k = f + 1 := ⟨8 - k, by omega⟩
        rw [hf] at hE hu hrm
        rw [enc_great f h1] at hE
        have e1 : (L ++ [u % 128 + 128]) ++ enc (9 - (k + 1)) (u / 128) = bytesOf n := by rw [← hE, show 9 - (k + 1) = f by omega, List.append_assoc]; rfl
        have e2 : u / 128 < room (9 - (k + 1)) := by rw [show 9 - (k + 1) = f by omega]; rw [room] at hu; omega
        have HE2 := Lib.hid (And.intro e1 e2)
        obtain ⟨y, hy⟩ : ∃ y, u % 128 + 128 = y := ⟨_, rfl⟩
        have q1 : 128 ≤ (u : Int) := by omega
        have q2 : IntKind.u64.wrap ((u : Int) % 128 + 128) = (y : Int) := by rw [IntWalk.u64_in _ (by omega)]; omega
        have q3 : IntKind.u8.wrap (y : Int) = (y : Int) := IntWalk.u8_in _ (by omega)
        have q4 : (u : Int) % 128 + 128 = (y : Int) := by omega
        have yl : y < 256 := by omega
        have q5 : IntKind.u64.wrap ((u : Int) / 128) = (u : Int) / 128 := IntWalk.u64_in _ (by omega)
        have HY := Lib.hid hy
        have hdv : (u : Int) / 128 = ((u / 128 : Nat) : Int) := by omega
        have HDV := Lib.hid hdv
        have ul : u / 128 < u := by omega
        clear hE hL ho hb e1 e2 hu hy hdv hrm
        go_upto_region 5 with (at_builtin; refine wpList_append_rd rfl (.tmp 14) (.tmp 19) 23 rfl w.heap.size 5 i0 (.int .u8 0) Try.underlying23 HI.out.1 HI.out.2.1 HI.out.2.2.1 HI.out.2.2.2 rfl x (lb + k) (bys (B ++ L)) rfl (own_bel1 HO.out (Bel.rf.al _)) _ 1 1 [y] rfl (rd_bk (Bk.nq _ _ _ rfl) (fun c hc => by simp at hc; omega) 1 rfl) (fun h => by cases h) (by omega) (HB.out.al _).size ?_; intro v' w9 h9 hg9
                               have HB9 : Hid (Bel w w9) := Below.grown (HB.out.al _).bl hg9 (HB.out.al _).size (fun b e => (HO.out.lt b e).1)
                               have HO9 : Hid (w9.ownsRow w.heap.size 5 1 v' (lb + (k + 1)) (bys (B ++ (L ++ [u % 128 + 128])))) := (by have h8 := h9; rw [← bys_app, List.append_assoc, ← HY.out] at h8; exact h8)
                               clear h9 hg9)
        go_wp2
        go_roundw
        case rel => exact ⟨k + 1, u / 128, L ++ [u % 128 + 128], _, _, rfl, rfl, by omega, by simp [HE.out.1], HE2.out.1, HE2.out.2, by rw [← HDV.out], HO9.out, HB9.out⟩
        case measure => simp [intOf]; omega
theorem rputn (g c lb : Nat) (B : List Nat) (n : Int) (hn : In64 n) (q : Nat) (hq : (bytesOf n).length = q) (hlb : B.length = lb) (hB : lb ≤ 1000000) (w : World) (hr : Rd w (some ⟨g, 0, none⟩) lb B) :
    Calls Try.prog 22 #[.slice (some ⟨g, 0, none⟩) lb c, .int .i64 n] w fun e w' => ∃ g' c' : Nat, e = .returned (.slice (some ⟨g', 0, none⟩) (lb + q) c') ∧ Rd w' (some ⟨g', 0, none⟩) (lb + q) (B ++ bytesOf n) ∧ Bel w w' := by
  refine (rput_ok (some ⟨g, 0, none⟩) c lb B n hn hlb hB (fun e => (by cases e)) w hr).mono ?_
  rintro e w' ⟨u, rfl, ho, hb⟩
  have h1 := bytesOf_len n
  rw [hq] at ho h1
  obtain ⟨g', c', rfl, _, _, _, hr'⟩ := own_rd ho (fun c hc => by
    rcases List.mem_append.1 hc with h | h
    · exact hr.2.1 c h
    · exact bytesOf_byte hn c h) (by rw [List.length_append, hlb, hq]) (by omega)
  exact ⟨g', c', rfl, hr', hb⟩
theorem shl12 {x : Nat} (hx : x ≤ 13) : wrap64 (2 ^ x) = ((2 ^ x : Nat) : Int) ∧ IntKind.i64.wrap ((2 : Int) ^ x) = ((2 ^ x : Nat) : Int) ∧ 1 ≤ 2 ^ x ∧ 2 ^ x ≤ 8192 := by
  have hp : 2 ^ x ≤ 2 ^ 13 := Nat.pow_le_pow_right (by omega) hx
  have h1 : 1 ≤ 2 ^ x := Nat.one_le_two_pow
  have e : (2 : Int) ^ x = ((2 ^ x : Nat) : Int) := by simp
  rw [e]
  exact ⟨IntWalk.wrap64_in _ (by omega), IntWalk.i64_in _ (by omega), h1, by omega⟩
theorem bl_up {d k : Nat} (hd : d < 4096) (h1 : ∀ j, j < k → 2 ^ j ≤ d) : k ≤ Lib.bitLen d := by
  rcases Nat.eq_zero_or_pos k with h0 | h0
  · omega
  · have h2 := h1 (k - 1) (by omega)
    have h3 := lt_bl (n := d) (by omega)
    rcases Nat.lt_or_ge (Lib.bitLen d) k with h | h
    · have := Nat.pow_le_pow_right (n := 2) (by omega) (show Lib.bitLen d ≤ k - 1 by omega)
      omega
    · exact h
theorem bl_dn {d k : Nat} (hd : d < 4096) (h1 : d < 2 ^ k) : Lib.bitLen d ≤ k := by
  rcases Nat.eq_zero_or_pos d with h0 | h0
  · subst h0; have : Lib.bitLen 0 = 0 := by decide
    omega
  · obtain ⟨c1, c2⟩ := bl_le_n (n := d) (by omega) (by omega)
    rcases Nat.lt_or_ge k (Lib.bitLen d) with h | h
    · have := Nat.pow_le_pow_right (n := 2) (by omega) (show k ≤ Lib.bitLen d - 1 by omega)
      omega
    · exact h
set_option maxHeartbeats 2000000 in
set_option maxRecDepth 100000 in
theorem rwidth1 (d g : Nat) (hd : d < 4096) (w : World) (hb : Bk w g 3 #[.int .i64 (d : Int)]) :
    Calls Try.prog 23 #[.slice (some ⟨g, 0, none⟩) 1 1] w fun e w' => e = .returned (.int .i64 (wd [d] : Int)) ∧ Bel w w' := by
  have HC := Lib.hid hb
  have hl := bl_small hd
  obtain ⟨b, hbb⟩ : ∃ b, Lib.bitLen d = b := ⟨_, rfl⟩
  have HUP : Hid (∀ k, (∀ j, j < k → 2 ^ j ≤ d) → k ≤ b) := fun k h => by rw [← hbb]; exact bl_up hd h
  have HDN : Hid (∀ k, d < 2 ^ k → b ≤ k) := fun k h => by rw [← hbb]; exact bl_dn hd h
  rw [wd_one, hbb]
  rw [hbb] at hl
  have di : (d : Int) < 4096 := by omega
  have d0 : ¬ (d : Int) < 0 := by omega
  have d1 : ¬ (4294967295 : Int) < (d : Int) := by omega
  clear hb hbb
  go_enter Try.func23, Try.ntmps23
  go_wp2
  go_loopw [3, 7] (fun s3 s7 wr => ((s7 = .int .i64 0 ∧ s3 = .int .i64 0) ∨ (s7 = .int .i64 1 ∧ s3 = .int .i64 (b : Int))) ∧ Bel w wr) (fun _ s7 _ => 1 - (intOf s7).toNat)
  case atStart => exact ⟨.inl ⟨rfl, rfl⟩, Bel.rf⟩
  case round =>
    obtain ⟨⟨rfl, rfl⟩ | ⟨rfl, rfl⟩, hb⟩ := hrel
    · rename_i wr
      have c1 := (HC.out.bel hb).cell 0
      simp only [List.getElem?_toArray, List.getElem?_cons_zero] at c1
      have HB := Lib.hid hb
      clear hb
      go_wp2
      go_loopw [3] (fun s3 wr' => ∃ (k : Nat) (V : World), V = wr' ∧ k ≤ b ∧ s3 = .int .i64 (k : Int) ∧ (∀ j, j < k → 2 ^ j ≤ d) ∧ Bel w wr') (fun s3 _ => b - (intOf s3).toNat)
      case atStart => exact ⟨0, _, rfl, by omega, rfl, fun j hj => by omega, HB.out⟩
      case round =>
        obtain ⟨k, wq, hwq, hk, rfl, hall, hb2⟩ := hrel
        subst hwq
        have c2 := (HC.out.bel hb2).cell 0
        simp only [List.getElem?_toArray, List.getElem?_cons_zero] at c2
        have HB2 := Lib.hid hb2
        have HAL := Lib.hid hall
        obtain ⟨s1, s2, s3, s4⟩ := shl12 (show k ≤ 13 by omega)
        obtain ⟨p, hp⟩ : ∃ p, 2 ^ k = p := ⟨_, rfl⟩
        rw [hp] at s1 s2 s3 s4
        have HP := Lib.hid hp
        have k0 : (0 : Int) ≤ (k : Int) := by omega
        clear hb2 hall hp c1
        rcases Nat.lt_or_ge d p with hlt | hge
        · have e1 : ¬ (p : Int) ≤ (d : Int) := by omega
          have e2 : decide ((p : Int) ≤ (d : Int)) = false := decide_eq_false e1
          have hkb : Hid (k = b) := by show _ = _; have := HDN.out k (by rw [HP.out]; exact hlt); omega
          clear hlt
          go_wp2
          go_quiet (fail)
          go_wp2
          go_roundw
          case rel => exact ⟨.inr ⟨by go_num, by rw [hkb.out]⟩, by first | exact HB2.out | exact HB2.out.drwN _ | exact HB2.out.drw⟩
          case measure => simp [intOf]
        · have e1 : (p : Int) ≤ (d : Int) := by omega
          have e2 : decide ((p : Int) ≤ (d : Int)) = true := decide_eq_true e1
          have HA2 : Hid (∀ j, j < k + 1 → 2 ^ j ≤ d) := fun j hj => by
            rcases Nat.lt_or_ge j k with h | h
            · exact HAL.out j h
            · obtain rfl : j = k := by omega
              rw [HP.out]; exact hge
          have hkb := HUP.out (k + 1) HA2.out
          clear hge
          go_wp2
          go_quiet (fail)
          go_wp2
          go_roundw
          case rel => exact ⟨k + 1, _, rfl, hkb, by go_num, HA2.out, by first | exact HB2.out | exact HB2.out.drwN _ | exact HB2.out.drw⟩
          case measure => simp [intOf]; omega
    · go_wp2
      go_ret
      exact ⟨rfl, hb⟩
end Go.Proofs.Ytaplbkfmedofcaa.Sg
