/- The contracts of codec.size, fits, bit and Pack. -/
import Derived.Test.YtaplbkfmedofcaaCodecWidth
import Derived.Test.YtaplbkfmedofcaaCodecPut
import Derived.Test.YtaplbkfmedofcaaPackMath
import Derived.RegionTactic
namespace Go.Proofs.Ytaplbkfmedofcaa.Pk
open Go.ChangeShapes Go.WideShapes Go.RowKit Wo Bm By Cd
set_option linter.unusedVariables false
theorem size_any (n k N : Nat) (hN : (n * k + 7) / 8 = N) (hn : n ≤ 2000) (hk : k ≤ 32) (w : World) : Calls Try.prog 86 #[.int .i64 (n : Int), .int .i64 (k : Int)] w fun e w' => e = .returned (.int .i64 (N : Int)) ∧ w = w' := by
  have hm : n * k ≤ 2000 * 32 := Nat.mul_le_mul hn hk
  obtain ⟨m, hmm⟩ : ∃ m, n * k = m := ⟨_, rfl⟩
  rw [hmm] at hm hN
  have e1 : (n : Int) * (k : Int) = (m : Int) := by rw [← hmm]; simp
  have HN : Hid (((m : Int) + 7) / 8 = (N : Int)) := by show _ = _; omega
  have mi : (m : Int) ≤ 64000 := by omega
  clear hmm hN hn hk hm
  go_enter Try.func86, Try.ntmps86
  go_wp2
  go_ret
  exact ⟨ret_int HN.out, rfl⟩
theorem fits_no (n : Nat) (k : Nat) (hn : 2 ^ k ≤ n) (hn2 : n ≤ 4611686018427387904) (hk : k ≤ 32) (w : World) : Calls Try.prog 88 #[.int .i64 (n : Int), .int .i64 (k : Int)] w fun e w' => e = .returned (.bool false) ∧ w = w' := by
  have hz : ((n : Int) / 2 ^ k == 0) = false := by
    rw [beq_eq_false_iff_ne, show (2 : Int) ^ k = ((2 ^ k : Nat) : Int) by simp, ← Int.natCast_ediv]
    have : 0 < n / 2 ^ k := Nat.div_pos hn (Nat.two_pow_pos k)
    omega
  have ki : (k : Int) ≤ 32 := by omega
  have k0 : (0 : Int) ≤ (k : Int) := by omega
  have n0 : (0 : Int) ≤ (n : Int) := by omega
  clear hn hn2
  go_enter Try.func88, Try.ntmps88
  go_wp2
  go_ret
  exact ⟨rfl, rfl⟩
theorem bys_set (L : List Nat) (j c : Nat) : (bys L).toArray.setIfInBounds j (.int .u8 (c : Int)) = (bys (L.set j c)).toArray := by simp [bys]
theorem rd_bk {w : World} {h : Nat} {t : TypeId} {L : List Nat} (hb : Bk w h t (bys L).toArray) (hl : ∀ c ∈ L, c < 256) (n : Nat) (hn : L.length = n) : Rd w (some ⟨h, 0, none⟩) n L := by
  subst hn
  refine ⟨rfl, hl, fun _ => ⟨_, rfl, hb.lt, fun j hj => ?_⟩⟩
  rw [add_row, hb.cell j]
  simpa using bys_at hj
def PackOk (L : List Nat) (k N : Nat) (w : World) (e : Ending) (w' : World) : Prop := ∃ h : Nat, e = .returned (.tuple #[.slice (some ⟨h, 0, none⟩) N N, .int .i64 0]) ∧ Rd w' (some ⟨h, 0, none⟩) N (packed L k) ∧ (w.heap.size ≤ h ∧ Bk w' h 5 (bys (packed L k)).toArray) ∧ Bel w w'
def SomePack (L : List Nat) (k N : Nat) (w : World) (e : Ending) (w' : World) : Prop :=
  ((∀ n ∈ L, n < 2 ^ k) ∧ PackOk L k N w e w') ∨ ((∃ n ∈ L, 2 ^ k ≤ n) ∧ e = .returned (.tuple #[.slice none 0 0, .int .i64 1]) ∧ Bel w w')
def ORel (L : List Nat) (k N g : Nat) (w : World) (s27 : Value) (wr : World) : Prop := ∃ i : Nat, i ≤ L.length ∧ s27 = .int .i64 (i : Int) ∧ (∀ j, j < i → L.getD j 0 < 2 ^ k) ∧ Bk wr g 5 (bys (bytesK L k N (i * k))).toArray ∧ Bel w wr
theorem and1_i64 {a : Nat} (ha : a ≤ 9223372036854775807) : bits .and .i64 (a : Int) 1 = ((a % 2 : Nat) : Int) := by
  show IntKind.i64.wrap (((BitVec.ofInt 64 (a : Int) &&& BitVec.ofInt 64 ((1 : Nat) : Int)).toNat : Nat) : Int) = _
  rw [BitVec.ofInt_natCast, BitVec.ofInt_natCast, BitVec.toNat_and, BitVec.toNat_ofNat, BitVec.toNat_ofNat, show (2 : Nat) ^ 64 = 18446744073709551616 from rfl, Nat.mod_eq_of_lt (by omega), show (1 : Nat) % 18446744073709551616 = 1 from rfl, Nat.and_one_is_mod]
  exact IntWalk.i64_in _ (by omega)
theorem or_u8 {a x i : Nat} (hi : i ≤ 7) (ha : a < 2 ^ i) (hx : x < 2) : bits .or .u8 (a : Int) ((x * 2 ^ i : Nat) : Int) = ((a + x * 2 ^ i : Nat) : Int) := by
  have hp : 2 ^ i ≤ 2 ^ 7 := Nat.pow_le_pow_right (by omega) hi
  have hx2 : x * 2 ^ i ≤ 1 * 2 ^ i := Nat.mul_le_mul_right _ (by omega)
  have e : a ||| x * 2 ^ i = a + x * 2 ^ i := by
    rw [Nat.mul_comm, Nat.or_comm, Nat.add_comm, Nat.two_pow_add_eq_or_of_lt ha]
  show IntKind.u8.wrap (((BitVec.ofInt 8 (a : Int) ||| BitVec.ofInt 8 ((x * 2 ^ i : Nat) : Int)).toNat : Nat) : Int) = _
  rw [BitVec.ofInt_natCast, BitVec.ofInt_natCast, BitVec.toNat_or, BitVec.toNat_ofNat, BitVec.toNat_ofNat, show (2 : Nat) ^ 8 = 256 from rfl, Nat.mod_eq_of_lt (by omega), Nat.mod_eq_of_lt (by omega), e, wrap_u8]
  omega
set_option maxHeartbeats 16000000 in
set_option maxRecDepth 100000 in
theorem pack_any (A : Option Addr) (c : Nat) (L : List Nat) (k N : Nat) (hN : (L.length * k + 7) / 8 = N) (hL : L.length ≤ 2000) (hk : k ≤ 32) (hl : ∀ n ∈ L, n ≤ 4611686018427387904) (w : World) (hr : Ri w A L.length L) :
    Calls Try.prog 84 #[.slice A L.length c, .int .i64 (k : Int)] w (SomePack L k N w) := by
  obtain ⟨i0, hi0, hz0, hz1, hz2⟩ := info_parts info_u8
  have HI := Lib.hid (And.intro hi0 (And.intro hz0 (And.intro hz1 hz2)))
  have HR := Lib.hid hr
  have HL := Lib.hid hl
  have HS : Hid (∀ W, Calls Try.prog 86 #[.int .i64 (L.length : Int), .int .i64 (k : Int)] W fun e w' => e = .returned (.int .i64 (N : Int)) ∧ W = w') := fun W => size_any L.length k N hN hL hk W
  have hNb : N ≤ 8001 := by have := Nat.mul_le_mul hL hk; omega
  have li : (L.length : Int) ≤ 2000 := by omega
  have ki : (k : Int) ≤ 32 := by omega
  have k0 : (0 : Int) ≤ (k : Int) := by omega
  have HN := Lib.hid hN
  clear hi0 hz0 hz1 hz2 hr hl hN
  go_enter Try.func84, Try.ntmps84
  go_wp2_with (first
    | (go_at_call 86; refine (HS.out _).mono ?_; rintro e w' ⟨rfl, rfl⟩)
    | (refine wpList_make_any _ rfl (.tmp 23) (.tmp 23) 23 rfl 5 i0 (.int .u8 0) 1 Try.underlying23 HI.out.1 HI.out.2.1 HI.out.2.2.1 .i64 .i64 _ _ N N rfl rfl rfl (by omega) (by omega) (by rw [HI.out.2.2.2]; omega) (by omega) ?_; rw [made_u8]))
  have HB0 : Hid (ORel L k N w.heap.size w (.int .i64 0) (w.alloc (.cells (bys (List.replicate N 0)).toArray 5))) := by
    refine ⟨0, by omega, rfl, fun j hj => by omega, ?_, Bel.rf.al _⟩
    rw [Nat.zero_mul, bytesK_zero]
    exact Bk.nw _ _ _
  clear HS
  go_loopw [27] (fun s27 wr => ORel L k N w.heap.size w s27 wr) (fun s27 _ => L.length - (intOf s27).toNat)
  case atStart => exact HB0.out
  case round =>
    clear HB0
    obtain ⟨i, hi, rfl, hf, hb, hbe⟩ := hrel
    rename_i wr
    have HF := Lib.hid hf
    have HB := Lib.hid hb
    have HX := Lib.hid hbe
    clear hf hb hbe
    rcases Nat.lt_or_ge i L.length with hlt | hge
    · obtain ⟨ad, hA, hab, hac⟩ := HR.out.2 (by omega)
      subst hA
      have hcell := HX.out.kp (hac i hlt)
      have hmem : L.getD i 0 ∈ L := by rw [List.getD_eq_getElem?_getD, List.getElem?_eq_getElem hlt]; exact List.getElem_mem hlt
      have hnb := HL.out _ hmem
      obtain ⟨n, hn⟩ : ∃ n, L.getD i 0 = n := ⟨_, rfl⟩
      rw [hn] at hcell hmem hnb
      have HN2 := Lib.hid hn
      have HM := Lib.hid hmem
      have ii : (i : Int) < (L.length : Int) := by omega
      have nb : (n : Int) ≤ 4611686018427387904 := by omega
      clear hac hn hmem
      rcases Nat.lt_or_ge n (2 ^ k) with hfit | hfit
      · have HFY : Hid (∀ w, Calls Try.prog 88 #[.int .i64 (n : Int), .int .i64 (k : Int)] w fun e w' => e = .returned (.bool true) ∧ w = w') := fun w => fits_yes n k hfit hk w
        have HFIT := Lib.hid hfit
        clear hfit
        obtain ⟨W, rfl⟩ : ∃ W : World, W = wr := ⟨_, rfl⟩
        go_wp2_with (go_at_call 88; refine (HFY.out _).mono ?_; rintro e w' ⟨rfl, rfl⟩)
        go_loopw [37] (fun s37 wr => ∃ (j : Nat) (V : World), V = wr ∧ j ≤ k ∧ s37 = .int .i64 (j : Int) ∧ Bk wr w.heap.size 5 (bys (bytesK L k N (i * k + j))).toArray ∧ Bel w wr) (fun s37 _ => k - (intOf s37).toNat)
        case atStart => exact ⟨0, _, rfl, by omega, rfl, HB.out, HX.out⟩
        case round =>
          obtain ⟨j, wq, hwq, hj, rfl, hb, hbe⟩ := hrel
          subst hwq
          have HBQ := Lib.hid hb
          have HXQ := Lib.hid hbe
          clear hb hbe
          rcases Nat.lt_or_ge j k with hjk | hjk
          · obtain ⟨K, hK⟩ : ∃ K, i * k + j = K := ⟨_, rfl⟩
            have hKt : K < L.length * k := by
              have : (i + 1) * k ≤ L.length * k := Nat.mul_le_mul_right _ hlt
              rw [Nat.add_mul] at this
              omega
            have hKN : K / 8 < N := by have := HN.out; omega
            have hKb : K ≤ 64000 := by have := Nat.mul_le_mul hL hk; omega
            have hbit : fb L k K = n / 2 ^ j % 2 := by rw [← hK, fb_at L i hjk, HN2.out]
            have hst := pk_step (fb_lt L k) K
            have hset := bytesK_step (L := L) (w := k) (n := N) hKN
            have hbl := pk_lt (fb_lt L k) K (K / 8)
            have hxl := fb_lt L k K
            have hget := bytesK_at (L := L) (w := k) (K := K) hKN
            obtain ⟨x, hx⟩ : ∃ x, fb L k K = x := ⟨_, rfl⟩
            obtain ⟨b, hb⟩ : ∃ b, pk (fb L k) K (K / 8) = b := ⟨_, rfl⟩
            rw [hx] at hbit hst hset hxl
            rw [hb] at hst hset hbl hget
            have e0 : (i : Int) * (k : Int) = ((i * k : Nat) : Int) := by simp
            have e1 : bits .and .i64 ((n : Int) / 2 ^ j) 1 = (x : Int) := by
              rw [show (n : Int) / 2 ^ j = ((n / 2 ^ j : Nat) : Int) by simp, and1_i64 (by have := Nat.div_le_self n (2 ^ j); omega), hbit]
            obtain ⟨y, hy⟩ : ∃ y, x * 2 ^ (K % 8) = y := ⟨_, rfl⟩
            have e2 : (x : Int) * 2 ^ (K % 8) % 256 = (y : Int) := by
              have h1 : (2 : Nat) ^ (K % 8) ≤ 2 ^ 7 := Nat.pow_le_pow_right (by omega) (by omega)
              have h2 : x * 2 ^ (K % 8) ≤ 1 * 2 ^ (K % 8) := Nat.mul_le_mul_right _ (by omega)
              rw [show (x : Int) * 2 ^ (K % 8) = ((x * 2 ^ (K % 8) : Nat) : Int) by simp, hy]
              rw [hy] at h2
              omega
            obtain ⟨z, hz⟩ : ∃ z, b + y = z := ⟨_, rfl⟩
            have e3 : bits .or .u8 (b : Int) (y : Int) = (z : Int) := by
              have := or_u8 (by omega) hst.2 hxl
              rwa [hy, hz] at this
            rw [hy, hz] at hset
            have HYZ := Lib.hid (And.intro hy hz)
            clear hy hz
            have hc8 : wq.cell? ⟨w.heap.size, K / 8, none⟩ = some (.int .u8 (b : Int)) := by
              rw [HBQ.out.cell (K / 8), hK]
              have : (bys (bytesK L k N K))[K / 8]? = some (.int .u8 ((bytesK L k N K).getD (K / 8) 0 : Nat)) := bys_at (by rw [bytesK_len]; exact hKN)
              rw [hget] at this
              simpa using this
            have hf8 : wq.frozen? ⟨w.heap.size, K / 8, none⟩ = false := HBQ.out.fr _
            have hib : (i * k : Nat) ≤ 64000 := by omega
            obtain ⟨m, hm⟩ : ∃ m, i * k = m := ⟨_, rfl⟩
            rw [hm] at e0 hK hib
            have HKH := Lib.hid hK
            have eK : (m : Int) + (j : Int) = (K : Int) := by omega
            have Ki : (K : Int) ≤ 64000 := by omega
            have KN : (K : Int) / 8 < (N : Int) := by omega
            have ji : (j : Int) < (k : Int) := by omega
            have xi : (x : Int) < 2 := by omega
            have HSET := Lib.hid hset
            have HGET := Lib.hid hget
            have HMM := Lib.hid hm
            clear hst hset hget hbit hx hb hm hK hKt
            go_wp2
            go_region
            go_wp2
            go_roundw
            case rel =>
              refine ⟨j + 1, _, rfl, by omega, by go_num, ?_, (HXQ.out.st (Nat.le_refl _) _).drw⟩
              have h1 := HKH.out
              have h2 := HMM.out
              have h3 := HBQ.out
              rw [h2, h1] at h3
              have h4 := h3.st (K / 8) (.int .u8 (z : Int))
              rw [bys_set, HSET.out] at h4
              rw [h2, show m + (j + 1) = K + 1 by omega]
              exact h4.drw
            case measure => simp [intOf]; omega
          · obtain rfl : j = k := by omega
            go_wp2
            go_roundw
            case rel =>
              refine ⟨i + 1, by omega, by go_num, fun x hx => ?_, ?_, HXQ.out⟩
              · rcases Nat.lt_or_ge x i with h | h
                · exact HF.out x h
                · obtain rfl : x = i := by omega
                  rw [HN2.out]; exact HFIT.out
              · have := HBQ.out
                rwa [show i * j + j = (i + 1) * j by rw [Nat.add_mul]; omega] at this
            case measure => simp [intOf]; omega
      · have HFN : Hid (∀ w, Calls Try.prog 88 #[.int .i64 (n : Int), .int .i64 (k : Int)] w fun e w' => e = .returned (.bool false) ∧ w = w') := fun w => fits_no n k hfit hnb hk w
        have HFIT := Lib.hid hfit
        clear hfit
        go_wp2_with (go_at_call 88; refine (HFN.out _).mono ?_; rintro e w' ⟨rfl, rfl⟩)
        go_ret2
        exact .inr ⟨⟨n, HM.out, HFIT.out⟩, rfl, HX.out⟩
    · obtain rfl : i = L.length := by omega
      have hall : ∀ n ∈ L, n < 2 ^ k := fun n hn => by
        obtain ⟨j, hj, rfl⟩ := List.getElem_of_mem hn
        have := HF.out j hj
        rwa [List.getD_eq_getElem?_getD, List.getElem?_eq_getElem hj] at this
      have HALL := Lib.hid hall
      have hb : Bk wr w.heap.size 5 (bys (packed L k)).toArray := by
        have h1 := HB.out
        have h2 := HN.out
        unfold packed
        rwa [h2]
      have HBB := Lib.hid hb
      clear hall hb
      go_wp2
      go_ret2
      refine .inl ⟨HALL.out, w.heap.size, rfl, rd_bk HBB.out (bytesK_lt _ _ _ _) N ?_, ⟨Nat.le_refl _, HBB.out⟩, HX.out⟩
      have := HN.out
      unfold packed
      rw [bytesK_len, this]
end Go.Proofs.Ytaplbkfmedofcaa.Pk
