/- The contracts of codec.bit and Unpack. -/
import Derived.Test.YtaplbkfmedofcaaCodecPack
import Derived.Deep.RegionHeld3
namespace Go.Proofs.Ytaplbkfmedofcaa.Pk
open Go.ChangeShapes Go.WideShapes Go.RowKit Wo Bm By Cd
set_option linter.unusedVariables false
def bitB (B : List Nat) (K : Nat) : Nat := B.getD (K / 8) 0 / 2 ^ (K % 8) % 2
theorem bitB_lt (B : List Nat) (K : Nat) : bitB B K < 2 := Nat.mod_lt _ (by decide)
theorem and1_u8 {a : Nat} (ha : a < 256) : bits .and .u8 (a : Int) 1 = ((a % 2 : Nat) : Int) := by
  have key : ∀ b : Nat, b < 256 → bits .and .u8 ((b : Nat) : Int) 1 = ((b % 2 : Nat) : Int) := by decide +kernel
  exact key a ha
theorem bit_any (A : Option Addr) (c N : Nat) (B : List Nat) (K : Nat) (hK : K / 8 < N) (hKb : K ≤ 1000000) (hN : N ≤ 1000000) (w : World) (hr : Rd w A N B) (x : Nat) (hx : bitB B K = x) :
    Calls Try.prog 87 #[.slice A N c, .int .i64 (K : Int)] w fun e w' => e = .returned (.int .i64 (x : Int)) ∧ w = w' := by
  obtain ⟨ad, rfl, hab, hac⟩ := hr.2.2 (by omega)
  have hcell := hac _ hK
  have hb := hr.byte (K / 8)
  unfold bitB at hx
  obtain ⟨b, hbb⟩ : ∃ b, B.getD (K / 8) 0 = b := ⟨_, rfl⟩
  rw [hbb] at hcell hb hx
  have hd : b / 2 ^ (K % 8) < 256 := by have := Nat.div_le_self b (2 ^ (K % 8)); omega
  have e1 : bits .and .u8 ((b : Int) / 2 ^ (K % 8)) 1 = (x : Int) := by
    rw [show (b : Int) / 2 ^ (K % 8) = ((b / 2 ^ (K % 8) : Nat) : Int) by simp, and1_u8 hd, hx]
  have xl : x < 2 := by rw [← hx]; exact Nat.mod_lt _ (by decide)
  have xi : (x : Int) < 2 := by omega
  have Ki : (K : Int) ≤ 1000000 := by omega
  have KN : (K : Int) / 8 < (N : Int) := by omega
  have HX := Lib.hid hx
  have HB := Lib.hid hbb
  clear hx hbb hac hd hr
  go_enter Try.func87, Try.ntmps87
  go_wp2
  go_ret
  exact ⟨rfl, rfl⟩
/-- the values while number i is read up to bit j -/
def gB (B : List Nat) (k t : Nat) : Nat → Nat := fun s => bitB B (t * k + s)
theorem gB_lt (B : List Nat) (k t s : Nat) : gB B k t s < 2 := bitB_lt _ _
def valsK (B : List Nat) (k n i j : Nat) : List Nat := (List.range n).map fun t => if t < i then val (gB B k t) k else if t = i then val (gB B k t) j else 0
def vals (B : List Nat) (k n : Nat) : List Nat := (List.range n).map fun t => val (gB B k t) k
theorem valsK_next (B : List Nat) (k n i : Nat) : valsK B k n (i + 1) 0 = valsK B k n i k := by
  unfold valsK
  apply List.map_congr_left
  intro t _
  rcases Nat.lt_trichotomy t i with h | h | h
  · simp [show t < i + 1 by omega, h]
  · subst h
    simp
  · have h1 : ¬ t < i + 1 := by omega
    have h2 : ¬ t < i := by omega
    have h3 : ¬ t = i := by omega
    simp only [if_neg h1, if_neg h2, if_neg h3, val]
    split <;> rfl
theorem valsK_end (B : List Nat) (k n : Nat) : valsK B k n n 0 = vals B k n := by
  unfold valsK vals
  apply List.map_congr_left
  intro t ht
  rw [if_pos (by simpa using ht)]
theorem valsK_zero (B : List Nat) (k n : Nat) : valsK B k n 0 0 = List.replicate n 0 := by
  apply List.ext_getElem?
  intro t
  rcases Nat.lt_or_ge t n with h | h
  · simp [valsK, h, val]
  · simp [valsK, Nat.not_lt.2 h]
theorem valsK_at {B : List Nat} {k n i j : Nat} (h : i < n) : (valsK B k n i j).getD i 0 = val (gB B k i) j := by simp [valsK, List.getD_eq_getElem?_getD, h]
theorem valsK_set {B : List Nat} {k n i j : Nat} (h : i < n) : (valsK B k n i j).set i (val (gB B k i) (j + 1)) = valsK B k n i (j + 1) := by
  apply List.ext_getElem?
  intro t
  rw [List.getElem?_set]
  rcases Classical.em (i = t) with ht | ht
  · subst ht
    simp [valsK, h]
  · rw [if_neg ht]
    rcases Nat.lt_or_ge t n with hn | hn
    · have : ¬ t = i := fun e => ht e.symm
      simp [valsK, hn, this]
    · simp [valsK, Nat.not_lt.2 hn]
def nums (L : List Nat) : List Value := L.map fun c : Nat => .int .i64 (c : Int)
theorem nums_at {L : List Nat} {j : Nat} (h : j < L.length) : (nums L)[j]? = some (.int .i64 (L.getD j 0 : Nat)) := by simp [nums, List.getD_eq_getElem?_getD, h]
theorem nums_set (L : List Nat) (j c : Nat) : (nums L).toArray.setIfInBounds j (.int .i64 (c : Int)) = (nums (L.set j c)).toArray := by simp [nums]
theorem ri_bk {w : World} {h : Nat} {t : TypeId} {L : List Nat} (hb : Bk w h t (nums L).toArray) (n : Nat) (hn : L.length = n) : Ri w (some ⟨h, 0, none⟩) n L := by
  subst hn
  refine ⟨rfl, fun _ => ⟨_, rfl, hb.lt, fun j hj => ?_⟩⟩
  rw [add_row, hb.cell j]
  simpa using nums_at hj
theorem made_i64 (n : Nat) : madeCells (Value.int .i64 0).cells (n * 1) = (nums (List.replicate n 0)).toArray := by
  apply Array.ext
  · simp [madeCells, nums]
  · intro i h1 h2
    simp [madeCells, nums, Nat.mod_one, Value.cells]
theorem info_int : (Try.prog.info? 3).map (fun i => (i.zero, i.size, i.bytes)) = some (some (.int .i64 0), 1, 8) := by kernel_rfl
theorem or_i64 {a x i : Nat} (hi : i ≤ 32) (ha : a < 2 ^ i) (hx : x < 2) : bits .or .i64 (a : Int) ((x * 2 ^ i : Nat) : Int) = ((a + x * 2 ^ i : Nat) : Int) := by
  have hp : 2 ^ i ≤ 2 ^ 32 := Nat.pow_le_pow_right (by omega) hi
  have hx2 : x * 2 ^ i ≤ 1 * 2 ^ i := Nat.mul_le_mul_right _ (by omega)
  have e : a ||| x * 2 ^ i = a + x * 2 ^ i := by
    rw [Nat.mul_comm, Nat.or_comm, Nat.add_comm, Nat.two_pow_add_eq_or_of_lt ha]
  show IntKind.i64.wrap (((BitVec.ofInt 64 (a : Int) ||| BitVec.ofInt 64 ((x * 2 ^ i : Nat) : Int)).toNat : Nat) : Int) = _
  rw [BitVec.ofInt_natCast, BitVec.ofInt_natCast, BitVec.toNat_or, BitVec.toNat_ofNat, BitVec.toNat_ofNat, show (2 : Nat) ^ 64 = 18446744073709551616 from rfl, Nat.mod_eq_of_lt (by omega), Nat.mod_eq_of_lt (by omega), e]
  exact IntWalk.i64_in _ (by omega)
def SomeUnpack (B : List Nat) (k n N : Nat) (w : World) (e : Ending) (w' : World) : Prop :=
  ((∀ K, n * k ≤ K → K < 8 * N → bitB B K = 0) ∧ ∃ h : Nat, e = .returned (.tuple #[.slice (some ⟨h, 0, none⟩) n n, .int .i64 0]) ∧ Ri w' (some ⟨h, 0, none⟩) n (vals B k n) ∧ (w.heap.size ≤ h ∧ Bk w' h 3 (nums (vals B k n)).toArray) ∧ Bel w w') ∨
  ((∃ K, n * k ≤ K ∧ K < 8 * N ∧ bitB B K ≠ 0) ∧ e = .returned (.tuple #[.slice none 0 0, .int .i64 3]) ∧ Bel w w')
def URel (B : List Nat) (k n g : Nat) (w : World) (s : Value) (wr : World) : Prop := ∃ (i : Nat) (V : World), V = wr ∧ i ≤ n ∧ s = .int .i64 (i : Int) ∧ Bk wr g 3 (nums (valsK B k n i 0)).toArray ∧ Bel w wr
set_option maxHeartbeats 16000000 in
set_option maxRecDepth 100000 in
theorem unpack_any (A : Option Addr) (c : Nat) (B : List Nat) (k n N : Nat) (hN : (n * k + 7) / 8 = N) (hn : n ≤ 2000) (hk : k ≤ 32) (w : World) (hr : Rd w A N B) :
    Calls Try.prog 83 #[.slice A N c, .int .i64 (k : Int), .int .i64 (n : Int)] w (SomeUnpack B k n N w) := by
  obtain ⟨i0, hi0, hz0, hz1, hz2⟩ := info_parts info_int
  have HI := Lib.hid (And.intro hi0 (And.intro hz0 (And.intro hz1 hz2)))
  have HR := Lib.hid hr
  have HS : Hid (∀ W, Calls Try.prog 86 #[.int .i64 (n : Int), .int .i64 (k : Int)] W fun e w' => e = .returned (.int .i64 (N : Int)) ∧ W = w') := fun W => size_any n k N hN hn hk W
  have hmb : n * k ≤ 2000 * 32 := Nat.mul_le_mul hn hk
  have hNb : N ≤ 8001 := by omega
  have ni : (n : Int) ≤ 2000 := by omega
  have ki : (k : Int) ≤ 32 := by omega
  have k0 : (0 : Int) ≤ (k : Int) := by omega
  have n0 : (0 : Int) ≤ (n : Int) := by omega
  have Ni : (N : Int) ≤ 8001 := by omega
  obtain ⟨m, hm⟩ : ∃ m, n * k = m := ⟨_, rfl⟩
  have em : (n : Int) * (k : Int) = (m : Int) := by rw [← hm]; simp
  rw [hm] at hmb hN
  have HN := Lib.hid hN
  have HM := Lib.hid hm
  have mi : (m : Int) ≤ 64000 := by omega
  clear hi0 hz0 hz1 hz2 hr hm hN
  go_enter Try.func83, Try.ntmps83
  go_wp2_with (go_at_call 86; refine (HS.out _).mono ?_; rintro e w' ⟨rfl, rfl⟩)
  go_loop [8] (fun s8 => ∃ K : Nat, m ≤ K ∧ K ≤ 8 * N ∧ s8 = .int .i64 (K : Int) ∧ ∀ j, m ≤ j → j < K → bitB B j = 0) (fun s8 => 8 * N - (intOf s8).toNat)
  case atStart => exact ⟨m, by omega, by have := HN.out; omega, rfl, fun j h1 h2 => by omega⟩
  case round =>
    obtain ⟨K, hK1, hK2, rfl, hz⟩ := hrel
    have HZ := Lib.hid hz
    clear hz
    rcases Nat.lt_or_ge K (8 * N) with hlt | hge
    · have Ki : (K : Int) < 8 * (N : Int) := by omega
      obtain ⟨x, hx⟩ : ∃ x, bitB B K = x := ⟨_, rfl⟩
      have HB : Hid (∀ w, Rd w A N B → Calls Try.prog 87 #[.slice A N c, .int .i64 (K : Int)] w fun e w' => e = .returned (.int .i64 (x : Int)) ∧ w = w') := fun w hw => bit_any A c N B K (by omega) (by omega) (by omega) w hw x hx
      rcases Nat.eq_zero_or_pos x with h0 | h0
      · have HX : Hid (bitB B K = 0) := by show _ = _; rw [hx, h0]
        subst h0
        clear hx
        go_wp2_with (go_at_call 87; refine (HB.out _ HR.out).mono ?_; rintro e w' ⟨rfl, rfl⟩)
        go_round
        case rel =>
          refine ⟨K + 1, by omega, by omega, by go_num, fun j h1 h2 => ?_⟩
          rcases Nat.lt_or_ge j K with h | h
          · exact HZ.out j h1 h
          · obtain rfl : j = K := by omega
            exact HX.out
        case measure => simp [intOf]; omega
      · have HX : Hid (bitB B K ≠ 0) := by show _ ≠ _; rw [hx]; omega
        have tx : ((x : Int) != 0) = true := by simp; omega
        clear hx
        go_wp2_with (go_at_call 87; refine (HB.out _ HR.out).mono ?_; rintro e w' ⟨rfl, rfl⟩)
        go_ret2
        exact .inr ⟨⟨K, by have := HM.out; omega, hlt, HX.out⟩, rfl, Bel.rf⟩
    · obtain rfl : K = 8 * N := by omega
      go_wp2_with (refine wpList_make_any _ rfl (.tmp 50) (.tmp 50) 22 rfl 3 i0 (.int .i64 0) 1 Try.underlying22 HI.out.1 HI.out.2.1 HI.out.2.2.1 .i64 .i64 _ _ n n rfl rfl rfl (by omega) (by omega) (by rw [HI.out.2.2.2]; omega) (by omega) ?_; rw [made_i64])
      have HZA : Hid (∀ K, n * k ≤ K → K < 8 * N → bitB B K = 0) := by
        show ∀ _, _
        intro K h1 h2
        exact HZ.out K (by have := HM.out; omega) h2
      have HB0 : Hid (URel B k n w.heap.size w (.int .i64 0) (w.alloc (.cells (nums (List.replicate n 0)).toArray 3))) := by
        refine ⟨0, _, rfl, by omega, rfl, ?_, Bel.rf.al _⟩
        rw [valsK_zero]
        exact Bk.nw _ _ _
      clear HZ HS
      go_loopw [54] (fun s54 wr => URel B k n w.heap.size w s54 wr) (fun s54 _ => n - (intOf s54).toNat)
      case atStart => exact HB0.out
      case round =>
        clear HB0
        obtain ⟨i, wr, hwr, hi, rfl, hb, hbe⟩ := hrel
        subst hwr
        have HB := Lib.hid hb
        have HX := Lib.hid hbe
        clear hb hbe
        rcases Nat.lt_or_ge i n with hlt | hge
        · have ii : (i : Int) < (n : Int) := by omega
          go_wp2
          go_loopw [58] (fun s58 wr => ∃ (j : Nat) (V : World), V = wr ∧ j ≤ k ∧ s58 = .int .i64 (j : Int) ∧ Bk wr w.heap.size 3 (nums (valsK B k n i j)).toArray ∧ Bel w wr) (fun s58 _ => k - (intOf s58).toNat)
          case atStart => exact ⟨0, _, rfl, by omega, rfl, HB.out, HX.out⟩
          case round =>
            obtain ⟨j, wq, hwq, hj, rfl, hb, hbe⟩ := hrel
            subst hwq
            have HBQ := Lib.hid hb
            have HXQ := Lib.hid hbe
            clear hb hbe
            rcases Nat.lt_or_ge j k with hjk | hjk
            · obtain ⟨K, hK⟩ : ∃ K, i * k + j = K := ⟨_, rfl⟩
              have hKt : K < n * k := by
                have : (i + 1) * k ≤ n * k := Nat.mul_le_mul_right _ hlt
                rw [Nat.add_mul] at this
                omega
              have hKN : K / 8 < N := by have := HN.out; have := HM.out; omega
              have hKb : K ≤ 64000 := by have := HM.out; omega
              obtain ⟨x, hx⟩ : ∃ x, bitB B K = x := ⟨_, rfl⟩
              have hg : gB B k i j = x := by unfold gB; rw [hK, hx]
              have hxl : x < 2 := by rw [← hx]; exact bitB_lt _ _
              have hBIT : Hid (∀ W, Bel w W → Calls Try.prog 87 #[.slice A N c, .int .i64 (K : Int)] W fun e w' => e = .returned (.int .i64 (x : Int)) ∧ W = w') := fun W hW => bit_any A c N B K hKN (by omega) (by omega) W (HR.out.bel hW) x hx
              have hvl := val_lt (gB_lt B k i) j
              have hset := valsK_set (B := B) (k := k) (j := j) hlt
              have hat := valsK_at (B := B) (k := k) (j := j) hlt
              rw [val, hg] at hset
              obtain ⟨b, hb⟩ : ∃ b, val (gB B k i) j = b := ⟨_, rfl⟩
              rw [hb] at hvl hset hat
              obtain ⟨y, hy⟩ : ∃ y, x * 2 ^ j = y := ⟨_, rfl⟩
              have hyb : y ≤ 4294967296 := by
                have h1 : (2 : Nat) ^ j ≤ 2 ^ 32 := Nat.pow_le_pow_right (by omega) (by omega)
                have h2 : x * 2 ^ j ≤ 1 * 2 ^ j := Nat.mul_le_mul_right _ (by omega)
                rw [hy] at h2
                omega
              have e2 : IntKind.i64.wrap ((x : Int) * 2 ^ j) = (y : Int) := by
                rw [show (x : Int) * 2 ^ j = ((x * 2 ^ j : Nat) : Int) by simp, hy]
                exact IntWalk.i64_in _ (by omega)
              obtain ⟨z, hz⟩ : ∃ z, b + y = z := ⟨_, rfl⟩
              have e3 : bits .or .i64 (b : Int) (y : Int) = (z : Int) := by
                have := or_i64 (a := b) (x := x) (i := j) (by omega) hvl hxl
                rwa [hy, hz] at this
              rw [hy, hz] at hset
              have hc8 : wq.cell? ⟨w.heap.size, i, none⟩ = some (.int .i64 (b : Int)) := by
                rw [HBQ.out.cell i]
                have : (nums (valsK B k n i j))[i]? = some (.int .i64 ((valsK B k n i j).getD i 0 : Nat)) := nums_at (by simp [valsK]; exact hlt)
                rw [hat] at this
                simpa using this
              have hf8 : wq.frozen? ⟨w.heap.size, i, none⟩ = false := HBQ.out.fr _
              have e0 : (i : Int) * (k : Int) = ((i * k : Nat) : Int) := by simp
              have hib : (i * k : Nat) ≤ 64000 := by omega
              obtain ⟨m2, hm2⟩ : ∃ m, i * k = m := ⟨_, rfl⟩
              rw [hm2] at e0 hK hib
              have eK : (m2 : Int) + (j : Int) = (K : Int) := by omega
              have Ki : (K : Int) ≤ 64000 := by omega
              have ji : (j : Int) < (k : Int) := by omega
              have HSET := Lib.hid hset
              have HALL := Lib.hid (And.intro hK (And.intro hm2 (And.intro hy (And.intro hz (And.intro hb hx)))))
              have q1 : IntKind.i64.wrap (m2 : Int) = (m2 : Int) := IntWalk.i64_in _ (by omega)
              have q2 : IntKind.i64.wrap (K : Int) = (K : Int) := IntWalk.i64_in _ (by omega)
              clear hset hat hvl hg hx hy hz hb hK hm2 hKt hib
              go_wp2
              go_region_with (go_at_call 87; refine (hBIT.out _ (by repeat (first | exact HXQ.out | (with_reducible refine Bel.drwN ?_ _) | (with_reducible refine Bel.drw ?_)))).mono ?_; rintro e w' ⟨rfl, rfl⟩)
              all_goals
                go_wp2
                go_roundw
                case rel =>
                  refine ⟨j + 1, _, rfl, by omega, by go_num, ?_, ?_⟩
                  · have h4 := HBQ.out.st i (.int .i64 (z : Int))
                    rw [nums_set, HSET.out] at h4
                    first | exact h4 | exact h4.drw | exact h4.drwN _
                  · first | exact (HXQ.out.st (Nat.le_refl _) _) | exact (HXQ.out.st (Nat.le_refl _) _).drw | exact (HXQ.out.st (Nat.le_refl _) _).drwN _
                case measure => simp [intOf]; omega
            · obtain rfl : j = k := by omega
              go_wp2
              go_roundw
              case rel => exact ⟨i + 1, _, rfl, by omega, by go_num, by rw [valsK_next]; exact HBQ.out, HXQ.out⟩
              case measure => simp [intOf]; omega
        · obtain rfl : i = n := by omega
          have hb : Bk wr w.heap.size 3 (nums (vals B k i)).toArray := by have := HB.out; rwa [valsK_end] at this
          have HBB := Lib.hid hb
          clear hb
          go_wp2
          go_ret2
          exact .inl ⟨HZA.out, w.heap.size, rfl, ri_bk HBB.out i (by simp [vals]), ⟨Nat.le_refl _, HBB.out⟩, HX.out⟩
end Go.Proofs.Ytaplbkfmedofcaa.Pk
