/- The reference of layer 3: Sum, Sealed. -/
import Derived.Test.YtdkibffbaamkkaaQ3
namespace Go.Proofs.Ytdkibffbaamkkaa.Pk
open Go.ChangeShapes Go.WideShapes Go.RowKit Wo Sr Wi Rm Rg Cd Cr By Bm
set_option linter.unusedVariables false
set_option maxHeartbeats 4000000 in
theorem rsum_ok (A : Option Addr) (c m : Nat) (B : List Nat) (hm : B.length = m) (hB : m ≤ 1000000) (w : World) (hr : Rd w A m B) :
    Calls Try.prog 52 #[.slice A m c] w fun e w' => e = .returned (.int .u32 (crc B : Int)) ∧ Bel w w' := by
  have HRW := Lib.hid hr
  have HM := Lib.hid hm
  have bl : (m : Int) ≤ 1000000 := by omega
  have hrd := hr.byte
  clear hr
  go_enter Try.func52, Try.ntmps52
  go_wp2
  go_loop [3, 9] (fun s3 s9 => ∃ k : Nat, k ≤ m ∧ s9 = .int .i64 (k : Int) ∧ s3 = .int .u32 (reg (B.take k) : Int)) (fun _ s9 => m - (intOf s9).toNat)
  case atStart => exact ⟨0, by omega, rfl, rfl⟩
  case round =>
    obtain ⟨k, hk, rfl, rfl⟩ := hrel
    have hbytes : ∀ x ∈ B.take k, x < 256 := fun x hx => HRW.out.2.1 x (List.mem_of_mem_take hx)
    have hrl := reg_lt hbytes
    rcases Nat.lt_or_ge k m with hlt | hge
    · obtain ⟨ad, rfl, hab, hac⟩ := HRW.out.2.2 (by omega)
      have hcell := hac k hlt
      have hb := hrd k
      have hsn := reg_snoc (B.take k) (B.getD k 0)
      rw [← take_snocN B k (by have := HM.out; omega)] at hsn
      obtain ⟨cb, hcb⟩ : ∃ cb, B.getD k 0 = cb := ⟨_, rfl⟩
      rw [hcb] at hcell hb hsn
      obtain ⟨r, hrr⟩ : ∃ r, reg (B.take k) = r := ⟨_, rfl⟩
      rw [hrr] at hrl hsn ⊢
      rw [← stp_tab hb, ← stepn_tab] at hsn
      obtain ⟨x0, hx0⟩ : ∃ x, r ^^^ cb = x := ⟨_, rfl⟩
      rw [hx0] at hsn
      have hx0l : x0 < 4294967296 := by rw [← hx0]; exact Nat.xor_lt_two_pow (n := 32) (by omega) (by omega)
      have e0 : bits .xor .u32 (r : Int) (cb : Int) = (x0 : Int) := by rw [xor_u32 hrl (by omega), hx0]
      have e9 : IntKind.u32.wrap (cb : Int) = (cb : Int) := IntWalk.u32_in _ (by omega)
      have HN := Lib.hid hsn
      have HX0 := Lib.hid (And.intro hrr hx0)
      have HCB := Lib.hid hcb
      have ki : (k : Int) < (m : Int) := by omega
      clear hsn hrr hcb hx0 hbytes hac hrd
      go_wp2
      go_loop [3, 5] (fun s3 s5 => ∃ n r : Nat, n ≤ 8 ∧ r < 4294967296 ∧ s5 = .int .i64 (n : Int) ∧ s3 = .int .u32 (r : Int) ∧ stepn n x0 = r) (fun _ s5 => 8 - (intOf s5).toNat)
      case atStart => exact ⟨0, x0, by omega, by omega, rfl, rfl, rfl⟩
      case round =>
        obtain ⟨n, r, hn, hr, rfl, rfl, hs⟩ := hrel
        have HS := Lib.hid hs
        clear hs e0 e9
        rcases Nat.lt_or_ge n 8 with hn8 | hn8
        · have ni : (n : Int) < 8 := by omega
          obtain ⟨x, hx⟩ : ∃ x, step1 r = x := ⟨_, rfl⟩
          have hxl : x < 4294967296 := by rw [← hx]; exact step1_lt hr
          have HNN : Hid (stepn (n + 1) x0 = x) := by show _ = _; rw [stepn_snoc, HS.out, hx]
          have hdiv : (r : Int) / 2 = ((r / 2 : Nat) : Int) := by omega
          rcases Nat.mod_two_eq_zero_or_one r with h2 | h2
          · have e1 : bits .and .u32 (r : Int) 1 = 0 := by rw [and1_u32 hr, h2]; rfl
            have e2 : r / 2 = x := by rw [← hx]; unfold step1; rw [if_neg (by omega)]
            have HE : Hid ((r : Int) / 2 = (x : Int)) := by show _ = _; rw [hdiv, e2]
            clear hx e2 hdiv h2
            go_wp2
            go_round
            case rel => exact ⟨n + 1, x, by omega, hxl, by go_num, by rw [HE.out], HNN.out⟩
            case measure => simp [intOf]; omega
          · have e1 : bits .and .u32 (r : Int) 1 = 1 := by rw [and1_u32 hr, h2]; rfl
            have e2 : bits .xor .u32 ((r : Int) / 2) 3988292384 = (x : Int) := by
              rw [hdiv, show (3988292384 : Int) = ((3988292384 : Nat) : Int) from rfl, xor_u32 (by omega) (by omega), ← hx]
              unfold step1
              rw [if_pos h2]
            clear hx hdiv h2
            go_wp2
            go_round
            case rel => exact ⟨n + 1, x, by omega, hxl, by go_num, rfl, HNN.out⟩
            case measure => simp [intOf]; omega
        · obtain rfl : n = 8 := by omega
          have HST := Lib.hid (HN.out.trans HS.out)
          go_wp2
          go_round
          case rel => exact ⟨k + 1, by omega, by go_num, by rw [HST.out]⟩
          case measure => simp [intOf]; omega
    · obtain rfl : k = m := by omega
      have hall : B.take k = B := List.take_of_length_le (by rw [HM.out]; exact Nat.le_refl _)
      rw [hall] at hrl ⊢
      obtain ⟨r, hrr⟩ : ∃ r, reg B = r := ⟨_, rfl⟩
      rw [hrr] at hrl ⊢
      have HRR := Lib.hid hrr
      clear hall hrr hbytes hrd
      go_wp2
      go_ret
      exact ⟨ret_int (by rw [not_u32 hrl, ← HRR.out]; rfl), Bel.rf⟩
set_option maxHeartbeats 4000000 in
theorem rsealed_ok (A : Option Addr) (c m : Nat) (B : List Nat) (hm : B.length = m) (hB : m ≤ 1000000) (hnc : A = none → c = 0) (w : World) (hr : Rd w A m B) :
    Calls Try.prog 38 #[.slice A m c] w fun e w' => ∃ u : Value, e = .returned u ∧ w'.ownsRow w.heap.size 5 1 u (m + 4) (bys (B ++ seal4 (crc B))) ∧ Bel w w' := by
  obtain ⟨i0, hi0, hz0, hz1, hz2⟩ := info_parts info_u8
  have HI := Lib.hid (And.intro hi0 (And.intro hz0 (And.intro hz1 hz2)))
  have hx := crc_lt B hr.2.1
  have HS : Hid (∀ W, Bel w W → _) := fun W hW => rsum_ok A c m B hm hB W (hr.bel hW)
  have HR := Lib.hid hr
  have HNC := Lib.hid hnc
  obtain ⟨x, hxx⟩ : ∃ x, crc B = x := ⟨_, rfl⟩
  rw [hxx] at hx HS ⊢
  have e : (bys (seal4 x)).toArray = #[Value.int .u8 ((x : Int) % 256), Value.int .u8 ((x : Int) / 256 % 256), Value.int .u8 ((x : Int) / 65536 % 256), Value.int .u8 ((x : Int) / 16777216)] := by
    have h4 : x / 16777216 % 256 = x / 16777216 := by omega
    simp [bys, seal4, h4]
  have HEE := Lib.hid e
  clear hr hxx hi0 hz0 hz1 hz2 hnc e
  go_enter Try.func38, Try.ntmps38
  go_wp2_with fail
  go_at_call 52
  refine (HS.out _ (by repeat (first | exact Bel.rf | (with_reducible refine Bel.drwN ?_ _) | (with_reducible refine Bel.drw ?_) | (with_reducible refine Bel.al ?_ _)))).mono ?_
  rintro e w1 ⟨rfl, hb⟩
  have HB1 : Hid (Bel w w1) := by first | exact hb | exact (Bel.rf.drwN _).tr hb
  clear hb
  go_wp2_with (first
    | (at_builtin; refine wpList_append_rd rfl (.tmp 6) (.tmp 7) 23 rfl w.heap.size 5 i0 (.int .u8 0) Try.underlying23 HI.out.1 HI.out.2.1 HI.out.2.2.1 HI.out.2.2.2 rfl (.slice (some ⟨w1.heap.size, 0, none⟩) 0 0) 0 [] rfl (World.ownsRow_lit w1 #[] 0 HB1.out.size (by decide) rfl) A m c B rfl (HR.out.bel (HB1.out.al _)) HNC.out (by omega) (HB1.out.al _).size ?_; intro u6 w6 ho6 hg6
       have HB6 : Hid (Bel w w6) := Below.grown ((HB1.out.al _).bl) hg6 (HB1.out.al _).size (fun b e => by cases e; exact HB1.out.size)
       have HO6 : Hid (w6.ownsRow w.heap.size 5 1 u6 m (bys B)) := (by have h9 := ho6; rw [Nat.zero_add, List.nil_append] at h9; exact h9)
       clear ho6 hg6)
    | (at_builtin; refine wpList_append_rd rfl (.tmp 8) (.tmp 20) 23 rfl w.heap.size 5 i0 (.int .u8 0) Try.underlying23 HI.out.1 HI.out.2.1 HI.out.2.2.1 HI.out.2.2.2 rfl u6 m (bys B) rfl (own_bel1 HO6.out (Bel.rf.al _)) _ 4 4 (seal4 x) rfl (rd_bk (by rw [HEE.out]; exact Bk.nq _ _ _ rfl) (seal4_byte _) 4 rfl) (fun h => by cases h) (by omega) (HB6.out.al _).size ?_; intro u7 w7 ho7 hg7
       have HB7 : Hid (Bel w w7) := Below.grown ((HB6.out.al _).bl) hg7 (HB6.out.al _).size (fun b e => (HO6.out.lt b e).1)
       have HO7 : Hid (w7.ownsRow w.heap.size 5 1 u7 (m + 4) (bys (B ++ seal4 x))) := (by rw [bys_app]; exact ho7)
       clear ho7 hg7))
  go_ret
  exact ⟨_, rfl, HO7.out, HB7.out⟩
end Go.Proofs.Ytdkibffbaamkkaa.Pk
