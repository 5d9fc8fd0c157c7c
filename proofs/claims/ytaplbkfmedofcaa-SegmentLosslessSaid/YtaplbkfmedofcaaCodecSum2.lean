/- The contract of codec.Sum: the checksum of the bytes. -/
import Derived.Test.YtaplbkfmedofcaaCodecSum
namespace Go.Proofs.Ytaplbkfmedofcaa.Cr
open Go.ChangeShapes Go.WideShapes Go.RowKit Wo Bm By
set_option linter.unusedVariables false
theorem take_snocN (B : List Nat) (k : Nat) (h : k < B.length) : B.take (k + 1) = B.take k ++ [B.getD k 0] := by
  rw [List.take_succ_eq_append_getElem h, List.getD_eq_getElem?_getD, List.getElem?_eq_getElem h]; rfl
set_option maxHeartbeats 8000000 in
set_option maxRecDepth 100000 in
theorem sum_any (A : Option Addr) (c : Nat) (B : List Nat) (hB : B.length ≤ 140737488355000) (w : World) (hr : Rd w A B.length B) :
    Calls Try.prog 47 #[.slice A B.length c] w fun e w' => e = .returned (.int .u32 (crc B : Int)) ∧ Bel w w' := by
  have HR := Lib.hid hr
  have bl : (B.length : Int) ≤ 140737488355000 := by omega
  clear hr
  go_enter Try.func47, Try.ntmps47
  go_wp2_with fail
  go_at_call 56
  refine (table_any _).mono ?_
  rintro e w1 ⟨rfl, h1⟩
  have HX := Lib.hid h1
  clear h1
  go_wp2_with (first
    | (refine wpList_alloc_big _ rfl 102 rfl (tcells 0) zero_tab ?_)
    | (refine wpList_store_big rfl 102 _ _ rfl w1.heap.size (tcells 256) (tcells 0) 102 rfl rfl (Bk.nw _ _ _) (by rw [tcells_size, tcells_size]) (by kernel_rfl) (by kernel_rfl) ?_; intro W HBK HBE))
  have HW : Hid (Bel w W) := HBE.out w (HX.out.al _) HX.out.size
  have HRW := Lib.hid (HR.out.bel HW.out)
  clear HBE HX HR
  have hrd := HRW.out.byte

  go_loop [4, 10] (fun s4 s10 => ∃ k : Nat, k ≤ B.length ∧ s10 = .int .i64 (k : Int) ∧ s4 = .int .u32 (reg (B.take k) : Int)) (fun _ s10 => B.length - (intOf s10).toNat)
  case atStart => exact ⟨0, by omega, rfl, rfl⟩
  case round =>
    obtain ⟨k, hk, rfl, rfl⟩ := hrel
    have hbytes : ∀ x ∈ B.take k, x < 256 := fun x hx => HRW.out.2.1 x (List.mem_of_mem_take hx)
    have hrl := reg_lt hbytes
    rcases Nat.lt_or_ge k B.length with hlt | hge
    · obtain ⟨ad, rfl, hab, hac⟩ := HRW.out.2.2 (by omega)
      have hcell := hac k hlt
      have hb := hrd k
      have hsn := reg_snoc (B.take k) (B.getD k 0)
      rw [← take_snocN B k hlt] at hsn
      obtain ⟨cb, hcb⟩ : ∃ cb, B.getD k 0 = cb := ⟨_, rfl⟩
      rw [hcb] at hcell hb hsn
      obtain ⟨r, hrr⟩ : ∃ r, reg (B.take k) = r := ⟨_, rfl⟩
      rw [hrr] at hrl hsn ⊢
      have hil := idx_lt (r := r) hb
      have hu := (show stp r cb = (r / 256) ^^^ tab (r % 256 ^^^ cb) from rfl)
      obtain ⟨i, hi⟩ : ∃ i, r % 256 ^^^ cb = i := ⟨_, rfl⟩
      rw [hi] at hil hu
      have htl := tab_lt (i := i) (by omega)
      have hT := tcells_at (k := 256) hil
      rw [if_pos hil] at hT
      have c1 : W.cell? ⟨w1.heap.size, i, none⟩ = some (.int .u32 (tab i : Int)) := (HBK.out.cell i).trans hT
      obtain ⟨t, ht⟩ : ∃ t, tab i = t := ⟨_, rfl⟩
      rw [ht] at htl hu c1
      have e1 : bits .xor .u8 ((r : Int) % 256) (cb : Int) = (i : Int) := by rw [show (r : Int) % 256 = ((r % 256 : Nat) : Int) by omega, xor_u8 (by omega) hb, hi]
      have e2 : bits .xor .u32 ((r : Int) / 256) (t : Int) = (stp r cb : Int) := by rw [show (r : Int) / 256 = ((r / 256 : Nat) : Int) by omega, xor_u32 (by omega) htl, hu]
      obtain ⟨x, hx⟩ : ∃ x, stp r cb = x := ⟨_, rfl⟩
      rw [hx] at e2 hsn
      have HN := Lib.hid hsn
      have HRR := Lib.hid hrr
      have HCB := Lib.hid hcb
      have HXX := Lib.hid hx
      have HI := Lib.hid hi
      have HT2 := Lib.hid ht
      have ii : (i : Int) < 256 := by omega
      have ki : (k : Int) < (B.length : Int) := by omega
      clear hsn hrr hcb hx hi ht hT hu hbytes hac hrd
      go_wp2
      go_round
      case rel => exact ⟨k + 1, by omega, by go_num, by rw [HN.out]⟩
      case measure => simp [intOf]; omega
    · obtain rfl : k = B.length := by omega
      have hall : B.take B.length = B := List.take_of_length_le (Nat.le_refl _)
      rw [hall] at hrl ⊢
      obtain ⟨r, hrr⟩ : ∃ r, reg B = r := ⟨_, rfl⟩
      rw [hrr] at hrl ⊢
      have HRR := Lib.hid hrr
      clear hall hrr hbytes hrd
      go_wp2
      go_ret
      exact ⟨ret_int (by rw [not_u32 hrl, ← HRR.out]; rfl), HW.out⟩
end Go.Proofs.Ytaplbkfmedofcaa.Cr
