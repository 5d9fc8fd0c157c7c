/- The contract of seal.Of. -/
import Derived.Test.YtdkibffbaamkkaaPkM
import Derived.Test.YtdkibffbaamkkaaCodecSum2
import Derived.Test.YtdkibffbaamkkaaCodecPut
import Derived.Test.YtdkibffbaamkkaaMv8
namespace Go.Proofs.Ytdkibffbaamkkaa.Pk
open Go.ChangeShapes Go.WideShapes Go.RowKit Wo Sr Wi Rm Rg Cd Cr By
set_option linter.unusedVariables false
theorem crc_lt (B : List Nat) (h : ∀ c ∈ B, c < 256) : crc B < 4294967296 := by
  have := reg_lt h
  unfold crc
  omega
set_option maxHeartbeats 2000000 in
theorem seal_ok (A : Option Addr) (c n : Nat) (B : List Nat) (hn : B.length = n) (hB : n ≤ 140737488355000) (w : World) (hr : Rd w A n B) :
    Calls Try.prog 32 #[.slice A n c] w fun e w' => ∃ h : Nat, e = .returned (.slice (some ⟨h, 0, none⟩) 4 4) ∧ w.heap.size ≤ h ∧ Bk w' h 5 (bys (seal4 (crc B))).toArray ∧ Bel w w' := by
  subst hn
  have hx := crc_lt B hr.2.1
  have HS : Hid (∀ W, Bel w W → _) := fun W hW => sum_any A c B hB W (hr.bel hW)
  obtain ⟨x, hxx⟩ : ∃ x, crc B = x := ⟨_, rfl⟩
  rw [hxx] at hx HS ⊢
  clear hr hxx
  go_enter Try.func32, Try.ntmps32
  go_wp2_with fail
  go_at_call 46
  refine (HS.out _ (by first | exact Bel.rf | exact Bel.rf.drwN _)).mono ?_
  rintro e w1 ⟨rfl, hb⟩
  go_wp2
  go_ret
  refine ⟨_, rfl, hb.size, ?_, hb.al _⟩
  have e : (bys (seal4 x)).toArray = #[Value.int .u8 ((x : Int) % 256), Value.int .u8 ((x : Int) / 256 % 256), Value.int .u8 ((x : Int) / 65536 % 256), Value.int .u8 ((x : Int) / 16777216)] := by
    have h4 : x / 16777216 % 256 = x / 16777216 := by omega
    simp [bys, seal4, h4]
  rw [e]
  exact Bk.nw _ _ _
end Go.Proofs.Ytdkibffbaamkkaa.Pk
