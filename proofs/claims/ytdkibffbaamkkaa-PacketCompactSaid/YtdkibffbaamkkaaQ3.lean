/- The reference of layer 3: folded numbers, PutInt, Sum, Sealed. -/
import Derived.Test.YtdkibffbaamkkaaCrcLin
import Derived.Test.YtdkibffbaamkkaaPkE
namespace Go.Proofs.Ytdkibffbaamkkaa.Pk
open Go.ChangeShapes Go.WideShapes Go.RowKit Wo Sr Wi Rm Rg Cd Cr By Bm
set_option linter.unusedVariables false
theorem rfold_ok (n : Int) (h : In64 n) (w : World) : Calls Try.prog 51 #[.int .i64 n] w fun e w' => e = .returned (.int .u64 (fld n : Int)) ∧ w = w' := by
  obtain ⟨h1, h2⟩ := h
  rcases Int.lt_or_le n 0 with h0 | h0
  · have e : ((fld n : Nat) : Int) = -2 * n - 1 := by unfold fld; rw [if_neg (by omega)]; omega
    rw [e]
    have q0 : ¬ 0 ≤ n := by omega
    have q1 : wrap64 (n + 1) = n + 1 := IntWalk.wrap64_in _ (by omega)
    have q2 : wrap64 (-(n + 1)) = -(n + 1) := IntWalk.wrap64_in _ (by omega)
    have q3 : IntKind.u64.wrap (-(n + 1)) = -(n + 1) := IntWalk.u64_in _ (by omega)
    have q4 : IntKind.u64.wrap (-(n + 1) * 2) = -(n + 1) * 2 := IntWalk.u64_in _ (by omega)
    have q5 : IntKind.u64.wrap (-(n + 1) * 2 + 1) = -(n + 1) * 2 + 1 := IntWalk.u64_in _ (by omega)
    go_enter Try.func51, Try.ntmps51
    go_wp2
    go_ret
    exact ⟨ret_int (by first | omega | (simp; omega)), rfl⟩
  · have e : ((fld n : Nat) : Int) = 2 * n := by unfold fld; rw [if_pos (by omega)]; omega
    rw [e]
    have q3 : IntKind.u64.wrap n = n := IntWalk.u64_in _ (by omega)
    have q4 : IntKind.u64.wrap (n * 2) = n * 2 := IntWalk.u64_in _ (by omega)
    go_enter Try.func51, Try.ntmps51
    go_wp2
    go_ret
    exact ⟨ret_int (by first | omega | (simp; omega)), rfl⟩
def QI (B : List Nat) (n : Int) (lb : Nat) (w : World) (s5 s6 : Value) (wr : World) : Prop := ∃ (k u : Nat) (L : List Nat) (V : World) (x : Value), V = wr ∧ x = s5 ∧ k ≤ 9 ∧ L.length = k ∧ L ++ enc (9 - k) u = bytesOf n ∧ u < room (9 - k) ∧ s6 = .int .u64 (u : Int) ∧
  wr.ownsRow w.heap.size 5 1 s5 (lb + k) (bys (B ++ L)) ∧ Bel w wr
set_option maxHeartbeats 4000000 in
theorem rput_ok (A : Option Addr) (c lb : Nat) (B : List Nat) (n : Int) (hn : In64 n) (hlb : B.length = lb) (hB : lb ≤ 1000000) (hnc : A = none → c = 0) (w : World) (hr : Rd w A lb B) :
    Calls Try.prog 37 #[.slice A lb c, .int .i64 n] w fun e w' => ∃ u : Value, e = .returned u ∧ w'.ownsRow w.heap.size 5 1 u (lb + (bytesOf n).length) (bys (B ++ bytesOf n)) ∧ Bel w w' := by
  obtain ⟨i0, hi0, hz0, hz1, hz2⟩ := info_parts info_u8
  have HI := Lib.hid (And.intro hi0 (And.intro hz0 (And.intro hz1 hz2)))
  have HR := Lib.hid hr
  have HNC := Lib.hid hnc
  have HF : Hid (∀ W, _) := fun W => rfold_ok n hn W
  have HFL : Hid (fld n < 18446744073709551616) := fld_lt hn.1 hn.2
  clear hi0 hz0 hz1 hz2 hr hnc
  go_enter Try.func37, Try.ntmps37
  go_upto_region 2 with (at_builtin; refine wpList_append_rd rfl (.tmp 7) (.tmp 8) 23 rfl w.heap.size 5 i0 (.int .u8 0) Try.underlying23 HI.out.1 HI.out.2.1 HI.out.2.2.1 HI.out.2.2.2 rfl (.slice (some ⟨w.heap.size, 0, none⟩) 0 0) 0 [] rfl (World.ownsRow_lit w #[] 0 (Nat.le_refl _) (by decide) rfl) A lb c B rfl (HR.out.bel (Bel.rf.al _)) HNC.out (by omega) (by simp) ?_; intro u6 w6 ho6 hg6
                         have HB6 : Hid (Bel w w6) := Below.grown ((Bel.rf.al _).bl) hg6 (by simp) (fun b e => by cases e; exact Nat.le_refl _)
                         have HO6 : Hid (w6.ownsRow w.heap.size 5 1 u6 lb (bys B)) := (by have h9 := ho6; rw [Nat.zero_add, List.nil_append] at h9; exact h9)
                         clear ho6 hg6)
  have HS : Hid (QI B n lb w u6 (.int .u64 (fld n : Int)) w6) := ⟨0, fld n, [], _, _, rfl, rfl, by omega, rfl, rfl, by rw [room_nine]; exact HFL.out, rfl, by rw [List.append_nil]; exact HO6.out, HB6.out⟩
  clear HO6 HB6 HR
  go_wp2_with (go_at_call 51; refine (HF.out _).mono ?_; rintro e w' ⟨rfl, rfl⟩)
  go_loopw [5, 6] (fun s5 s6 wr => QI B n lb w s5 s6 wr) (fun _ s6 _ => (intOf s6).toNat)
  case atStart => exact HS.out
  case round =>
    clear HS
    obtain ⟨k, u, L, wr, x, hwr, hx, hk, hL, hE, hu, rfl, ho, hb⟩ := hrel
    subst hwr hx
    have HO := Lib.hid ho
    have HB := Lib.hid hb
    have HE := Lib.hid (And.intro hL hE)
    have hrm := (room_le (9 - k) (by omega)).1
    rcases Nat.lt_or_ge u 128 with h1 | h1
    · have q1 : ¬ 128 ≤ (u : Int) := by omega
      have e1 : L ++ [u] = bytesOf n := by rw [← hE, enc_small _ h1]
      have e2 : (bytesOf n).length = k + 1 := by rw [← e1]; simp [hL]
      have q2 : IntKind.u8.wrap (u : Int) = (u : Int) := IntWalk.u8_in _ (by omega)
      have HE2 := Lib.hid (And.intro e1 e2)
      clear hE hL ho hb e1 e2 hu
      go_wp2_with (at_builtin; refine wpList_append_rd rfl (.tmp 23) (.tmp 26) 23 rfl w.heap.size 5 i0 (.int .u8 0) Try.underlying23 HI.out.1 HI.out.2.1 HI.out.2.2.1 HI.out.2.2.2 rfl x (lb + k) (bys (B ++ L)) rfl (own_bel1 HO.out (Bel.rf.al _)) _ 1 1 [u] rfl (rd_bk (Bk.nq _ _ _ rfl) (fun c hc => by simp at hc; omega) 1 rfl) (fun h => by cases h) (by omega) (HB.out.al _).size ?_; intro v' w9 h9 hg9
                   have HB9 : Hid (Bel w w9) := Below.grown (HB.out.al _).bl hg9 (HB.out.al _).size (fun b e => (HO.out.lt b e).1)
                   have HO9 : Hid (w9.ownsRow w.heap.size 5 1 v' (lb + (bytesOf n).length) (bys (B ++ bytesOf n))) := (by have h8 := h9; rw [← bys_app, List.append_assoc, HE2.out.1] at h8; rw [HE2.out.2, ← Nat.add_assoc]; exact h8)
                   clear h9 hg9)
      go_ret
      exact ⟨_, rfl, HO9.out, HB9.out⟩
    · rcases (show k = 9 ∨ k < 9 by omega) with h9 | h9
      · subst h9
        have := (room_le (9 - 9) (by omega)).2 rfl
        omega
      · obtain ⟨f, hf⟩ : ∃ f, 9 - k = f + 1 := ⟨8 - k, by omega⟩
        rw [hf] at hE hu hrm
        rw [enc_great f h1] at hE
        have e1 : (L ++ [u % 128 + 128]) ++ enc (9 - (k + 1)) (u / 128) = bytesOf n := by rw [← hE, show 9 - (k + 1) = f by omega, List.append_assoc]; rfl
        have e2 : u / 128 < room (9 - (k + 1)) := by rw [show 9 - (k + 1) = f by omega]; rw [room] at hu; omega
        have HE2 := Lib.hid (And.intro e1 e2)
        obtain ⟨y, hy⟩ : ∃ y, u % 128 + 128 = y := ⟨_, rfl⟩
        have q1 : 128 ≤ (u : Int) := by omega
        have q2 : IntKind.u64.wrap ((u : Int) % 128 + 128) = (y : Int) := by rw [IntWalk.u64_in _ (by omega)]; omega
        have q3 : IntKind.u8.wrap (y : Int) = (y : Int) := IntWalk.u8_in _ (by omega)
        have q4 : (u : Int) % 128 + 128 = (y : Int) := by omega
        have yl : y < 256 := by omega
        have q5 : IntKind.u64.wrap ((u : Int) / 128) = (u : Int) / 128 := IntWalk.u64_in _ (by omega)
        have HY := Lib.hid hy
        have hdv : (u : Int) / 128 = ((u / 128 : Nat) : Int) := by omega
        have HDV := Lib.hid hdv
        have ul : u / 128 < u := by omega
        clear hE hL ho hb e1 e2 hu hy hdv hrm
        go_upto_region 5 with (at_builtin; refine wpList_append_rd rfl (.tmp 14) (.tmp 19) 23 rfl w.heap.size 5 i0 (.int .u8 0) Try.underlying23 HI.out.1 HI.out.2.1 HI.out.2.2.1 HI.out.2.2.2 rfl x (lb + k) (bys (B ++ L)) rfl (own_bel1 HO.out (Bel.rf.al _)) _ 1 1 [y] rfl (rd_bk (Bk.nq _ _ _ rfl) (fun c hc => by simp at hc; omega) 1 rfl) (fun h => by cases h) (by omega) (HB.out.al _).size ?_; intro v' w9 h9 hg9
                               have HB9 : Hid (Bel w w9) := Below.grown (HB.out.al _).bl hg9 (HB.out.al _).size (fun b e => (HO.out.lt b e).1)
                               have HO9 : Hid (w9.ownsRow w.heap.size 5 1 v' (lb + (k + 1)) (bys (B ++ (L ++ [u % 128 + 128])))) := (by have h8 := h9; rw [← bys_app, List.append_assoc, ← HY.out] at h8; exact h8)
                               clear h9 hg9)
        go_wp2
        go_roundw
        case rel => exact ⟨k + 1, u / 128, L ++ [u % 128 + 128], _, _, rfl, rfl, by omega, by simp [HE.out.1], HE2.out.1, HE2.out.2, by rw [← HDV.out], HO9.out, HB9.out⟩
        case measure => simp [intOf]; omega
end Go.Proofs.Ytdkibffbaamkkaa.Pk
