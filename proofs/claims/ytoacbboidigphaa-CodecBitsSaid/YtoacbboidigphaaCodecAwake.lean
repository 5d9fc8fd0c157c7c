/- The contract of shapesearchlaw03.awake: it returns true. -/
import Derived.Test.YtoacbboidigphaaCodecPut
import Derived.Test.YtoacbboidigphaaCodecInt
import Derived.Test.YtoacbboidigphaaCodecSum2
import Derived.Test.YtoacbboidigphaaCodecWidth
import Derived.Lib.SlBytesConst
import Derived.Laws.BytesArg
namespace Go.Proofs.Ytoacbboidigphaa.Cd
open Go.ChangeShapes Go.WideShapes Go.RowKit Wo Bm By Cr
set_option linter.unusedVariables false
theorem rd_new (w : World) (t : TypeId) (L : List Nat) (cs : Array Value) (hc : cs = (bys L).toArray) (hl : ∀ c ∈ L, c < 256) (g : Nat) (hg : w.heap.size = g) : Rd (w.alloc (.cells cs t)) (some ⟨g, 0, none⟩) L.length L := by
  subst hg hc
  refine ⟨rfl, hl, fun _ => ⟨_, rfl, by simp, fun j hj => ?_⟩⟩
  rw [add_row, (Bk.nw w t _).cell j]
  simpa using bys_at hj
theorem rd_mark (w : World) (t : TypeId) (L : List Nat) (cs : Array Value) (fr : Nat × Nat) (hc : cs = (bys L).toArray) (hl : ∀ c ∈ L, c < 256) (g : Nat) (hg : w.heap.size = g) : Rd (w.alloc (.cells cs t fr)) (some ⟨g, 0, none⟩) L.length L := by
  subst hg hc
  refine ⟨rfl, hl, fun _ => ⟨_, rfl, by simp, fun j hj => ?_⟩⟩
  rw [add_row, World.cell?_alloc_mark w _ t fr j]
  simpa using bys_at hj
theorem ri_new (w : World) (t : TypeId) (L : List Nat) (cs : Array Value) (hc : cs = (L.map fun c : Nat => Value.int .i64 (c : Int)).toArray) (g : Nat) (hg : w.heap.size = g) : Ri (w.alloc (.cells cs t)) (some ⟨g, 0, none⟩) L.length L := by
  subst hg hc
  refine ⟨rfl, fun _ => ⟨_, rfl, by simp, fun j hj => ?_⟩⟩
  rw [add_row, (Bk.nw w t _).cell j]
  simp [List.getD_eq_getElem?_getD, hj]
/-- 'string(b)' where b reads as L -/
theorem run_str {P : Program} (w : World) (src dst e : TypeId) (A : Option Addr) (n c : Nat) (L : List Nat) (hs : P.underlying src = some (.slice e)) (he : P.underlying e = some (.int .u8)) (hd : P.underlying dst = some .string) (hr : Rd w A n L) :
    (convert src dst (.slice A n c)).run P w = .ok (.string ⟨(L.map fun x => UInt8.ofNat x).toArray⟩) w := by
  rcases Nat.eq_zero_or_pos n with h0 | h0
  · have hL : L = [] := List.eq_nil_of_length_eq_zero (by rw [hr.1]; exact h0)
    subst h0 hL
    cases A with
    | none => exact run_convert_bytes_nil w src e hs he 0 c dst hd
    | some a =>
      have := run_convert_bytes_back (P := P) w src dst e a c [] hs he hd (fun j hj => by simp at hj)
      simpa using this
  · obtain ⟨a, rfl, hb, hc⟩ := hr.2.2 h0
    have hlen : (L.map fun x => UInt8.ofNat x).length = n := by simp [hr.1]
    have := run_convert_bytes_back (P := P) w src dst e a c (L.map fun x => UInt8.ofNat x) hs he hd (fun j hj => by
      rw [hlen] at hj
      rw [hc j hj]
      have hjl : j < L.length := by rw [hr.1]; exact hj
      have hx := hr.2.1 _ (List.getElem_mem hjl)
      simp only [List.getElem_map, UInt8.toNat_ofNat', List.getD_eq_getElem?_getD, List.getElem?_eq_getElem hjl, Option.getD_some]
      rw [Nat.mod_eq_of_lt (by simpa using hx)])
    rwa [hlen] at this
theorem put_ex (w : World) : Calls Try.prog 9 #[.slice none 0 0, .int .i64 (-64)] w fun e w' => ∃ h : Nat, e = .returned (.slice (some ⟨h, 0, none⟩) 1 10) ∧ Rd w' (some ⟨h, 0, none⟩) 1 [127] ∧ Bel w w' :=
  (put_any none 0 [] (-64) (by decide) (by decide) (by decide) w (Rd.nil _ _)).mono fun e w' ⟨h, he, hown, hb⟩ => ⟨h, he, Rd.own hown (by decide) rfl, hb⟩
theorem int_ex (w : World) (g : Nat) (hr : Rd w (some ⟨g, 0, none⟩) 2 [128, 1]) : Calls Try.prog 10 #[.slice (some ⟨g, 0, none⟩) 2 2, .int .i64 0] w fun e w' => e = .returned (.tuple #[.int .i64 64, .int .i64 2, .int .i64 0]) ∧ w = w' :=
  int_any (some ⟨g, 0, none⟩) 2 [128, 1] 0 (by decide) (by decide) w hr
theorem width_ex (w : World) (g : Nat) (hr : Ri w (some ⟨g, 0, none⟩) 3 [0, 5, 3]) : Calls Try.prog 13 #[.slice (some ⟨g, 0, none⟩) 3 3] w fun e w' => e = .returned (.int .i64 3) ∧ w = w' :=
  width_any (some ⟨g, 0, none⟩) 3 [0, 5, 3] (by decide) (by decide) w hr
theorem sum_ex (w : World) (g : Nat) (hr : Rd w (some ⟨g, 0, none⟩) 9 [49, 50, 51, 52, 53, 54, 55, 56, 57]) : Calls Try.prog 19 #[.slice (some ⟨g, 0, none⟩) 9 9] w fun e w' => e = .returned (.int .u32 3421780262) ∧ Bel w w' :=
  (sum_any (some ⟨g, 0, none⟩) 9 [49, 50, 51, 52, 53, 54, 55, 56, 57] (by decide) w hr).mono fun e w' ⟨he, hw⟩ => ⟨by rw [he, crc_digits]; rfl, hw⟩
set_option maxHeartbeats 8000000 in
set_option maxRecDepth 100000 in
theorem awake_any (w : World) : Calls Try.prog 8 #[] w fun e w' => e = .returned (.bool true) ∧ Bel w w' := by
  go_enter Try.func8, Try.ntmps8
  go_wp2_with fail
  go_at_call 10
  refine (int_ex _ _ (rd_new w _ [128, 1] _ rfl (by decide) _ rfl)).mono ?_
  rintro e w1 ⟨rfl, hw⟩
  subst hw
  go_wp2_with fail
  go_at_call 9
  refine (put_ex _).mono ?_
  rintro e w2 ⟨h, rfl, hr2, hb⟩
  have hst := run_str (P := Try.prog) w2 22 9 5 (some ⟨h, 0, none⟩) 1 10 [127] Try.underlying22 Try.underlying5 Try.underlying9 hr2
  have HB2 : Hid (Bel w w2) := (Bel.rf.al _).tr hb
  clear hb hr2
  go_wp2_with fail
  go_at_call 13
  refine (width_ex _ _ (ri_new w2 _ [0, 5, 3] _ rfl _ rfl)).mono ?_
  rintro e w3 ⟨rfl, hw⟩
  subst hw
  have kc := Lib.run_convert_bytes_const (P := Try.prog) (w2.alloc (.cells #[.int .i64 0, .int .i64 5, .int .i64 3] 3)) 22 5 #[.int .u8 49, .int .u8 50, .int .u8 51, .int .u8 52, .int .u8 53, .int .u8 54, .int .u8 55, .int .u8 56, .int .u8 57] 9 9 Try.underlying22 Try.underlying5
  simp only [World.size_alloc] at kc
  clear hst
  go_wp2_with fail
  go_at_call 19
  refine (sum_ex _ _ (rd_mark (w2.alloc (.cells #[.int .i64 0, .int .i64 5, .int .i64 3] 3)) _ [49, 50, 51, 52, 53, 54, 55, 56, 57] _ _ rfl (by decide) _ (by simp))).mono ?_
  rintro e w4 ⟨rfl, hb4⟩
  have HB4 : Hid (Bel w w4) := ((HB2.out.al _).al _).tr hb4
  clear hb4 kc
  go_wp2
  go_ret
  exact ⟨rfl, HB4.out⟩
end Go.Proofs.Ytoacbboidigphaa.Cd
