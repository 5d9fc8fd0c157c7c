/- A slice of bytes that came in, and one byte of a row set anew. -/
import Derived.Test.YtoacbboidigphaaCodecLen
import Derived.Test.YtoacbboidigphaaSrc
import Derived.OpenShut
import Derived.Deep.AppendLies
namespace Go.Proofs.Ytoacbboidigphaa.By
open Go.ChangeShapes Go.WideShapes Go.RowKit Wo
set_option linter.unusedVariables false
theorem rd_in {A : Option Addr} {len cap : Nat} {zs : List Int} {w : World}
    (h : (A = none ∧ len = 0 ∧ cap = 0 ∧ zs = []) ∨ ∃ x, A = some x ∧ len ≤ cap ∧ cap ≤ maxLen ∧ zs.length = cap ∧ (∀ i, i < zs.length → w.cell? (x.add i) = some (.int .u8 (zs.getD i 0))) ∧ ∀ n ∈ zs, (Lit.int .u8 n).wf = true) :
    ∃ B : List Nat, B.length = len ∧ Rd w A len B ∧ (A = none → cap = 0) := by
  rcases h with ⟨rfl, rfl, rfl, rfl⟩ | ⟨x, rfl, hl, hm, hz, hc, hw⟩
  · exact ⟨[], rfl, Rd.nil _ _, fun _ => rfl⟩
  · have hlen : ((zs.take len).map Int.toNat).length = len := by simp; omega
    have hget : ∀ j, j < len → ((zs.take len).map Int.toNat).getD j 0 = (zs.getD j 0).toNat := fun j hj => by
      rw [List.getD_eq_getElem?_getD, List.getElem?_map, List.getElem?_take, if_pos hj, List.getD_eq_getElem?_getD, List.getElem?_eq_getElem (show j < zs.length by omega)]
      rfl
    have hb : ∀ n ∈ zs, 0 ≤ n ∧ n ≤ 255 := fun n hn => bounds_u8 (hw n hn)
    refine ⟨(zs.take len).map Int.toNat, hlen, ⟨hlen, fun c hcm => ?_, fun hn => ⟨x, rfl, ?_, fun j hj => ?_⟩⟩, fun h => by cases h⟩
    · simp only [List.mem_map] at hcm
      obtain ⟨n, hn, rfl⟩ := hcm
      have := hb n (List.mem_of_mem_take hn)
      omega
    · have := World.block_lt_of_cell? w _ (hc 0 (by omega))
      rwa [add_blk] at this
    · rw [hc j (by omega), hget j hj]
      have hj2 : j < zs.length := by omega
      have := hb (zs.getD j 0) (by rw [List.getD_eq_getElem?_getD, List.getElem?_eq_getElem hj2]; exact List.getElem_mem hj2)
      congr 2
      omega
theorem rd_set {w : World} {base cap h n : Nat} {e : TypeId} {L : List Nat} {i x : Nat} (hr : w.ownsRow base e 1 (.slice (some ⟨h, 0, none⟩) n cap) n (bys L)) (hl : ∀ c ∈ L, c < 256) (hn : L.length = n) (hx : x < 256) :
    Rd (w.setCell ⟨h, i, none⟩ (.int .u8 (x : Int))) (some ⟨h, 0, none⟩) n (L.set i x) := by
  have hs := (hr.stored i (.int .u8 (x : Int))).1
  have e1 : (bys L).set i (.int .u8 (x : Int)) = bys (L.set i x) := by simp [bys]
  rw [e1] at hs
  refine Rd.own hs (fun c hc => ?_) (by simpa using hn)
  rcases List.mem_or_eq_of_mem_set hc with h | h
  · exact hl c h
  · omega
theorem xor_ne {a b : Nat} (hb : b ≠ 0) : a ≠ a ^^^ b := by
  intro h
  have := congrArg (a ^^^ ·) h
  simp [← Nat.xor_assoc] at this
  exact hb this.symm
theorem rd_take {w : World} {A : Option Addr} {n : Nat} {L : List Nat} (h : Rd w A n L) (m : Nat) (hm : m ≤ n) : Rd w A m (L.take m) := by
  refine ⟨by rw [List.length_take, h.1]; omega, fun c hc => h.2.1 c (List.mem_of_mem_take hc), fun hp => ?_⟩
  obtain ⟨ad, e, hb, hc⟩ := h.2.2 (by omega)
  refine ⟨ad, e, hb, fun j hj => ?_⟩
  rw [hc j (by omega)]
  congr 2
  rw [List.getD_eq_getElem?_getD, List.getD_eq_getElem?_getD, List.getElem?_take, if_pos hj]
end Go.Proofs.Ytoacbboidigphaa.By
namespace Go.Proofs.Ytoacbboidigphaa.Cd
open Go.ChangeShapes Go.WideShapes Go.RowKit Wo Bm By Cr
set_option linter.unusedVariables false
theorem put_as (A : Option Addr) (c : Nat) (B : List Nat) (n : Int) (lb k : Nat) (hlb : B.length = lb) (hk : (bytesOf n).length = k) (h0 : -9223372036854775808 ≤ n) (h1 : n ≤ 9223372036854775807) (hB : lb ≤ 140737488355000) (w : World) (hr : Rd w A lb B) :
    Calls Try.prog 9 #[.slice A lb c, .int .i64 n] w fun e w' => ∃ h : Nat, e = .returned (.slice (some ⟨h, 0, none⟩) (lb + k) (lb + 10)) ∧ w.heap.size ≤ h ∧ Rd w' (some ⟨h, 0, none⟩) (lb + k) (B ++ bytesOf n) ∧ Bel w w' := by
  subst hlb hk
  refine (put_any A c B n h0 h1 hB w hr).mono fun e w' ⟨h, he, hown, hb⟩ => ⟨h, he, (hown.lt h rfl).1, Rd.own hown ?_ (by simp), hb⟩
  intro c hc
  rcases List.mem_append.1 hc with h | h
  · exact hr.2.1 c h
  · exact enc_byte 9 (fld n) (by rw [room_nine]; exact fld_lt h0 h1) c h
theorem int_as (A : Option Addr) (c : Nat) (B : List Nat) (lb at_ : Nat) (hlb : B.length = lb) (d : Int × Int × Int) (hd : dec B at_ = d) (hat : at_ ≤ lb) (hB : lb ≤ 140737488355000) (w : World) (hr : Rd w A lb B) :
    Calls Try.prog 10 #[.slice A lb c, .int .i64 (at_ : Int)] w fun e w' => e = .returned (.tuple #[.int .i64 d.1, .int .i64 d.2.1, .int .i64 d.2.2]) ∧ w = w' := by
  subst hlb hd
  exact int_any A c B at_ hat hB w hr
end Go.Proofs.Ytoacbboidigphaa.Cd
