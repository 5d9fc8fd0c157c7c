/- The bytes of a packet: plain facts. -/
import Derived.Test.YtdkibffbaamkkaaResMath
import Derived.Test.YtdkibffbaamkkaaIntMath
import Derived.Test.YtdkibffbaamkkaaCrcMath
namespace Go.Proofs.Ytdkibffbaamkkaa.Pk
open Rm Cd Cr
/-- the bytes of readings behind a reading -/
def pk : List Rp → Int → Int → List Nat
  | [], _, _ => []
  | p :: r, t, v => bytesOf (p.1 - t) ++ (bytesOf (p.2 - v) ++ pk r p.1 p.2)
def body (l : List Rp) : List Nat := [84, 83, 49] ++ (bytesOf (l.length : Int) ++ pk l 0 0)
def seal4 (s : Nat) : List Nat := [s % 256, s / 256 % 256, s / 65536 % 256, s / 16777216 % 256]
def pck (l : List Rp) : List Nat := body l ++ seal4 (crc (body l))
def la (l : List Rp) (i : Nat) : Rp := if i = 0 then (0, 0) else (tm l (i - 1), vl l (i - 1))
def ls : List Rp → Rp → Rp
  | [], d => d
  | p :: r, _ => ls r p
theorem ls_snoc (l : List Rp) (p : Rp) : ∀ d, ls (l ++ [p]) d = p := by
  induction l with
  | nil => intro d; rfl
  | cons q r ih => intro d; exact ih q
theorem take_one (l : List Rp) (i : Nat) (h : i < l.length) : l.take (i + 1) = l.take i ++ [(tm l i, vl l i)] := by
  rw [List.take_add_one, List.getElem?_eq_getElem h]
  congr 1
  simp [tm, vl, List.getD_eq_getElem?_getD, h]
theorem pk_snoc (l : List Rp) (p : Rp) : ∀ t v, pk (l ++ [p]) t v = pk l t v ++ (bytesOf (p.1 - (ls l (t, v)).1) ++ bytesOf (p.2 - (ls l (t, v)).2)) := by
  induction l with
  | nil => intro t v; simp [pk, ls]
  | cons q r ih =>
    intro t v
    rw [List.cons_append, pk, ih, pk]
    have e : ls (q :: r) (t, v) = ls r (q.1, q.2) := rfl
    rw [e]
    simp [List.append_assoc]
theorem last_take (l : List Rp) (i : Nat) (h : i ≤ l.length) : ls (l.take i) (0, 0) = la l i := by
  unfold la
  split
  · rename_i h0; subst h0; rfl
  · rename_i h0
    obtain ⟨k, rfl⟩ : ∃ k, i = k + 1 := ⟨i - 1, by omega⟩
    rw [take_one l k (by omega), ls_snoc]
    rfl
theorem pk_next (l : List Rp) (i : Nat) (h : i < l.length) : pk (l.take (i + 1)) 0 0 = pk (l.take i) 0 0 ++ bytesOf (tm l i - (la l i).1) ++ bytesOf (vl l i - (la l i).2) := by
  rw [take_one l i h, pk_snoc, last_take l i (by omega), List.append_assoc]
def In64 (n : Int) : Prop := -9223372036854775808 ≤ n ∧ n ≤ 9223372036854775807
theorem bytes_inj {n m : Int} {r s : List Nat} (hn : In64 n) (hm : In64 m) (h : bytesOf n ++ r = bytesOf m ++ s) : n = m ∧ r = s := by
  have h1 := dec_bytes (B := bytesOf n ++ r) (rest := r) (at_ := 0) hn.1 hn.2 rfl
  have h2 := dec_bytes (B := bytesOf n ++ r) (rest := s) (at_ := 0) hm.1 hm.2 (by simpa using h)
  rw [h1] at h2
  have e : n = m := by injection h2
  subst e
  exact ⟨rfl, List.append_cancel_left h⟩
def Vp (l : List Rp) : Prop := ∀ p ∈ l, 0 ≤ p.1 ∧ p.1 ≤ 1099511627776 ∧ -1000 ≤ p.2 ∧ p.2 ≤ 1000
theorem pk_inj (l : List Rp) : ∀ (m : List Rp) (t v : Int), Vp l → Vp m → l.length = m.length → 0 ≤ t → t ≤ 1099511627776 → -1000 ≤ v → v ≤ 1000 → pk l t v = pk m t v → l = m := by
  induction l with
  | nil => intro m t v _ _ hl _ _ _ _ _; exact (List.length_eq_zero_iff.1 hl.symm).symm
  | cons p r ih =>
    intro m t v h1 h2 hl t0 t1 v0 v1 he
    cases m with
    | nil => simp at hl
    | cons q s =>
      have a := h1 p (by simp)
      have b := h2 q (by simp)
      rw [pk, pk] at he
      obtain ⟨e1, he⟩ := bytes_inj (by unfold In64; omega) (by unfold In64; omega) he
      obtain ⟨e2, he⟩ := bytes_inj (by unfold In64; omega) (by unfold In64; omega) he
      have e3 : p = q := Prod.ext (by omega) (by omega)
      subst e3
      rw [ih s p.1 p.2 (fun x hx => h1 x (by simp [hx])) (fun x hx => h2 x (by simp [hx])) (by simpa using hl) a.1 a.2.1 a.2.2.1 a.2.2.2 he]
theorem body_inj {l m : List Rp} (h1 : Vp l) (h2 : Vp m) (hl : l.length ≤ 2000) (hm : m.length ≤ 2000) (h : body l = body m) : l = m := by
  unfold body at h
  have h := List.append_cancel_left h
  obtain ⟨e1, h⟩ := bytes_inj (by unfold In64; omega) (by unfold In64; omega) h
  exact pk_inj l m 0 0 h1 h2 (by omega) (by decide) (by decide) (by decide) (by decide) h
theorem pck_inj {l m : List Rp} (h1 : Vp l) (h2 : Vp m) (hl : l.length ≤ 2000) (hm : m.length ≤ 2000) (h : pck l = pck m) : l = m := by
  unfold pck at h
  exact body_inj h1 h2 hl hm (List.append_inj_left' h (by simp [seal4]))
theorem bytesOf_byte {n : Int} (h : In64 n) : ∀ c ∈ bytesOf n, c < 256 := enc_byte 9 _ (by rw [room_nine]; exact fld_lt h.1 h.2)
theorem bytesOf_len (n : Int) : 1 ≤ (bytesOf n).length ∧ (bytesOf n).length ≤ 10 := enc_len 9 _
theorem pk_facts (l : List Rp) : ∀ (t v : Int), Vp l → 0 ≤ t → t ≤ 1099511627776 → -1000 ≤ v → v ≤ 1000 → (∀ c ∈ pk l t v, c < 256) ∧ (pk l t v).length ≤ 20 * l.length := by
  induction l with
  | nil => intro t v _ _ _ _ _; simp [pk]
  | cons p r ih =>
    intro t v h1 t0 t1 v0 v1
    have a := h1 p (by simp)
    obtain ⟨x, y⟩ := ih p.1 p.2 (fun x hx => h1 x (by simp [hx])) a.1 a.2.1 a.2.2.1 a.2.2.2
    have l1 := bytesOf_len (p.1 - t)
    have l2 := bytesOf_len (p.2 - v)
    rw [pk]
    refine ⟨fun c hc => ?_, by simp; omega⟩
    rcases List.mem_append.1 hc with hc | hc
    · exact bytesOf_byte (by unfold In64; omega) c hc
    · rcases List.mem_append.1 hc with hc | hc
      · exact bytesOf_byte (by unfold In64; omega) c hc
      · exact x c hc
theorem Vp.take {l : List Rp} (h : Vp l) (i : Nat) : Vp (l.take i) := fun p hp => h p (List.mem_of_mem_take hp)
/-- what stands behind i readings of n -/
def pre (n : Nat) (l : List Rp) (i : Nat) : List Nat := [84, 83, 49] ++ (bytesOf (n : Int) ++ pk (l.take i) 0 0)
theorem pre_zero (n : Nat) (l : List Rp) : pre n l 0 = [84, 83, 49] ++ bytesOf (n : Int) := by simp [pre, pk]
theorem pre_next (n : Nat) (l : List Rp) (i : Nat) (h : i < l.length) : pre n l (i + 1) = pre n l i ++ bytesOf (tm l i - (la l i).1) ++ bytesOf (vl l i - (la l i).2) := by
  unfold pre
  rw [pk_next l i h]
  simp [List.append_assoc]
theorem pre_all (n : Nat) (l : List Rp) (h : l.length = n) : pre n l n = body l := by
  unfold pre body
  rw [List.take_of_length_le (by omega), h]
theorem pre_facts {n : Nat} {l : List Rp} (hv : Vp l) (hn : n ≤ 2000) (i : Nat) (hi : i ≤ n) : (∀ c ∈ pre n l i, c < 256) ∧ (pre n l i).length ≤ 40013 := by
  obtain ⟨x, y⟩ := pk_facts (l.take i) 0 0 (hv.take i) (by decide) (by decide) (by decide) (by decide)
  have l1 := bytesOf_len (n : Int)
  have l3 : (l.take i).length ≤ i := List.length_take_le _ _
  unfold pre
  refine ⟨fun c hc => ?_, by simp; omega⟩
  rcases List.mem_append.1 hc with hc | hc
  · simp at hc; omega
  · rcases List.mem_append.1 hc with hc | hc
    · exact bytesOf_byte (by unfold In64; omega) c hc
    · exact x c hc
theorem seal4_byte (s : Nat) : ∀ c ∈ seal4 s, c < 256 := fun c hc => by simp [seal4] at hc; omega
theorem seal4_inj {s t : Nat} (hs : s < 4294967296) (ht : t < 4294967296) (h : seal4 s = seal4 t) : s = t := by
  unfold seal4 at h
  injection h with h1 h
  injection h with h2 h
  injection h with h3 h
  injection h with h4 h
  omega
end Go.Proofs.Ytdkibffbaamkkaa.Pk
