/- Seals, strings of bytes, bytes.Equal, seal.Holds; bytes that came in (out of the texts of layers 3 and 6). -/
import Derived.Test.YtaplbkfmedofcaaSgB
import Derived.Test.YtaplbkfmedofcaaCodecSum2
import Derived.Laws.BytesArg
import Derived.Laws.IdiomStrings
import Derived.Deep.RegionHeld3
import Derived.Laws.Strings
import Derived.OpenShut
import Derived.Deep.AppendLies
namespace Go.Proofs.Ytaplbkfmedofcaa.Sg
open Go.ChangeShapes Go.WideShapes Go.RowKit Wo Sr Wi Cd Cr By Pk Bm
set_option linter.unusedVariables false
theorem crc_lt (B : List Nat) (h : ∀ c ∈ B, c < 256) : crc B < 4294967296 := by
  have := reg_lt h
  unfold crc
  omega
set_option maxHeartbeats 2000000 in
theorem seal_ok (A : Option Addr) (c n : Nat) (B : List Nat) (hn : B.length = n) (hB : n ≤ 140737488355000) (w : World) (hr : Rd w A n B) :
    Calls Try.prog 31 #[.slice A n c] w fun e w' => ∃ h : Nat, e = .returned (.slice (some ⟨h, 0, none⟩) 4 4) ∧ w.heap.size ≤ h ∧ Bk w' h 5 (bys (seal4 (crc B))).toArray ∧ Bel w w' := by
  subst hn
  have hx := crc_lt B hr.2.1
  have HS : Hid (∀ W, Bel w W → _) := fun W hW => sum_any A c B hB W (hr.bel hW)
  obtain ⟨x, hxx⟩ : ∃ x, crc B = x := ⟨_, rfl⟩
  rw [hxx] at hx HS ⊢
  clear hr hxx
  go_enter Try.func31, Try.ntmps31
  go_wp2_with fail
  go_at_call 47
  refine (HS.out _ (by first | exact Bel.rf | exact Bel.rf.drwN _)).mono ?_
  rintro e w1 ⟨rfl, hb⟩
  go_wp2
  go_ret
  refine ⟨_, rfl, hb.size, ?_, hb.al _⟩
  have e : (bys (seal4 x)).toArray = #[Value.int .u8 ((x : Int) % 256), Value.int .u8 ((x : Int) / 256 % 256), Value.int .u8 ((x : Int) / 65536 % 256), Value.int .u8 ((x : Int) / 16777216)] := by
    have h4 : x / 16777216 % 256 = x / 16777216 := by omega
    simp [bys, seal4, h4]
  rw [e]
  exact Bk.nw _ _ _
/-- 'string(b)' where b reads as L -/
theorem run_str {P : Program} (w : World) (src dst e : TypeId) (A : Option Addr) (n c : Nat) (L : List Nat) (hs : P.underlying src = some (.slice e)) (he : P.underlying e = some (.int .u8)) (hd : P.underlying dst = some .string) (hr : Rd w A n L) :
    (convert src dst (.slice A n c)).run P w = .ok (.string ⟨(L.map fun x => UInt8.ofNat x).toArray⟩) w := by
  rcases Nat.eq_zero_or_pos n with h0 | h0
  · have hL : L = [] := List.eq_nil_of_length_eq_zero (by rw [hr.1]; exact h0)
    subst h0 hL
    cases A with
    | none => exact run_convert_bytes_nil w src e hs he 0 c dst hd
    | some a =>
      have := run_convert_bytes_back (P := P) w src dst e a c [] hs he hd (fun j hj => by simp at hj)
      simpa using this
  · obtain ⟨a, rfl, hb, hc⟩ := hr.2.2 h0
    have hlen : (L.map fun x => UInt8.ofNat x).length = n := by simp [hr.1]
    have := run_convert_bytes_back (P := P) w src dst e a c (L.map fun x => UInt8.ofNat x) hs he hd (fun j hj => by
      rw [hlen] at hj
      rw [hc j hj]
      have hjl : j < L.length := by rw [hr.1]; exact hj
      have hx := hr.2.1 _ (List.getElem_mem hjl)
      simp only [List.getElem_map, UInt8.toNat_ofNat', List.getD_eq_getElem?_getD, List.getElem?_eq_getElem hjl, Option.getD_some]
      rw [Nat.mod_eq_of_lt (by simpa using hx)])
    rwa [hlen] at this
theorem rd_take {w : World} {A : Option Addr} {n : Nat} {L : List Nat} (h : Rd w A n L) (m : Nat) (hm : m ≤ n) : Rd w A m (L.take m) := by
  refine ⟨by rw [List.length_take]; have := h.1; omega, fun c hc => h.2.1 c (List.mem_of_mem_take hc), fun hp => ?_⟩
  obtain ⟨ad, e, hb, hc⟩ := h.2.2 (by omega)
  exact ⟨ad, e, hb, fun j hj => by rw [hc j (by omega)]; simp [List.getD_eq_getElem?_getD, hj]⟩
def sb (L : List Nat) : ByteArray := ⟨(L.map fun x => UInt8.ofNat x).toArray⟩
theorem sb_inj {L M : List Nat} (hL : ∀ c ∈ L, c < 256) (hM : ∀ c ∈ M, c < 256) (h : sb L = sb M) : L = M := by
  have h1 : (L.map fun x => UInt8.ofNat x).toArray = (M.map fun x => UInt8.ofNat x).toArray := congrArg ByteArray.data h
  have h2 : (L.map fun x => UInt8.ofNat x) = (M.map fun x => UInt8.ofNat x) := by simpa using h1
  have h3 : ∀ (K : List Nat), (∀ c ∈ K, c < 256) → (K.map fun x => UInt8.ofNat x).map UInt8.toNat = K := fun K hK => by
    rw [List.map_map]
    conv => rhs; rw [← List.map_id K]
    refine List.map_congr_left fun x hx => ?_
    have := hK x hx
    simp [Function.comp]
    omega
  rw [← h3 L hL, ← h3 M hM, h2]
theorem str_rd {w : World} {A : Option Addr} {n c : Nat} {L : List Nat} (hr : Rd w A n L) : (convert 23 9 (.slice A n c)).run Try.prog w = .ok (.string (sb L)) w :=
  run_str w 23 9 5 A n c L Try.underlying23 Try.underlying5 Try.underlying9 hr
theorem ba_ne {a b : ByteArray} (h : ¬ a = b) : ¬ a.toList = b.toList := fun e => h (Go.WideShapes.bytes_inj (by rw [← Go.ByteArray.toList_eq, ← Go.ByteArray.toList_eq]; exact e))
theorem sb_eq {L M : List Nat} (hL : ∀ c ∈ L, c < 256) (hM : ∀ c ∈ M, c < 256) : ((sb L).toList == (sb M).toList) = decide (L = M) := by
  rcases Classical.em (L = M) with h | h
  · subst h; simp
  · rw [decide_eq_false h]
    have := ba_ne (a := sb L) (b := sb M) (fun e => h (sb_inj hL hM e))
    simpa using this
theorem equal_ok (A A' : Option Addr) (c c' n n' : Nat) (L M : List Nat) (w : World) (h1 : Rd w A n L) (h2 : Rd w A' n' M) :
    Calls Try.prog 34 #[.slice A n c, .slice A' n' c'] w fun e w' => e = .returned (.bool (decide (L = M))) ∧ w = w' := by
  have s1 := str_rd (c := c) h1
  have s2 := str_rd (c := c') h2
  rw [← sb_eq h1.2.1 h2.2.1]
  obtain ⟨S1, hS1⟩ : ∃ S, sb L = S := ⟨_, rfl⟩
  obtain ⟨S2, hS2⟩ : ∃ S, sb M = S := ⟨_, rfl⟩
  rw [hS1] at s1 ⊢
  rw [hS2] at s2 ⊢
  clear hS1 hS2 h1 h2
  go_enter Try.func34, Try.ntmps34
  go_wp2
  go_ret
  exact ⟨by first | rfl | simp, rfl⟩
set_option maxHeartbeats 4000000 in
theorem holds_okg (ad : Addr) (c n E : Nat) (P : List Nat) (hE : E + 4 = n) (hn2 : n ≤ 1000000) (hc : n ≤ c) (hc2 : c ≤ maxLen) (w : World) (h1 : Rd w (some ad) n P) :
    Calls Try.prog 32 #[.slice (some ad) n c] w fun e w' => e = .returned (.bool (decide (seal4 (crc (P.take E)) = P.drop E))) ∧ Bel w w' := by
  have HS : Hid (∀ W, Bel w W → _) := fun W hW => seal_ok (some ad) c E (P.take E) (by rw [List.length_take, h1.1]; omega) (by omega) W ((rd_take h1 E (by omega)).bel hW)
  have HD : Hid (∀ W, Bel w W → Rd W (some (ad.add E)) 4 (P.drop E)) := fun W hW => by
    have := rd_dropg (h1.bel hW) E (by omega)
    rwa [show n - E = 4 by omega] at this
  have HQ : Hid (∀ (g x : Nat) W, Bk W g 5 (bys (seal4 (crc (P.take E)))).toArray → Bel w W → _) := fun g x W hg hW => equal_ok (some ⟨g, 0, none⟩) (some (ad.add E)) 4 x 4 4 (seal4 (crc (P.take E))) (P.drop E) W (rd_bk hg (seal4_byte _) 4 rfl) (HD.out W hW)
  obtain ⟨b, hb⟩ : ∃ b, decide (seal4 (crc (P.take E)) = P.drop E) = b := ⟨_, rfl⟩
  rw [hb] at HQ ⊢
  have e0 : (n : Int) - 4 = (E : Int) := by omega
  have e1 : (0 : Int) ≤ (E : Int) := by omega
  have e2 : (E : Int) ≤ (c : Int) := by omega
  have e3 : (E : Int) ≤ (n : Int) := by omega
  have e4 : n - E = 4 := by omega
  have e5 : ¬ c = E := by omega
  have e6 : E ≤ c := by omega
  have e7 : (n : Int) ≤ (c : Int) := by omega
  have ni : (n : Int) ≤ 1000000 := by omega
  clear h1 hb hE hc hc2 hn2
  go_enter Try.func32, Try.ntmps32
  go_wp2_with fail
  go_region_held3 (fun w' => Bel w w') ((repeat (first | exact HB1.out | exact Bel.rf | (with_reducible refine Bel.drwN ?_ _) | (with_reducible refine Bel.drw ?_)))) (first
    | (go_at_call 31; refine (HS.out _ (by repeat (first | exact Bel.rf | (with_reducible refine Bel.drwN ?_ _) | (with_reducible refine Bel.drw ?_)))).mono ?_; rintro e w1 ⟨g, rfl, hg, hk, hb1⟩; have HB1 : Hid (Bel w w1) := (by first | exact hb1 | exact Bel.rf.drw.tr hb1 | exact (Bel.rf.drwN _).tr hb1); have HK := Lib.hid hk; clear hk hb1)
    | (go_at_call 34; refine (HQ.out _ _ _ (by first | exact HK.out | exact HK.out.drw | exact HK.out.drwN _) (by first | exact HB1.out | exact HB1.out.drw | exact HB1.out.drwN _)).mono ?_; rintro e w2 ⟨rfl, rfl⟩))
  all_goals
    go_wp2
    go_ret
    exact ⟨rfl, by first | exact HB1.out | exact HB1.out.drw | exact HB1.out.drwN _⟩
theorem dam {B : List Nat} {i x : Nat} (hB : ∀ c ∈ B, c < 256) (hx : x < 256) (hi : i < (B ++ seal4 (crc B)).length) (hne : (B ++ seal4 (crc B)).getD i 0 ≠ x) :
    ¬ seal4 (crc (((B ++ seal4 (crc B)).set i x).take B.length)) = ((B ++ seal4 (crc B)).set i x).drop B.length := by
  rw [List.set_append]
  rcases Nat.lt_or_ge i B.length with h | h
  · rw [if_pos h]
    have e1 : (B.set i x ++ seal4 (crc B)).take B.length = B.set i x := by
      rw [List.take_append_of_le_length (by simp), List.take_of_length_le (by simp)]
    have e2 : (B.set i x ++ seal4 (crc B)).drop B.length = seal4 (crc B) := by
      have := List.drop_left (l₁ := B.set i x) (l₂ := seal4 (crc B))
      rwa [List.length_set] at this
    rw [e1, e2]
    intro he
    have hs : ∀ c ∈ B.set i x, c < 256 := fun c hc => by
      rcases List.mem_or_eq_of_mem_set hc with h2 | h2
      · exact hB c h2
      · omega
    refine crc_set (l := B) (i := i) (d := x) hB h hx (fun e => hne ?_) (seal4_inj (crc_lt _ hs) (crc_lt _ hB) he)
    rw [List.getD_eq_getElem?_getD, List.getElem?_append_left h, List.getElem?_eq_getElem h]
    exact e
  · rw [if_neg (by omega)]
    have e1 : (B ++ (seal4 (crc B)).set (i - B.length) x).take B.length = B := List.take_left
    have e2 : (B ++ (seal4 (crc B)).set (i - B.length) x).drop B.length = (seal4 (crc B)).set (i - B.length) x := List.drop_left
    rw [e1, e2]
    intro he
    have hl : i - B.length < (seal4 (crc B)).length := by rw [List.length_append] at hi; omega
    have h3 : ((seal4 (crc B)).set (i - B.length) x).getD (i - B.length) 0 = x := by
      rw [List.getD_eq_getElem?_getD, List.getElem?_set_self hl]; rfl
    rw [← he] at h3
    apply hne
    rw [List.getD_eq_getElem?_getD, List.getElem?_append_right h, ← List.getD_eq_getElem?_getD]
    exact h3
theorem rd_set {w : World} {base cap h n : Nat} {e : TypeId} {L : List Nat} {i x : Nat} (hr : w.ownsRow base e 1 (.slice (some ⟨h, 0, none⟩) n cap) n (bys L)) (hl : ∀ c ∈ L, c < 256) (hn : L.length = n) (hx : x < 256) :
    Rd (w.setCell ⟨h, i, none⟩ (.int .u8 (x : Int))) (some ⟨h, 0, none⟩) n (L.set i x) := by
  have hs := (hr.stored i (.int .u8 (x : Int))).1
  have e1 : (bys L).set i (.int .u8 (x : Int)) = bys (L.set i x) := by simp [bys]
  rw [e1] at hs
  refine Rd.own hs (fun c hc => ?_) (by simpa using hn)
  rcases List.mem_or_eq_of_mem_set hc with h | h
  · exact hl c h
  · omega
theorem xor_ne {a b : Nat} (hb : b ≠ 0) : a ≠ a ^^^ b := by
  intro h
  have := congrArg (a ^^^ ·) h
  simp [← Nat.xor_assoc] at this
  exact hb this.symm
theorem rd_in {A : Option Addr} {len cap : Nat} {zs : List Int} {w : World}
    (h : (A = none ∧ len = 0 ∧ cap = 0 ∧ zs = []) ∨ ∃ x, A = some x ∧ len ≤ cap ∧ cap ≤ maxLen ∧ zs.length = cap ∧ (∀ i, i < zs.length → w.cell? (x.add i) = some (.int .u8 (zs.getD i 0))) ∧ ∀ n ∈ zs, (Lit.int .u8 n).wf = true) :
    ∃ B : List Nat, B.length = len ∧ Rd w A len B ∧ (A = none → cap = 0) := by
  rcases h with ⟨rfl, rfl, rfl, rfl⟩ | ⟨x, rfl, hl, hm, hz, hc, hw⟩
  · exact ⟨[], rfl, Rd.nil _ _, fun _ => rfl⟩
  · have hlen : ((zs.take len).map Int.toNat).length = len := by simp; omega
    have hget : ∀ j, j < len → ((zs.take len).map Int.toNat).getD j 0 = (zs.getD j 0).toNat := fun j hj => by
      rw [List.getD_eq_getElem?_getD, List.getElem?_map, List.getElem?_take, if_pos hj, List.getD_eq_getElem?_getD, List.getElem?_eq_getElem (show j < zs.length by omega)]
      rfl
    have hb : ∀ n ∈ zs, 0 ≤ n ∧ n ≤ 255 := fun n hn => bounds_u8 (hw n hn)
    refine ⟨(zs.take len).map Int.toNat, hlen, ⟨hlen, fun c hcm => ?_, fun hn => ⟨x, rfl, ?_, fun j hj => ?_⟩⟩, fun h => by cases h⟩
    · simp only [List.mem_map] at hcm
      obtain ⟨n, hn, rfl⟩ := hcm
      have := hb n (List.mem_of_mem_take hn)
      omega
    · have := World.block_lt_of_cell? w _ (hc 0 (by omega))
      rwa [add_blk] at this
    · rw [hc j (by omega), hget j hj]
      have hj2 : j < zs.length := by omega
      have := hb (zs.getD j 0) (by rw [List.getD_eq_getElem?_getD, List.getElem?_eq_getElem hj2]; exact List.getElem_mem hj2)
      congr 2
      omega
end Go.Proofs.Ytaplbkfmedofcaa.Sg
