/- Packets whose seal does not hold are not read. -/
import Derived.Test.YtdkibffbaamkkaaPkO
import Derived.Deep.RegionWith
namespace Go.Proofs.Ytdkibffbaamkkaa.Pk
open Go.ChangeShapes Go.WideShapes Go.RowKit Wo Sr Wi Rm Rg Cd Cr By
set_option linter.unusedVariables false
theorem sb_eq {L M : List Nat} (hL : ∀ c ∈ L, c < 256) (hM : ∀ c ∈ M, c < 256) : ((sb L).toList == (sb M).toList) = decide (L = M) := by
  rcases Classical.em (L = M) with h | h
  · subst h; simp
  · rw [decide_eq_false h]
    have := ba_ne (a := sb L) (b := sb M) (fun e => h (sb_inj hL hM e))
    simpa using this
theorem equal_ok (A A' : Option Addr) (c c' n n' : Nat) (L M : List Nat) (w : World) (h1 : Rd w A n L) (h2 : Rd w A' n' M) :
    Calls Try.prog 47 #[.slice A n c, .slice A' n' c'] w fun e w' => e = .returned (.bool (decide (L = M))) ∧ w = w' := by
  have s1 := str_rd (c := c) h1
  have s2 := str_rd (c := c') h2
  rw [← sb_eq h1.2.1 h2.2.1]
  obtain ⟨S1, hS1⟩ : ∃ S, sb L = S := ⟨_, rfl⟩
  obtain ⟨S2, hS2⟩ : ∃ S, sb M = S := ⟨_, rfl⟩
  rw [hS1] at s1 ⊢
  rw [hS2] at s2 ⊢
  clear hS1 hS2 h1 h2
  go_enter Try.func47, Try.ntmps47
  go_wp2
  go_ret
  exact ⟨by first | rfl | simp, rfl⟩
theorem prefix_ok (A A' : Option Addr) (c c' n : Nat) (P M : List Nat) (hn : 3 ≤ n) (hn2 : n ≤ 1000000) (hc : n ≤ c) (w : World) (h1 : Rd w A n P) (h2 : Rd w A' 3 M) :
    Calls Try.prog 33 #[.slice A n c, .slice A' 3 c'] w fun e w' => e = .returned (.bool (decide (P.take 3 = M))) ∧ w = w' := by
  have HE : Hid (∀ (x : Nat), _) := fun x => equal_ok A A' x c' 3 3 (P.take 3) M w (rd_take h1 3 hn) h2
  obtain ⟨b, hb⟩ : ∃ b, decide (P.take 3 = M) = b := ⟨_, rfl⟩
  rw [hb] at HE ⊢
  have ni : (3 : Int) ≤ (n : Int) := by omega
  have ci : (3 : Int) ≤ (c : Int) := by omega
  obtain ⟨ad, rfl, _⟩ := h1.2.2 (by omega)
  clear h1 h2 hb
  go_enter Try.func33, Try.ntmps33
  go_wp2_with (go_at_call 47; refine (HE.out _).mono ?_; rintro e w' ⟨rfl, rfl⟩)
  go_ret
  exact ⟨rfl, rfl⟩
theorem rd_drop {w : World} {h n : Nat} {L : List Nat} (hr : Rd w (some ⟨h, 0, none⟩) n L) (i : Nat) (hi : i ≤ n) : Rd w (some ⟨h, i, none⟩) (n - i) (L.drop i) := by
  refine ⟨by rw [List.length_drop, hr.1], fun c hc => hr.2.1 c (List.mem_of_mem_drop hc), fun hp => ?_⟩
  obtain ⟨ad, e, hb, hc⟩ := hr.2.2 (by omega)
  cases e
  refine ⟨_, rfl, hb, fun j hj => ?_⟩
  have := hc (i + j) (by omega)
  rw [By.add_row] at this
  have e2 : (⟨h, i, none⟩ : Addr).add j = ⟨h, i + j, none⟩ := by unfold Addr.add; split <;> simp_all
  rw [e2, this]
  simp [List.getD_eq_getElem?_getD]
set_option maxHeartbeats 4000000 in
theorem holds_ok (h c n E : Nat) (P : List Nat) (hE : E + 4 = n) (hn2 : n ≤ 1000000) (hc : n ≤ c) (hc2 : c ≤ maxLen) (w : World) (h1 : Rd w (some ⟨h, 0, none⟩) n P) :
    Calls Try.prog 34 #[.slice (some ⟨h, 0, none⟩) n c] w fun e w' => e = .returned (.bool (decide (seal4 (crc (P.take E)) = P.drop E))) ∧ Bel w w' := by
  have HS : Hid (∀ W, Bel w W → _) := fun W hW => seal_ok (some ⟨h, 0, none⟩) c E (P.take E) (by rw [List.length_take, h1.1]; omega) (by omega) W ((rd_take h1 E (by omega)).bel hW)
  have HD : Hid (∀ W, Bel w W → Rd W (some ⟨h, E, none⟩) 4 (P.drop E)) := fun W hW => by
    have := rd_drop (h1.bel hW) E (by omega)
    rwa [show n - E = 4 by omega] at this
  have HQ : Hid (∀ (g x : Nat) W, Bk W g 5 (bys (seal4 (crc (P.take E)))).toArray → Bel w W → _) := fun g x W hg hW => equal_ok (some ⟨g, 0, none⟩) (some ⟨h, E, none⟩) 4 x 4 4 (seal4 (crc (P.take E))) (P.drop E) W (rd_bk hg (seal4_byte _) 4 rfl) (HD.out W hW)
  obtain ⟨b, hb⟩ : ∃ b, decide (seal4 (crc (P.take E)) = P.drop E) = b := ⟨_, rfl⟩
  rw [hb] at HQ ⊢
  have e0 : (n : Int) - 4 = (E : Int) := by omega
  have e1 : (0 : Int) ≤ (E : Int) := by omega
  have e2 : (E : Int) ≤ (c : Int) := by omega
  have e3 : (E : Int) ≤ (n : Int) := by omega
  have e4 : n - E = 4 := by omega
  have e5 : ¬ c = E := by omega
  have e6 : E ≤ c := by omega
  have e7 : (n : Int) ≤ (c : Int) := by omega
  have ni : (n : Int) ≤ 1000000 := by omega
  clear h1 hb hE hc hc2 hn2
  go_enter Try.func34, Try.ntmps34
  go_wp2_with fail
  go_region_with (first
    | (go_at_call 32; refine (HS.out _ (by repeat (first | exact Bel.rf | (with_reducible refine Bel.drwN ?_ _) | (with_reducible refine Bel.drw ?_)))).mono ?_; rintro e w1 ⟨g, rfl, hg, hk, hb1⟩; have HB1 : Hid (Bel w w1) := (by first | exact hb1 | exact Bel.rf.drw.tr hb1 | exact (Bel.rf.drwN _).tr hb1); have HK := Lib.hid hk; clear hk hb1)
    | (go_at_call 47; refine (HQ.out _ _ _ (by first | exact HK.out | exact HK.out.drw | exact HK.out.drwN _) (by first | exact HB1.out | exact HB1.out.drw | exact HB1.out.drwN _)).mono ?_; rintro e w2 ⟨rfl, rfl⟩))
  all_goals
    go_wp2
    go_ret
    exact ⟨rfl, by first | exact HB1.out | exact HB1.out.drw | exact HB1.out.drwN _⟩
theorem dam {B : List Nat} {i x : Nat} (hB : ∀ c ∈ B, c < 256) (hx : x < 256) (hi : i < (B ++ seal4 (crc B)).length) (hne : (B ++ seal4 (crc B)).getD i 0 ≠ x) :
    ¬ seal4 (crc (((B ++ seal4 (crc B)).set i x).take B.length)) = ((B ++ seal4 (crc B)).set i x).drop B.length := by
  rw [List.set_append]
  rcases Nat.lt_or_ge i B.length with h | h
  · rw [if_pos h]
    have e1 : (B.set i x ++ seal4 (crc B)).take B.length = B.set i x := by
      rw [List.take_append_of_le_length (by simp), List.take_of_length_le (by simp)]
    have e2 : (B.set i x ++ seal4 (crc B)).drop B.length = seal4 (crc B) := by
      have := List.drop_left (l₁ := B.set i x) (l₂ := seal4 (crc B))
      rwa [List.length_set] at this
    rw [e1, e2]
    intro he
    have hs : ∀ c ∈ B.set i x, c < 256 := fun c hc => by
      rcases List.mem_or_eq_of_mem_set hc with h2 | h2
      · exact hB c h2
      · omega
    refine crc_set (l := B) (i := i) (d := x) hB h hx (fun e => hne ?_) (seal4_inj (crc_lt _ hs) (crc_lt _ hB) he)
    rw [List.getD_eq_getElem?_getD, List.getElem?_append_left h, List.getElem?_eq_getElem h]
    exact e
  · rw [if_neg (by omega)]
    have e1 : (B ++ (seal4 (crc B)).set (i - B.length) x).take B.length = B := List.take_left
    have e2 : (B ++ (seal4 (crc B)).set (i - B.length) x).drop B.length = (seal4 (crc B)).set (i - B.length) x := List.drop_left
    rw [e1, e2]
    intro he
    have hl : i - B.length < (seal4 (crc B)).length := by rw [List.length_append] at hi; omega
    have h3 : ((seal4 (crc B)).set (i - B.length) x).getD (i - B.length) 0 = x := by
      rw [List.getD_eq_getElem?_getD, List.getElem?_set_self hl]; rfl
    rw [← he] at h3
    apply hne
    rw [List.getD_eq_getElem?_getD, List.getElem?_append_right h, ← List.getD_eq_getElem?_getD]
    exact h3
theorem rd_set {w : World} {base cap h n : Nat} {e : TypeId} {L : List Nat} {i x : Nat} (hr : w.ownsRow base e 1 (.slice (some ⟨h, 0, none⟩) n cap) n (bys L)) (hl : ∀ c ∈ L, c < 256) (hn : L.length = n) (hx : x < 256) :
    Rd (w.setCell ⟨h, i, none⟩ (.int .u8 (x : Int))) (some ⟨h, 0, none⟩) n (L.set i x) := by
  have hs := (hr.stored i (.int .u8 (x : Int))).1
  have e1 : (bys L).set i (.int .u8 (x : Int)) = bys (L.set i x) := by simp [bys]
  rw [e1] at hs
  refine Rd.own hs (fun c hc => ?_) (by simpa using hn)
  rcases List.mem_or_eq_of_mem_set hc with h | h
  · exact hl c h
  · omega
theorem xor_ne {a b : Nat} (hb : b ≠ 0) : a ≠ a ^^^ b := by
  intro h
  have := congrArg (a ^^^ ·) h
  simp [← Nat.xor_assoc] at this
  exact hb this.symm
theorem pck_len {l : List Rp} (hv : Vrs l) (hn : l.length ≤ 2000) : 8 ≤ (pck l).length ∧ (pck l).length ≤ 50000 := by
  have h1 := bytesOf_len (l.length : Int)
  have h2 := (pk_facts l 0 0 (vrs_vp hv) (by decide) (by decide) (by decide) (by decide)).2
  unfold pck body
  simp [seal4]
  omega
set_option maxHeartbeats 4000000 in
theorem dec_bad (h c n E : Nat) (P : List Nat) (hE : E + 4 = n) (h7 : 7 ≤ n) (hn2 : n ≤ 1000000) (hc : n ≤ c) (hc2 : c ≤ maxLen) (w : World) (h1 : Rd w (some ⟨h, 0, none⟩) n P) (hbad : ¬ seal4 (crc (P.take E)) = P.drop E) :
    Calls Try.prog 16 #[.slice (some ⟨h, 0, none⟩) n c] w fun e w' => ∃ er : Int, e = .returned (.tuple #[.slice none 0 0, .int .i64 er]) ∧ er ≠ 0 ∧ Bel w w' := by
  have HH : Hid (∀ W, Bel w W → _) := fun W hW => holds_ok h c n E P hE hn2 hc hc2 W (h1.bel hW)
  rw [decide_eq_false hbad] at HH
  have HX : Hid (∀ (g : Nat) W, Rd W (some ⟨g, 0, none⟩) 3 [84, 83, 49] → Bel w W → _) := fun g W hg hW => prefix_ok (some ⟨h, 0, none⟩) (some ⟨g, 0, none⟩) c 3 n P [84, 83, 49] (by omega) hn2 hc W (h1.bel hW) hg
  obtain ⟨b, hb⟩ : ∃ b, decide (P.take 3 = [84, 83, 49]) = b := ⟨_, rfl⟩
  rw [hb] at HX
  have n7 : ¬ (n : Int) < 7 := by omega
  have ni : (n : Int) ≤ 1000000 := by omega
  have hcv := Lib.run_convert_bytes_const (P := Try.prog) w 23 5 #[.int .u8 84, .int .u8 83, .int .u8 49] 3 3 Try.underlying23 Try.underlying5
  obtain ⟨W1, hW1⟩ : ∃ W1, w.alloc (.cells #[.int .u8 84, .int .u8 83, .int .u8 49] 5 ((#[.int .u8 84, .int .u8 83, .int .u8 49] : Array Value).size, (#[.int .u8 84, .int .u8 83, .int .u8 49] : Array Value).size + 1)) = W1 := ⟨_, rfl⟩
  rw [hW1] at hcv
  have HBW : Hid (Bel w W1) := (by rw [← hW1]; exact Bel.rf.al _)
  have HR1 : Hid (Rd W1 (some ⟨w.heap.size, 0, none⟩) 3 [84, 83, 49]) := by
    rw [← hW1]
    refine ⟨rfl, by decide, fun _ => ⟨_, rfl, by simp, fun j hj => ?_⟩⟩
    rw [By.add_row, cell_of_row _ _ _ _ _ _ (heap_alloc_new w _)]
    rcases (show j = 0 ∨ j = 1 ∨ j = 2 by omega) with rfl | rfl | rfl <;> rfl
  clear hW1 h1 hb hbad
  go_enter Try.func16, Try.ntmps16
  go_wp2_with fail
  go_at_call 33
  refine (HX.out _ _ HR1.out HBW.out).mono ?_
  rintro e w2 ⟨rfl, rfl⟩
  clear hcv
  rcases b with _ | _
  · go_wp2
    go_ret2
    exact ⟨3, rfl, by decide, HBW.out⟩
  · go_wp2_with fail
    go_at_call 34
    refine (HH.out _ HBW.out).mono ?_
    rintro e w3 ⟨rfl, hb3⟩
    go_wp2
    go_ret2
    exact ⟨5, rfl, by decide, HBW.out.tr hb3⟩
end Go.Proofs.Ytdkibffbaamkkaa.Pk
