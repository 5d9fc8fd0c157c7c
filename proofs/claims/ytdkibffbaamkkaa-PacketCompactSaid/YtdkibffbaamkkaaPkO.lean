/- Strings of packets; the examples of the chapter. -/
import Derived.Test.YtdkibffbaamkkaaPkA
import Derived.Test.YtdkibffbaamkkaaSrcNew0
import Derived.Laws.BytesArg
import Derived.Laws.IdiomStrings
import Derived.Deep.RegionHeld3
import Derived.Laws.Strings
namespace Go.Proofs.Ytdkibffbaamkkaa.Pk
open Go.ChangeShapes Go.WideShapes Go.RowKit Wo Sr Wi Rm Rg Cd Cr By
set_option linter.unusedVariables false
/-- 'string(b)' where b reads as L -/
theorem run_str {P : Program} (w : World) (src dst e : TypeId) (A : Option Addr) (n c : Nat) (L : List Nat) (hs : P.underlying src = some (.slice e)) (he : P.underlying e = some (.int .u8)) (hd : P.underlying dst = some .string) (hr : Rd w A n L) :
    (convert src dst (.slice A n c)).run P w = .ok (.string ⟨(L.map fun x => UInt8.ofNat x).toArray⟩) w := by
  rcases Nat.eq_zero_or_pos n with h0 | h0
  · have hL : L = [] := List.eq_nil_of_length_eq_zero (by rw [hr.1]; exact h0)
    subst h0 hL
    cases A with
    | none => exact run_convert_bytes_nil w src e hs he 0 c dst hd
    | some a =>
      have := run_convert_bytes_back (P := P) w src dst e a c [] hs he hd (fun j hj => by simp at hj)
      simpa using this
  · obtain ⟨a, rfl, hb, hc⟩ := hr.2.2 h0
    have hlen : (L.map fun x => UInt8.ofNat x).length = n := by simp [hr.1]
    have := run_convert_bytes_back (P := P) w src dst e a c (L.map fun x => UInt8.ofNat x) hs he hd (fun j hj => by
      rw [hlen] at hj
      rw [hc j hj]
      have hjl : j < L.length := by rw [hr.1]; exact hj
      have hx := hr.2.1 _ (List.getElem_mem hjl)
      simp only [List.getElem_map, UInt8.toNat_ofNat', List.getD_eq_getElem?_getD, List.getElem?_eq_getElem hjl, Option.getD_some]
      rw [Nat.mod_eq_of_lt (by simpa using hx)])
    rwa [hlen] at this
theorem rd_take {w : World} {A : Option Addr} {n : Nat} {L : List Nat} (h : Rd w A n L) (m : Nat) (hm : m ≤ n) : Rd w A m (L.take m) := by
  refine ⟨by rw [List.length_take]; have := h.1; omega, fun c hc => h.2.1 c (List.mem_of_mem_take hc), fun hp => ?_⟩
  obtain ⟨ad, e, hb, hc⟩ := h.2.2 (by omega)
  exact ⟨ad, e, hb, fun j hj => by rw [hc j (by omega)]; simp [List.getD_eq_getElem?_getD, hj]⟩
def sb (L : List Nat) : ByteArray := ⟨(L.map fun x => UInt8.ofNat x).toArray⟩
theorem sb_inj {L M : List Nat} (hL : ∀ c ∈ L, c < 256) (hM : ∀ c ∈ M, c < 256) (h : sb L = sb M) : L = M := by
  have h1 : (L.map fun x => UInt8.ofNat x).toArray = (M.map fun x => UInt8.ofNat x).toArray := congrArg ByteArray.data h
  have h2 : (L.map fun x => UInt8.ofNat x) = (M.map fun x => UInt8.ofNat x) := by simpa using h1
  have h3 : ∀ (K : List Nat), (∀ c ∈ K, c < 256) → (K.map fun x => UInt8.ofNat x).map UInt8.toNat = K := fun K hK => by
    rw [List.map_map]
    conv => rhs; rw [← List.map_id K]
    refine List.map_congr_left fun x hx => ?_
    have := hK x hx
    simp [Function.comp]
    omega
  rw [← h3 L hL, ← h3 M hM, h2]
theorem pck_byte {l : List Rp} (hv : Vrs l) (hn : l.length ≤ 2000) : ∀ c ∈ pck l, c < 256 := by
  intro c hc
  unfold pck at hc
  have hb := (pre_facts (vrs_vp hv) hn l.length (Nat.le_refl _)).1
  rw [pre_all l.length l rfl] at hb
  rcases List.mem_append.1 hc with hc | hc
  · exact hb c hc
  · exact seal4_byte _ c hc
theorem arg_bel {A : Option Addr} {len cap : Nat} {zs : List Int} {w w' : World} (h : ((A = none ∧ len = 0 ∧ cap = 0 ∧ zs = []) ∨ ∃ x, A = some x ∧ len ≤ cap ∧ cap ≤ maxLen ∧ zs.length = cap ∧ (∀ i, i < zs.length → w.cell? (x.add i) = some (.int .i64 (zs.getD i 0))) ∧ ∀ n ∈ zs, (Lit.int .i64 n).wf = true)) (hb : Bel w w') : ((A = none ∧ len = 0 ∧ cap = 0 ∧ zs = []) ∨ ∃ x, A = some x ∧ len ≤ cap ∧ cap ≤ maxLen ∧ zs.length = cap ∧ (∀ i, i < zs.length → w'.cell? (x.add i) = some (.int .i64 (zs.getD i 0))) ∧ ∀ n ∈ zs, (Lit.int .i64 n).wf = true) := by
  rcases h with h | ⟨x, e, h1, h2, h3, h4, h5⟩
  · exact .inl h
  · exact .inr ⟨x, e, h1, h2, h3, fun i hi => hb.kp (h4 i hi), h5⟩
theorem str_rd {w : World} {A : Option Addr} {n c : Nat} {L : List Nat} (hr : Rd w A n L) : (convert 23 9 (.slice A n c)).run Try.prog w = .ok (.string (sb L)) w :=
  run_str w 23 9 5 A n c L Try.underlying23 Try.underlying5 Try.underlying9 hr
theorem ba_ne {a b : ByteArray} (h : ¬ a = b) : ¬ a.toList = b.toList := fun e => h (Go.WideShapes.bytes_inj (by rw [← Go.ByteArray.toList_eq, ← Go.ByteArray.toList_eq]; exact e))
theorem body_ex : body [(5, -1), (5, 1)] = [84, 83, 49, 4, 10, 1, 0, 4] := by kernel_rfl
theorem pck_ex : pck [(5, -1), (5, 1)] = [84, 83, 49, 4, 10, 1, 0, 4] ++ seal4 (crc [84, 83, 49, 4, 10, 1, 0, 4]) := by
  unfold pck
  rw [body_ex]
theorem vrs_ex : Vrs [(5, -1), (5, 1)] := fun i hi => by
  rcases i with _ | _ | i
  · show Vr 5 (-1); unfold Vr; omega
  · show Vr 5 1; unfold Vr; omega
  · have h9 : i + 2 < 2 := hi
    omega
theorem sb_ex : sb [84, 83, 49, 4, 10, 1, 0, 4] = { data := #[84, 83, 49, 4, 10, 1, 0, 4] } := by rfl
/-- what Encode has given, as bytes -/
theorem enc_rd (A : Option Addr) (ca n : Nat) (l : List Rp) (hn : n ≤ 2000) (hv : Vrs l) (w : World) (h : Zr w A n l) :
    Calls Try.prog 15 #[.slice A n ca] w fun e w' => ∃ (h c : Nat), e = .returned (.tuple #[.slice (some ⟨h, 0, none⟩) (pck l).length c, .int .i64 0]) ∧ (pck l).length ≤ c ∧ Rd w' (some ⟨h, 0, none⟩) (pck l).length (pck l) ∧ Bel w w' := by
  have hl := h.1
  refine (enc_ok A ca n l hn hv w h).mono ?_
  rintro e w' ⟨u, rfl, ho, hb⟩
  have hp : 0 < (pck l).length := by unfold pck; simp [seal4]
  obtain ⟨h3, cap, rfl, hc⟩ : ∃ (h3 cap : Nat), u = .slice (some ⟨h3, 0, none⟩) (pck l).length cap ∧ (pck l).length ≤ cap := by
    rcases ho.2 with ⟨_, h9⟩ | ⟨g, cap, cur, e, _, _, hc, _⟩
    · omega
    · exact ⟨g, cap, e, hc⟩
  exact ⟨h3, cap, rfl, hc, Rd.own ho (pck_byte hv (by omega)) rfl, hb⟩
set_option maxHeartbeats 4000000 in
theorem awake6_ok (w : World) : Calls Try.prog 12 #[] w fun e w' => e = .returned (.bool true) ∧ Bel w w' := by
  have HE : Hid (∀ (g : Nat) W, Bk W g 40 (rs [(5, -1), (5, 1)]).toArray → _) := fun g W h => enc_rd (some ⟨g, 0, none⟩) 2 2 [(5, -1), (5, 1)] (by decide) vrs_ex W (zr_bk h 2 rfl)
  have hlen : (pck [(5, -1), (5, 1)]).length = 12 := by rw [pck_ex]; simp [seal4]
  have htk : (pck [(5, -1), (5, 1)]).take 8 = [84, 83, 49, 4, 10, 1, 0, 4] := by rw [pck_ex]; rfl
  rw [hlen] at HE
  have HTK := Lib.hid htk
  clear hlen htk
  go_enter Try.func12, Try.ntmps12
  go_wp2_with fail
  go_at_call 15
  refine (HE.out _ _ (by first | exact Bk.nw _ _ _ | exact (Bk.nw _ _ _).drwN _)).mono ?_
  rintro e w2 ⟨h, c, rfl, hc, hr, hb⟩
  have hr8 : Rd w2 (some ⟨h, 0, none⟩) 8 [84, 83, 49, 4, 10, 1, 0, 4] := by
    have := rd_take hr 8 (by decide)
    rwa [HTK.out] at this
  have st : ∀ n, (convert 23 9 (.slice (some ⟨h, 0, none⟩) 8 c)).run Try.prog (w2.drewN n) = .ok (.string { data := #[84, 83, 49, 4, 10, 1, 0, 4] }) (w2.drewN n) := fun n => by
    rw [← sb_ex]; exact str_rd (hr8.bel (Bel.rf.drwN n))
  have st0 : (convert 23 9 (.slice (some ⟨h, 0, none⟩) 8 c)).run Try.prog w2 = .ok (.string { data := #[84, 83, 49, 4, 10, 1, 0, 4] }) w2 := by
    rw [← sb_ex]; exact str_rd hr8
  have HB : Hid (Bel w w2) := (Bel.rf.al _).tr (by first | exact hb | exact (Bel.rf.drwN _).tr hb)
  have c8 : (8 : Int) ≤ (c : Int) := by omega
  clear hr hr8 hb
  go_wp2
  go_ret
  exact ⟨rfl, by first | exact HB.out | exact HB.out.drwN _⟩
end Go.Proofs.Ytdkibffbaamkkaa.Pk
