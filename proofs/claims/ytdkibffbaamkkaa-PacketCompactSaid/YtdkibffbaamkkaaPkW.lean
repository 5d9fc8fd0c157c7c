/- Bytes that came in; what Encode gives, with its bounds. -/
import Derived.Test.YtdkibffbaamkkaaPkF
import Derived.OpenShut
namespace Go.Proofs.Ytdkibffbaamkkaa.Pk
open Go.ChangeShapes Go.WideShapes Go.RowKit Wo Sr Wi Rm Rg Cd Cr By
set_option linter.unusedVariables false
theorem rd_in {A : Option Addr} {len cap : Nat} {zs : List Int} {w : World}
    (h : (A = none ∧ len = 0 ∧ cap = 0 ∧ zs = []) ∨ ∃ x, A = some x ∧ len ≤ cap ∧ cap ≤ maxLen ∧ zs.length = cap ∧ (∀ i, i < zs.length → w.cell? (x.add i) = some (.int .u8 (zs.getD i 0))) ∧ ∀ n ∈ zs, (Lit.int .u8 n).wf = true) :
    ∃ B : List Nat, B.length = len ∧ Rd w A len B ∧ len ≤ cap ∧ cap ≤ maxLen := by
  rcases h with ⟨rfl, rfl, rfl, rfl⟩ | ⟨x, rfl, hl, hm, hz, hc, hw⟩
  · exact ⟨[], rfl, Rd.nil _ _, Nat.le_refl _, Nat.zero_le _⟩
  · have hlen : ((zs.take len).map Int.toNat).length = len := by simp; omega
    have hget : ∀ j, j < len → ((zs.take len).map Int.toNat).getD j 0 = (zs.getD j 0).toNat := fun j hj => by
      rw [List.getD_eq_getElem?_getD, List.getElem?_map, List.getElem?_take, if_pos hj, List.getD_eq_getElem?_getD, List.getElem?_eq_getElem (show j < zs.length by omega)]
      rfl
    have hb : ∀ n ∈ zs, 0 ≤ n ∧ n ≤ 255 := fun n hn => bounds_u8 (hw n hn)
    refine ⟨(zs.take len).map Int.toNat, hlen, ⟨hlen, fun c hcm => ?_, fun hn => ⟨x, rfl, ?_, fun j hj => ?_⟩⟩, hl, hm⟩
    · simp only [List.mem_map] at hcm
      obtain ⟨n, hn, rfl⟩ := hcm
      have := hb n (List.mem_of_mem_take hn)
      omega
    · have := World.block_lt_of_cell? w _ (hc 0 (by omega))
      rwa [add_blk] at this
    · rw [hc j (by omega), hget j hj]
      have hj2 : j < zs.length := by omega
      have := hb (zs.getD j 0) (by rw [List.getD_eq_getElem?_getD, List.getElem?_eq_getElem hj2]; exact List.getElem_mem hj2)
      congr 2
      omega
theorem enc_rd2 (A : Option Addr) (ca n : Nat) (l : List Rp) (hn : n ≤ 2000) (hv : Vrs l) (w : World) (h : Zr w A n l) (p : Nat) (hp : (pck l).length = p) :
    Calls Try.prog 15 #[.slice A n ca] w fun e w' => ∃ (h c : Nat), e = .returned (.tuple #[.slice (some ⟨h, 0, none⟩) p c, .int .i64 0]) ∧ p ≤ c ∧ c ≤ maxLen ∧ Rd w' (some ⟨h, 0, none⟩) p (pck l) ∧ Bel w w' := by
  subst hp
  have hl := h.1
  refine (enc_ok A ca n l hn hv w h).mono ?_
  rintro e w' ⟨u, rfl, ho, hb⟩
  have hp : 0 < (pck l).length := by unfold pck; simp [seal4]
  obtain ⟨h3, cap, rfl, hc, hc2⟩ : ∃ (h3 cap : Nat), u = .slice (some ⟨h3, 0, none⟩) (pck l).length cap ∧ (pck l).length ≤ cap ∧ cap ≤ maxLen := by
    rcases ho.2 with ⟨_, h9⟩ | ⟨g, cap, cur, e, _, _, hc, hm, _⟩
    · omega
    · exact ⟨g, cap, e, hc, hm⟩
  exact ⟨h3, cap, rfl, hc, hc2, Rd.own ho (pck_byte hv (by omega)) rfl, hb⟩
end Go.Proofs.Ytdkibffbaamkkaa.Pk
