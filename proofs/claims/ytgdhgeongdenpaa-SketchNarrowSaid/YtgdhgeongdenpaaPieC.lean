/- pieces.Centred of valid windows; bounds of the sums of pieces. -/
import Derived.Test.YtgdhgeongdenpaaPie4
namespace Go.Proofs.Ytgdhgeongdenpaa.Pc
open Go.ChangeShapes Go.WideShapes Go.RowKit Wo Sr Wi Ra Nr Eu
set_option linter.unusedVariables false
theorem cen_bd {L : List Int} (hs : Sam L) (h32 : L.length ≤ 32) : ∀ x ∈ cen L, -64000 ≤ x ∧ x ≤ 64000 := by
  intro x hx
  unfold cen af at hx
  obtain ⟨y, hy, rfl⟩ := List.mem_map.1 hx
  have h1 := hs y hy
  have h2 := su_in hs
  have mb := mul_bd (A := 32) (B := 1000) (x := (L.length : Int)) (y := y) (by decide) (by decide) (by omega) (by omega) h1.1 h1.2
  rw [Int.mul_comm y]
  omega
theorem cen_len (L : List Int) : (cen L).length = L.length := by unfold cen; rw [af_len]
theorem Cen_ok (hx c m n : Nat) (L : List Int) (m2 : 2 ≤ m) (m32 : m ≤ 32) (n1 : 1 ≤ n) (n8 : n ≤ 8) (nm : n ≤ m) (mc : m ≤ c) (hs : Sam L) (w : World) (h1 : Zi w (some ⟨hx, 0, none⟩) m L) :
    Calls Try.prog 48 #[.slice (some ⟨hx, 0, none⟩) m c, .int .i64 (n : Int)] w fun e w' => ∃ h c, e = .returned (.tuple #[.slice (some ⟨h, 0, none⟩) n c, .int .i64 0]) ∧ n ≤ c ∧ w.heap.size ≤ h ∧ w'.ownsRow w.heap.size 3 1 (.slice (some ⟨h, 0, none⟩) n c) n (zs (pls (cen L) m n)) ∧ Bel w w' := by
  have CK : Hid (∀ W, _) := fun W => check_ok (some ⟨hx, 0, none⟩) c m n L m2 m32 n1 n8 nm hs W
  have NK : Hid (∀ W, _) := fun W => Centred_ok (some ⟨hx, 0, none⟩) c m L m2 m32 hs W
  have SK : Hid (∀ hg W, _) := fun hg W => sums_c hg m m n (cen L) n1 n8 m32 (Nat.le_refl m) nm (cen_bd hs (by rw [h1.1]; exact m32)) W
  have HLC : Hid ((cen L).length = m) := by show _ = _; rw [cen_len, h1.1]
  have H1 := Lib.hid h1
  clear h1 hs
  go_enter Try.func48, Try.ntmps48
  go_wp2_with (go_at_call 89; refine (CK.out _ H1.out).mono ?_; rintro e w7 ⟨rfl, hb7⟩)
  have H7 := Lib.hid (H1.out.bel hb7)
  go_wp2_with (go_at_call 91; refine (NK.out _ H7.out).mono ?_; rintro e w8 ⟨g8, rfl, hg8, hk8, hb8⟩)
  have HZ8 := Lib.hid (zi_bk hk8 m HLC.out)
  go_wp2_with (go_at_call 90; refine (SK.out _ _ HZ8.out).mono ?_; rintro e w9 ⟨h9, c9, rfl, q1, q2, q3, hb9⟩)
  go_ret2
  have hbb := hb7.tr hb8
  have z := hbb.size
  exact ⟨h9, c9, rfl, q1, by omega, own_lo q3 (by omega), hbb.tr hb9⟩
theorem pls_bd {L : List Int} {m n : Nat} (hL : ∀ x ∈ L, -64000 ≤ x ∧ x ≤ 64000) (m32 : m ≤ 32) (n1 : 1 ≤ n) : ∀ k, k < n → -2048000 ≤ (pls L m n).getD k 0 ∧ (pls L m n).getD k 0 ≤ 2048000 := fun k hk => by
  rw [pls_at _ _ _ _ hk]
  have h := pg_bd (B := 64000) hL (by omega) (st m n k) (st m n (k + 1))
  have h2 := st_le m n (k + 1) (by omega) (by omega)
  omega
end Go.Proofs.Ytgdhgeongdenpaa.Pc
