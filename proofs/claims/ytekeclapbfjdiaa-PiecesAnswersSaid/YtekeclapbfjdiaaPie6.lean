/- pieces.Centred, Lower, Shifted of valid windows. -/
import Derived.Test.YtekeclapbfjdiaaPie5c
namespace Go.Proofs.Ytekeclapbfjdiaa.Pc
open Go.ChangeShapes Go.WideShapes Go.RowKit Wo Sr Wi Ra Nr Eu
set_option linter.unusedVariables false
theorem cen_bd {L : List Int} (hs : Sam L) (h32 : L.length ≤ 32) : ∀ x ∈ cen L, -64000 ≤ x ∧ x ≤ 64000 := by
  intro x hx
  unfold cen af at hx
  obtain ⟨y, hy, rfl⟩ := List.mem_map.1 hx
  have h1 := hs y hy
  have h2 := su_in hs
  have mb := mul_bd (A := 32) (B := 1000) (x := (L.length : Int)) (y := y) (by decide) (by decide) (by omega) (by omega) h1.1 h1.2
  rw [Int.mul_comm y]
  omega
theorem cen_len (L : List Int) : (cen L).length = L.length := by unfold cen; rw [af_len]
theorem Cen_ok (hx : Addr) (c m n : Nat) (L : List Int) (m2 : 2 ≤ m) (m32 : m ≤ 32) (n1 : 1 ≤ n) (n8 : n ≤ 8) (nm : n ≤ m) (mc : m ≤ c) (hs : Sam L) (w : World) (h1 : Zi w (some hx) m L) :
    Calls Try.prog 25 #[.slice (some hx) m c, .int .i64 (n : Int)] w fun e w' => ∃ h c, e = .returned (.tuple #[.slice (some ⟨h, 0, none⟩) n c, .int .i64 0]) ∧ n ≤ c ∧ w.heap.size ≤ h ∧ w'.ownsRow w.heap.size 3 1 (.slice (some ⟨h, 0, none⟩) n c) n (zs (pls (cen L) m n)) ∧ Bel w w' := by
  have CK : Hid (∀ W, _) := fun W => check_ok (some hx) c m n L m2 m32 n1 n8 nm hs W
  have NK : Hid (∀ W, _) := fun W => Centred_ok (some hx) c m L m2 m32 hs W
  have SK : Hid (∀ hg W, _) := fun hg W => sums_c ⟨hg, 0, none⟩ m m n (cen L) n1 n8 m32 (Nat.le_refl m) nm (cen_bd hs (by rw [h1.1]; exact m32)) W
  have HLC : Hid ((cen L).length = m) := by show _ = _; rw [cen_len, h1.1]
  have H1 := Lib.hid h1
  clear h1 hs
  go_enter Try.func25, Try.ntmps25
  go_wp2_with (go_at_call 48; refine (CK.out _ H1.out).mono ?_; rintro e w7 ⟨rfl, hb7⟩)
  have H7 := Lib.hid (H1.out.bel hb7)
  go_wp2_with (go_at_call 52; refine (NK.out _ H7.out).mono ?_; rintro e w8 ⟨g8, rfl, hg8, hk8, hb8⟩)
  have HZ8 := Lib.hid (zi_bk hk8 m HLC.out)
  go_wp2_with (go_at_call 49; refine (SK.out _ _ HZ8.out).mono ?_; rintro e w9 ⟨h9, c9, rfl, q1, q2, q3, hb9⟩)
  go_ret2
  have hbb := hb7.tr hb8
  have z := hbb.size
  exact ⟨h9, c9, rfl, q1, by omega, own_lo q3 (by omega), hbb.tr hb9⟩
/-- the sum of squares that bounds a distance -/
def bnd (m n : Nat) (P Q : List Int) : Int := tq (fun k => (P.getD k 0 - Q.getD k 0) * (P.getD k 0 - Q.getD k 0) * wq (m / n) (st m n (k + 1) - st m n k)) n
theorem pls_bd {L : List Int} {m n : Nat} (hL : ∀ x ∈ L, -64000 ≤ x ∧ x ≤ 64000) (m32 : m ≤ 32) (n1 : 1 ≤ n) : ∀ k, k < n → -2048000 ≤ (pls L m n).getD k 0 ∧ (pls L m n).getD k 0 ≤ 2048000 := fun k hk => by
  rw [pls_at _ _ _ _ hk]
  have h := pg_bd (B := 64000) hL (by omega) (st m n k) (st m n (k + 1))
  have h2 := st_le m n (k + 1) (by omega) (by omega)
  omega
theorem Lower_ok (hx hy : Addr) (cx cy m n : Nat) (X Y : List Int) (m2 : 2 ≤ m) (m32 : m ≤ 32) (n1 : 1 ≤ n) (n8 : n ≤ 8) (nm : n ≤ m) (mx : m ≤ cx) (my : m ≤ cy) (hsx : Sam X) (hsy : Sam Y) (w : World) (h1 : Zi w (some hx) m X) (h2 : Zi w (some hy) m Y) :
    Calls Try.prog 27 #[.slice (some hx) m cx, .slice (some hy) m cy, .int .i64 (n : Int)] w fun e w' => ∃ t u, e = .returned (.tuple #[.agg #[.int .i64 t, .int .i64 u], .int .i64 0]) ∧ Vl t u (bnd m n (pls X m n) (pls Y m n)) (1 * (((m / n : Nat) : Int) * (((m / n : Nat) : Int) + 1))) ∧ Bel w w' := by
  have BK : Hid (∀ W, Bel w W → _) := fun W hW => bound_sums hx hy cx cy m n (m / n) X Y (pls X m n) (pls Y m n) 1 _ m2 m32 n1 n8 nm hsx hsy (pls_len _ _ _) (pls_len _ _ _) (pls_bd (fun x h => by have := hsx x h; omega) m32 n1) (pls_bd (fun x h => by have := hsy x h; omega) m32 n1) rfl (by decide) (by decide) rfl W (h1.bel hW) (h2.bel hW)
    (fun V hV => Sums_ok hx cx m n X m2 m32 n1 n8 nm mx hsx V ((h1.bel hW).bel hV)) (fun V hV => Sums_ok hy cy m n Y m2 m32 n1 n8 nm my hsy V ((h2.bel hW).bel hV))
  clear h1 h2 hsx hsy
  go_enter Try.func27, Try.ntmps27
  have HB0 : Hid (Bel w (w.alloc (.cells #[.int .i64 0, .int .i64 0] 37))) := Bel.rf.al _
  have HR0 : Hid (Bk (w.alloc (.cells #[.int .i64 0, .int .i64 0] 37)) w.heap.size 37 #[.int .i64 0, .int .i64 0]) := Bk.nw _ _ _
  go_wp2_with (go_at_call 54; refine (BK.out _ HB0.out).mono ?_; rintro e w9 ⟨t, u, rfl, hv, hb9⟩; have B9 := HR0.out.bel hb9; have q0 := B9.cell 0; have q1 := B9.cell 1; have q2 := B9.fr 0; have q3 := B9.fr 1; have HB9 := Lib.hid B9; clear B9)
  refine bodyPost_ret (v := .tuple #[.agg #[.int .i64 t, .int .i64 u], .int .i64 0]) (results_ct Try.results27 _ _ w.heap.size (.int .i64 t) (.int .i64 u) rfl ((HB9.out.st 0 _).st 1 _)) rfl ?_
  exact ⟨t, u, rfl, hv, ((HB0.out.tr hb9).st (by show w.heap.size ≤ w.heap.size; omega) _).st (by show w.heap.size ≤ w.heap.size; omega) _⟩
theorem Shifted_ok (hx hy : Addr) (cx cy m n : Nat) (X Y : List Int) (m2 : 2 ≤ m) (m32 : m ≤ 32) (n1 : 1 ≤ n) (n8 : n ≤ 8) (nm : n ≤ m) (mx : m ≤ cx) (my : m ≤ cy) (hsx : Sam X) (hsy : Sam Y) (w : World) (h1 : Zi w (some hx) m X) (h2 : Zi w (some hy) m Y) :
    Calls Try.prog 29 #[.slice (some hx) m cx, .slice (some hy) m cy, .int .i64 (n : Int)] w fun e w' => ∃ t u, e = .returned (.tuple #[.agg #[.int .i64 t, .int .i64 u], .int .i64 0]) ∧ Vl t u (bnd m n (pls (cen X) m n) (pls (cen Y) m n)) ((m : Int) * (m : Int) * (((m / n : Nat) : Int) * (((m / n : Nat) : Int) + 1))) ∧ Bel w w' := by
  have mm : 1 ≤ (m : Int) * (m : Int) ∧ (m : Int) * (m : Int) ≤ 1024 := by
    have a : (m : Int) * (m : Int) ≤ 32 * 32 := Int.mul_le_mul (by omega) (by omega) (by omega) (by omega)
    have b : 1 * 1 ≤ (m : Int) * (m : Int) := Int.mul_le_mul (by omega) (by omega) (by omega) (by omega)
    omega
  obtain ⟨sc, hsc⟩ : ∃ s, (m : Int) * (m : Int) = s := ⟨_, rfl⟩
  rw [hsc] at mm
  rw [hsc]
  have BK : Hid (∀ W, Bel w W → _) := fun W hW => bound_cen hx hy cx cy m n (m / n) X Y (pls (cen X) m n) (pls (cen Y) m n) sc _ m2 m32 n1 n8 nm hsx hsy (pls_len _ _ _) (pls_len _ _ _) (pls_bd (cen_bd hsx (by rw [h1.1]; exact m32)) m32 n1) (pls_bd (cen_bd hsy (by rw [h2.1]; exact m32)) m32 n1) rfl mm.1 mm.2 rfl W (h1.bel hW) (h2.bel hW)
    (fun V hV => Cen_ok hx cx m n X m2 m32 n1 n8 nm mx hsx V ((h1.bel hW).bel hV)) (fun V hV => Cen_ok hy cy m n Y m2 m32 n1 n8 nm my hsy V ((h2.bel hW).bel hV))
  have wsc : IntKind.i64.wrap sc = sc := IntWalk.i64_in _ (by omega)
  clear h1 h2 hsx hsy mm
  go_enter Try.func29, Try.ntmps29
  have HB0 : Hid (Bel w (w.alloc (.cells #[.int .i64 0, .int .i64 0] 37))) := Bel.rf.al _
  have HR0 : Hid (Bk (w.alloc (.cells #[.int .i64 0, .int .i64 0] 37)) w.heap.size 37 #[.int .i64 0, .int .i64 0]) := Bk.nw _ _ _
  go_wp2_with (go_at_call 54; refine (BK.out _ HB0.out).mono ?_; rintro e w9 ⟨t, u, rfl, hv, hb9⟩; have B9 := HR0.out.bel hb9; have q0 := B9.cell 0; have q1 := B9.cell 1; have q2 := B9.fr 0; have q3 := B9.fr 1; have HB9 := Lib.hid B9; clear B9)
  refine bodyPost_ret (v := .tuple #[.agg #[.int .i64 t, .int .i64 u], .int .i64 0]) (results_ct Try.results29 _ _ w.heap.size (.int .i64 t) (.int .i64 u) rfl ((HB9.out.st 0 _).st 1 _)) rfl ?_
  exact ⟨t, u, rfl, hv, ((HB0.out.tr hb9).st (by show w.heap.size ≤ w.heap.size; omega) _).st (by show w.heap.size ≤ w.heap.size; omega) _⟩
end Go.Proofs.Ytekeclapbfjdiaa.Pc
