/- The distance of two windows by any valid measure; it is symmetric, 0 for equal windows, the same for reversed ones. -/
import Derived.Test.YtabmpnmhjdbdmaaGreatDoorMsO
import Derived.Test.YtabmpnmhjdbdmaaGreatDoorEdit3
namespace Go.Proofs.YtabmpnmhjdbdmaaGreatDoor.Ms
open Go.ChangeShapes Go.WideShapes Go.RowKit Wo Sr Wi Ra Rr
set_option linter.unusedVariables false
def md (k b g : Int) (n m : Nat) (L N : List Int) : Int × Int :=
  if k = 1 then (su sq (df L N), 1) else if k = 2 then shv L N n else if k = 3 then (rN (vr L) (vr N) (pr L N), rD (vr L) (vr N) (pr L N)) else if k = 4 then (wt L N b n m, 1) else (et L N g n m, 1)
/-- the windows suit the measure -/
def Fit (k b : Int) (n m : Nat) : Prop := (k ≤ 3 → n = m) ∧ (k = 4 → (n : Int) - (m : Int) ≤ b ∧ (m : Int) - (n : Int) ≤ b)
theorem Fit.sx {k b : Int} {n m : Nat} (h : Fit k b n m) : Fit k b m n := ⟨fun e => (h.1 e).symm, fun e => ⟨(h.2 e).2, (h.2 e).1⟩⟩
theorem Fit.one {k b g : Int} (n : Nat) (h : Mv k b g) : Fit k b n n := ⟨fun _ => rfl, fun e => by
  rcases h with ⟨h, _, _⟩ | ⟨_, h0, _, _⟩ | ⟨h, _⟩
  · omega
  · omega
  · omega⟩
theorem md_1 (b g : Int) (n m : Nat) (L N : List Int) : md 1 b g n m L N = (su sq (df L N), 1) := by unfold md; simp
theorem md_2 (b g : Int) (n m : Nat) (L N : List Int) : md 2 b g n m L N = shv L N n := by unfold md; simp
theorem md_3 (b g : Int) (n m : Nat) (L N : List Int) : md 3 b g n m L N = (rN (vr L) (vr N) (pr L N), rD (vr L) (vr N) (pr L N)) := by unfold md; simp
theorem md_4 (b g : Int) (n m : Nat) (L N : List Int) : md 4 b g n m L N = (wt L N b n m, 1) := by unfold md; simp
theorem md_5 (b g : Int) (n m : Nat) (L N : List Int) : md 5 b g n m L N = (et L N g n m, 1) := by unfold md; simp
theorem et_bd {L N : List Int} {g : Int} {n m : Nat} (g0 : -1000 ≤ g) (g1 : g ≤ 1000) (n2 : n ≤ 32) (m2 : m ≤ 32) (hs : Sam L) (ht : Sam N) : 0 ≤ et L N g n m ∧ et L N g n m ≤ 128000 := by
  have a := et_nn L N g _ n m rfl
  have b := et_hi hs ht g0 g1 _ n m rfl
  exact ⟨a, by omega⟩
theorem dist_any (k b g : Int) (h : Mv k b g) (A A' : Option Addr) (c c' n m : Nat) (L N : List Int) (hf : Fit k b n m) (n1 : 2 ≤ n) (n2 : n ≤ 32) (m1 : 2 ≤ m) (m2 : m ≤ 32) (hs : Sam L) (ht : Sam N) (w : World) (h1 : Zi w A n L) (h2 : Zi w A' m N) :
    Calls Tryz.prog 8 #[.agg #[.int .i64 k, .int .i64 b, .int .i64 g], .slice A n c, .slice A' m c'] w fun e w' => e = .returned (.tuple #[.agg #[.int .i64 (md k b g n m L N).1, .int .i64 (md k b g n m L N).2], .int .i64 0]) ∧ Bel w w' := by
  rcases h with ⟨rfl | rfl | rfl, rfl, rfl⟩ | ⟨rfl, b0, b1, rfl⟩ | ⟨rfl, rfl, g0, g1⟩
  · obtain rfl := hf.1 (by decide)
    rw [md_1]
    exact dist_euc A A' c c' n L N n1 n2 hs ht w h1 h2
  · obtain rfl := hf.1 (by decide)
    rw [md_2]
    exact dist_sh A A' c c' n L N n1 n2 hs ht w h1 h2
  · obtain rfl := hf.1 (by decide)
    rw [md_3]
    exact dist_nor A A' c c' n L N n1 n2 hs ht w h1 h2
  · have f := hf.2 rfl
    rw [md_4]
    exact dist_wp A A' c c' n m L N b n1 n2 m1 m2 b0 b1 f.1 f.2 hs ht w h1 h2
  · rw [md_5]
    have e := et_bd g0 g1 n2 m2 hs ht
    exact dist5 0 g A A' c c' n m _ _ (.inr (.inr ⟨rfl, rfl, g0, g1⟩)) w (fun W gc hW hg =>
      clos3 A A' c c' n m L N _ gc 5 0 g W hg (h1.bel hW) (h2.bel hW) (fun V hV => Ed.distance_ok A A' c c' n m L N g n1 n2 m1 m2 g0 g1 hs ht V (h1.bel (hW.tr hV)) (h2.bel (hW.tr hV))) e.1 (by omega))
theorem gN_sym (v w c : Int) : gN v w c = gN w v c := by
  unfold gN
  rw [Int.mul_comm]
  by_cases h1 : v = 0 <;> by_cases h2 : w = 0 <;> simp [h1, h2]
theorem gD_sym (v w : Int) : gD v w = gD w v := by
  unfold gD
  rw [Int.mul_comm]
  by_cases h1 : v = 0 <;> by_cases h2 : w = 0 <;> simp [h1, h2]
theorem md_sym {k b g : Int} (h : Mv k b g) {n m : Nat} {L N : List Int} (hf : Fit k b n m) (hl : L.length = n) (hm : N.length = m) : md k b g m n N L = md k b g n m L N := by
  rcases h with ⟨rfl | rfl | rfl, rfl, rfl⟩ | ⟨rfl, b0, b1, rfl⟩ | ⟨rfl, rfl, g0, g1⟩
  · rw [md_1, md_1, (df_swap L N).1]
  · obtain rfl := hf.1 (by decide)
    rw [md_2, md_2]
    unfold shv
    rw [vr_swap L N (by omega)]
  · obtain rfl := hf.1 (by decide)
    rw [md_3, md_3, pr_comm (X := N) (Y := L) (by omega)]
    unfold rN rD
    rw [gN_sym (vr N) (vr L), gD_sym (vr N) (vr L)]
  · rw [md_4, md_4, wt_sym N L b _ m n rfl]
  · rw [md_5, md_5, et_sym N L g _ m n rfl]
theorem df_rev (L N : List Int) (h : L.length = N.length) : df L.reverse N.reverse = (df L N).reverse := by
  unfold df
  rw [List.reverse_zipWith h]
theorem md_rev {k b g : Int} (h : Mv k b g) {n : Nat} {L N : List Int} (n1 : 2 ≤ n) (n2 : n ≤ 32) (hl : L.length = n) (hm : N.length = n) (hs : Sam L) (ht : Sam N) : md k b g n n L.reverse N.reverse = md k b g n n L N := by
  have e : L.length = N.length := by omega
  rcases h with ⟨rfl | rfl | rfl, rfl, rfl⟩ | ⟨rfl, b0, b1, rfl⟩ | ⟨rfl, rfl, g0, g1⟩
  · rw [md_1, md_1, df_rev L N e, su_rev]
  · rw [md_2, md_2]
    unfold shv
    rw [df_rev L N e, vr_rev]
  · rw [md_3, md_3, vr_rev, vr_rev, pr_rev _ _ e]
  · rw [md_4, md_4, wt_rev hs ht b0 hl hm (by omega) (by omega)]
  · have r := et_rev L N g
    rw [hl, hm] at r
    rw [md_5, md_5, r]
theorem md_rv {k b g : Int} (h : Mv k b g) {n m : Nat} {L N : List Int} (hf : Fit k b n m) (n1 : 2 ≤ n) (n2 : n ≤ 32) (m1 : 2 ≤ m) (m2 : m ≤ 32) (hl : L.length = n) (hm : N.length = m) (hs : Sam L) (ht : Sam N) : RV (md k b g n m L N).1 (md k b g n m L N).2 := by
  rcases h with ⟨rfl | rfl | rfl, rfl, rfl⟩ | ⟨rfl, b0, b1, rfl⟩ | ⟨rfl, rfl, g0, g1⟩
  · obtain rfl := hf.1 (by decide)
    rw [md_1]
    have e := eu_bd n2 hl hm hs ht
    exact one_rv e.1 (by omega)
  · obtain rfl := hf.1 (by decide)
    rw [md_2]
    exact (sh_facts n1 n2 hl hm hs ht).1
  · obtain rfl := hf.1 (by decide)
    rw [md_3]
    exact (red_in (vr_le hs (by omega)).1 (vr_le ht (by omega)).1 (vr_le hs (by omega)).2 (vr_le ht (by omega)).2 (pr_cs (by omega))).1
  · rw [md_4]
    have f := hf.2 rfl
    obtain ⟨i, hi⟩ : ∃ i, n = i + 1 := ⟨n - 1, by omega⟩
    obtain ⟨j, hj⟩ : ∃ i, m = i + 1 := ⟨m - 1, by omega⟩
    have w := wt_fin hs ht b0 (i + j) i j rfl ⟨by omega, by omega⟩
    rw [← hi, ← hj] at w
    exact one_rv w.1 (by omega)
  · rw [md_5]
    have e := et_bd g0 g1 n2 m2 hs ht
    exact one_rv e.1 (by omega)
theorem df_self (L : List Int) : su sq (df L L) = 0 := (df_zero L L rfl).2 rfl
theorem su_ix_self : ∀ L : List Int, su ix (df L L) = 0
  | [] => rfl
  | x :: L => by
    show ix (x - x) + su ix (df L L) = 0
    rw [su_ix_self L]
    unfold ix
    omega
theorem md_self {k b g : Int} (h : Mv k b g) {n : Nat} {L : List Int} (n1 : 2 ≤ n) (n2 : n ≤ 32) (hl : L.length = n) (hs : Sam L) : md k b g n n L L = (0, 1) := by
  have g0n : ∀ d : Int, 1 ≤ d → gd 0 d = d := fun d hd => by rw [gd_comm]; exact gd_zero (by omega)
  rcases h with ⟨rfl | rfl | rfl, rfl, rfl⟩ | ⟨rfl, b0, b1, rfl⟩ | ⟨rfl, rfl, g0, g1⟩
  · rw [md_1, df_self]
  · rw [md_2]
    unfold shv
    have v : vr (df L L) = 0 := by
      unfold vr
      rw [df_self, su_ix_self]
      simp
    rw [v, g0n _ (by omega), Int.ediv_self (by omega)]
    simp
  · rw [md_3, pr_self]
    have v := vr_le hs (by omega)
    have hN : gN (vr L) (vr L) (vr L) = 0 := by
      unfold gN sg
      by_cases hv : vr L = 0
      · rw [if_pos hv, if_pos hv]
      · rw [if_neg hv, if_neg hv, if_neg (by omega)]
        omega
    have hD := (gap_in v.1 v.1 v.2 v.2 (c := vr L) (Int.le_refl _)).2.2.1
    unfold rN rD
    rw [hN, g0n _ hD, Int.ediv_self (by omega)]
    simp
  · rw [md_4]
    have z : wt L L 0 n n = 0 := by
      rw [wt_zero hs hs rfl n (by omega) (by omega), List.take_of_length_le (by rw [df_len rfl]; omega), df_self]
    have mo := wt_mono (b := 0) (c := b) hs hs (by omega) b0 (i := n - 1) (j := n - 1) (by omega) (by omega) ⟨by omega, by omega⟩
    rw [show n - 1 + 1 = n by omega, z] at mo
    have nn := wt_nn (b := b) hs hs n n
    have : wt L L b n n = 0 := by omega
    rw [this]
  · rw [md_5, et_zero]
end Go.Proofs.YtabmpnmhjdbdmaaGreatDoor.Ms
