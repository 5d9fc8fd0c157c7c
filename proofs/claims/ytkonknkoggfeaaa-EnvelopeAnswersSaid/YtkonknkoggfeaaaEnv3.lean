/- The contract of envelope.Pieces over valid windows. -/
import Derived.Test.YtkonknkoggfeaaaEnv2
import Derived.Test.YtkonknkoggfeaaaPieSume
namespace Go.Proofs.Ytkonknkoggfeaaa.Ev
open Go.ChangeShapes Go.WideShapes Go.RowKit Wo Sr Wi Eu Pc Ra
set_option linter.unusedVariables false
theorem sts_at (m n k : Nat) (hn : 0 < n) (hk : k ≤ n) : (sts m n).getD k 0 = (st m n k : Int) := by
  unfold sts
  rcases Nat.lt_or_ge k n with h | h
  · rw [List.getD_eq_getElem?_getD, List.getElem?_append_left (by simp; exact h)]; simp [h]
  · obtain rfl : k = n := by omega
    rw [List.getD_eq_getElem?_getD, List.getElem?_append_right (by simp)]; simp [st_all m k hn]
/-- the first k of one row, then another one -/
def mxl (P S : List Int) (k : Nat) : List Int := P.take k ++ S.drop k
theorem mxl_len (P S : List Int) (k : Nat) (h : P.length = S.length) : (mxl P S k).length = S.length := by simp [mxl, h]; omega
theorem mxl_at (P S : List Int) (k : Nat) (h : P.length = S.length) (hk : k < S.length) : (mxl P S k).getD k 0 = S.getD k 0 := by
  simp only [mxl, List.getD_eq_getElem?_getD]
  rw [List.getElem?_append_right (by simp; omega)]
  simp [List.length_take, Nat.min_eq_left (show k ≤ P.length by omega)]
theorem mxl_set (P S : List Int) (k : Nat) (h : P.length = S.length) (hk : k < S.length) : (mxl P S k).set k (P.getD k 0) = mxl P S (k + 1) := by
  unfold mxl
  have e : S.drop k = S.getD k 0 :: S.drop (k + 1) := by
    rw [List.drop_eq_getElem_cons hk, List.getD_eq_getElem?_getD, List.getElem?_eq_getElem hk]; rfl
  rw [e, List.set_append_right _ _ (by simp; omega)]
  have e2 : k - (P.take k).length = 0 := by simp; omega
  rw [e2, List.set_cons_zero, take_snoc P k (by omega), List.append_assoc]
  rfl
theorem mxl_all (P S : List Int) (h : P.length = S.length) : mxl P S S.length = P := by
  unfold mxl
  rw [List.drop_length, List.append_nil, List.take_of_length_le (by omega)]
theorem pls_in {X : List Int} {m n : Nat} (hs : Sam X) (m32 : m ≤ 32) (n1 : 1 ≤ n) (k : Nat) (hk : k < n) : -32000 ≤ (pls X m n).getD k 0 ∧ (pls X m n).getD k 0 ≤ 32000 := by
  rw [pls_at _ _ _ _ hk]
  have h := pg_bd (B := 1000) hs (by omega) (st m n k) (st m n (k + 1))
  have h2 := st_le m n (k + 1) (by omega) (by omega)
  omega
theorem pp_in {Y U L : List Int} {m n : Nat} (hY : Sam Y) (hU : Sam U) (hL : Sam L) (m32 : m ≤ 32) (n1 : 1 ≤ n) (k : Nat) (hk : k < n) : 0 ≤ (pp Y U L m n).getD k 0 ∧ (pp Y U L m n).getD k 0 ≤ 64000 := by
  rw [pp_at _ _ _ _ _ _ hk]
  have a := pls_in hY m32 n1 k hk
  have b := pls_in hU m32 n1 k hk
  have c := pls_in hL m32 n1 k hk
  unfold ps
  omega
set_option maxHeartbeats 2000000 in
set_option maxRecDepth 100000 in
theorem pieces_ok (hx hy : Addr) (c c' n m p : Nat) (L M : List Int) (b : Int) (n1 : 2 ≤ n) (n2 : n ≤ 32) (m1 : 2 ≤ m) (m2 : m ≤ 32) (b0 : 0 ≤ b) (b32 : b ≤ 32) (bn : (n : Int) - (m : Int) ≤ b) (bm : (m : Int) - (n : Int) ≤ b) (p1 : 1 ≤ p) (p8 : p ≤ 8) (pm : p ≤ m) (mc : m ≤ c') (hs : Sam L) (ht : Sam M) (w : World) (h1 : Zi w (some hx) n L) (h2 : Zi w (some hy) m M) :
    Calls Try.prog 17 #[.slice (some hx) n c, .slice (some hy) m c', .int .i64 b, .int .i64 (p : Int)] w fun e w' => ∃ U Lo t u, e = .returned (.tuple #[.agg #[.int .i64 t, .int .i64 u], .int .i64 0]) ∧ Env L b m U Lo ∧ Vl t u (tq (fun k => (pp M U Lo m p).getD k 0 * (pp M U Lo m p).getD k 0 * wq (m / p) (st m p (k + 1) - st m p k)) p) (cq m p) ∧ Bel w w' := by
  have HLM : Hid (L.length = n ∧ M.length = m) := ⟨h1.1, h2.1⟩
  have WK : Hid (∀ W, Bel w W → _) := fun W hW => warped_ok (some hx) (some hy) c c' n m L M b n1 n2 m1 m2 b0 b32 bn bm hs ht W (h1.bel hW) (h2.bel hW)
  have TK : Hid (∀ W, _) := fun W => Starts_ok m p m1 m2 p1 p8 pm W
  have EK : Hid (∀ W, Bel w W → _) := fun W hW => envelope_ok hx c n m L b (by omega) n2 (by omega) m2 b0 b32 bm hs W (h1.bel hW)
  have SK : Hid (∀ W, Bel w W → _) := fun W hW => Sums_ok hy c' m p M m1 m2 p1 p8 pm mc ht W (h2.bel hW)
  have SG : Hid (∀ W g X, Sam X → Zi W (some ⟨g, 0, none⟩) m X → _) := fun W g X sX hz => Sums_ok ⟨g, 0, none⟩ m m p X m1 m2 p1 p8 pm (Nat.le_refl m) sX W hz
  have im1 : 2 ≤ (m : Int) := by omega
  have im2 : (m : Int) ≤ 32 := by omega
  have ip1 : 1 ≤ (p : Int) := by omega
  have ip2 : (p : Int) ≤ 8 := by omega
  clear h1 h2
  go_enter Try.func17, Try.ntmps17
  have HB0 : Hid (Bel w (w.alloc (.cells #[.int .i64 0, .int .i64 0] 39))) := Bel.rf.al _
  have HR0 : Hid (Bk (w.alloc (.cells #[.int .i64 0, .int .i64 0] 39)) w.heap.size 39 #[.int .i64 0, .int .i64 0]) := Bk.nw _ _ _
  go_wp2_with fail
  go_at_call 28
  refine (WK.out _ HB0.out).mono ?_
  rintro e w1 ⟨rfl, hb⟩
  have HB1 := Lib.hid (HB0.out.tr hb)
  have HR1 := Lib.hid (HR0.out.bel hb)
  clear hb
  go_wp2_with fail
  go_at_call 32
  refine (TK.out _).mono ?_
  rintro e w2 ⟨ha, ca, rfl, _, _, z, hb⟩
  have HB2 := Lib.hid (HB1.out.tr hb)
  have HR2 := Lib.hid (HR1.out.bel hb)
  have ZA := Lib.hid (own_zi z (sts_len m p))
  clear hb z
  go_wp2_with fail
  go_at_call 25
  refine (EK.out _ HB2.out).mono ?_
  rintro e w3 ⟨gu, gl, U, Lo, rfl, he, hu, hl, hb⟩
  have HB3 := Lib.hid (HB2.out.tr hb)
  have HR3 := Lib.hid (HR2.out.bel hb)
  have ZA3 := Lib.hid (ZA.out.bel hb)
  have HE := Lib.hid (And.intro he (And.intro hu hl))
  have HSU := Lib.hid (he.sam hs)
  clear hb he hu hl ZA
  go_wp2_with fail
  go_at_call 33
  refine (SK.out _ HB3.out).mono ?_
  rintro e w4 ⟨hm, cm, rfl, hcm, hm0, z, hb⟩
  have HB4 := Lib.hid (HB3.out.tr hb)
  have HR4 := Lib.hid (HR3.out.bel hb)
  have ZA4 := Lib.hid (ZA3.out.bel hb)
  have HU4 := Lib.hid (HE.out.2.1.bel hb)
  have HL4 := Lib.hid (HE.out.2.2.bel hb)
  have HOS := Lib.hid z
  have hmlt := (z.lt hm rfl).2
  have hm3 := HB3.out.size
  have hr3 := HR3.out.lt
  have ha3 : Hid (∀ ad, some (⟨ha, 0, none⟩ : Addr) = some ad → ad.block ≠ hm) := fun ad e => by
    cases e
    obtain ⟨ad, e, hlt, _⟩ := ZA3.out.2 (by omega)
    cases e
    show ha ≠ hm
    have : ha < w3.heap.size := hlt
    omega
  clear hb z ZA3
  go_wp2_with fail
  go_at_call 33
  refine (SG.out _ gu U HSU.out.1 HU4.out).mono ?_
  rintro e w5 ⟨h5, c5, rfl, _, h50, z, hb⟩
  have HB5 := Lib.hid (HB4.out.tr hb)
  have HR5 := Lib.hid (HR4.out.bel hb)
  have ZA5 := Lib.hid (ZA4.out.bel hb)
  have HL5 := Lib.hid (HL4.out.bel hb)
  have HOS5 := Lib.hid (own_bel HOS.out hb)
  have Z5 := Lib.hid (own_zi z (pls_len U m p))
  have h5m : h5 ≠ hm := by omega
  have hw5 := hb.size
  clear hb z ZA4 HOS
  go_wp2_with fail
  go_at_call 33
  refine (SG.out _ gl Lo HSU.out.2 HL5.out).mono ?_
  rintro e w6 ⟨h6, c6, rfl, _, h60, z, hb⟩
  have HB6 := Lib.hid (HB5.out.tr hb)
  have HR6 := Lib.hid (HR5.out.bel hb)
  have ZA6 := Lib.hid (ZA5.out.bel hb)
  have HOS6 := Lib.hid (own_bel HOS5.out hb)
  have Z56 := Lib.hid (Z5.out.bel hb)
  have Z6 := Lib.hid (own_zi z (pls_len Lo m p))
  have h6m : h6 ≠ hm := by omega
  clear hb z ZA5 HOS5 Z5
  have HR7 : Hid (∃ (k : Nat) (V : World), V = w6 ∧ k ≤ p ∧ (Value.int .i64 0) = .int .i64 (k : Int) ∧ w6.ownsRow w3.heap.size 3 1 (.slice (some ⟨hm, 0, none⟩) p cm) p (zs (mxl (pp M U Lo m p) (pls M m p) k)) ∧ Ch hm w6 w6) := ⟨0, _, rfl, by omega, rfl, by simpa [mxl] using HOS6.out, Ch.rf⟩
  have HPL : Hid ((pp M U Lo m p).length = (pls M m p).length ∧ (pls M m p).length = p) := ⟨by rw [pp_len, pls_len], pls_len _ _ _⟩
  clear HOS6
  go_wp2
  go_loopw [70] (fun s70 wr => ∃ (k : Nat) (V : World), V = wr ∧ k ≤ p ∧ s70 = .int .i64 (k : Int) ∧ wr.ownsRow w3.heap.size 3 1 (.slice (some ⟨hm, 0, none⟩) p cm) p (zs (mxl (pp M U Lo m p) (pls M m p) k)) ∧ Ch hm w6 wr) (fun s70 _ => p - (intOf s70).toNat)
  case atStart => exact HR7.out
  case round =>
    clear HR7
    obtain ⟨k, wr, hwr, hk, rfl, hos, hch⟩ := hrel
    subst hwr
    have HOS := Lib.hid hos
    have HCH := Lib.hid hch
    rcases Nat.lt_or_ge k p with hlt | hge
    · have c1 := (own_zi hos (by rw [mxl_len _ _ _ HPL.out.1, HPL.out.2])).at k hlt
      rw [mxl_at _ _ _ HPL.out.1 (by rw [HPL.out.2]; exact hlt)] at c1
      have c2 := (Z56.out.ch hch (fun ad e => by cases e; exact h5m)).at k hlt
      have c3 := (Z6.out.ch hch (fun ad e => by cases e; exact h6m)).at k hlt
      have f1 := own_fr hos k
      have bs := pls_in ht m2 p1 k hlt
      have bu := pls_in HSU.out.1 m2 p1 k hlt
      have bl := pls_in HSU.out.2 m2 p1 k hlt
      have hpp := pp_at M U Lo m p k hlt
      obtain ⟨s, hs1⟩ : ∃ s, (pls M m p).getD k 0 = s := ⟨_, rfl⟩
      obtain ⟨u, hu1⟩ : ∃ s, (pls U m p).getD k 0 = s := ⟨_, rfl⟩
      obtain ⟨l, hl1⟩ : ∃ s, (pls Lo m p).getD k 0 = s := ⟨_, rfl⟩
      rw [hs1] at c1 bs hpp
      rw [hu1] at c2 bu hpp
      rw [hl1] at c3 bl hpp
      have PK : Hid (∀ W, _) := fun W => passes_ok s l u (by omega) (by omega) (by omega) W
      obtain ⟨d, hd⟩ : ∃ d, ps s l u = d := ⟨_, rfl⟩
      rw [hd] at hpp PK
      have HNX : Hid ((wr.setCell ⟨hm, k, none⟩ (.int .i64 d)).ownsRow w3.heap.size 3 1 (.slice (some ⟨hm, 0, none⟩) p cm) p (zs (mxl (pp M U Lo m p) (pls M m p) (k + 1)))) := by
        have := own_set (t := k) hos d
        rwa [← hpp, mxl_set _ _ _ HPL.out.1 (by rw [HPL.out.2]; exact hlt), hpp] at this
      have HNC : Hid (Ch hm w6 (wr.setCell ⟨hm, k, none⟩ (.int .i64 d))) := hch.st k _
      have ki : (k : Int) < (p : Int) := by omega
      clear hos hch hs1 hu1 hl1 hpp hd bs bu bl
      go_wp2
      go_region_with (go_at_call 34; refine (PK.out _).mono ?_; rintro e w' ⟨rfl, rfl⟩)
      all_goals
        go_wp2
        go_roundw
        case rel => exact ⟨k + 1, _, rfl, by omega, by go_num, by first | exact HNX.out | exact own_bel HNX.out Bel.rf.drw | exact own_bel HNX.out (Bel.rf.drwN _), by first | exact HNC.out | exact HNC.out.drw | exact HNC.out.drwN _⟩
        case measure => simp [intOf]; omega
    · obtain rfl : k = p := by omega
      rw [show mxl (pp M U Lo m k) (pls M m k) k = pp M U Lo m k by have := mxl_all _ _ HPL.out.1; rwa [HPL.out.2] at this] at hos
      have zd := own_zi hos (pp_len M U Lo m k)
      have za := ZA6.out.ch hch ha3.out
      have hl1 : 1 ≤ m / k := Nat.div_pos pm p1
      have hl32 : m / k ≤ 32 := Nat.le_trans (Nat.div_le_self m k) m2
      have QK := Lib.hid (sum_ok hm ha cm ca k (m / k) (pp M U Lo m k) (sts m k) (st m k) 1 (cq m k) p8 hl1 hl32 (fun i hi => st_step m k i p1) (fun i hi => ⟨sts_at m k i p1 hi, Nat.le_trans (st_le m k i p1 hi) m2⟩) (fun i hi => by have := pp_in ht HSU.out.1 HSU.out.2 m2 p1 i hi; omega) (by decide) (by decide) (by unfold cq; omega) wr zd za)
      have BW := Lib.hid (Bel.ch HB6.out hch (by omega))
      have RW := Lib.hid (hch.bk HR6.out (show w.heap.size ≠ hm by have := HB3.out.size; omega))
      clear hos hch zd za
      go_wp2_with (go_at_call 35; refine QK.out.mono ?_; rintro e w9 ⟨t, u, rfl, hv, hb9⟩; have B9 := RW.out.bel hb9; have q0 := B9.cell 0; have q1 := B9.cell 1; have q2 := B9.fr 0; have q3 := B9.fr 1; have HB9 := Lib.hid B9; clear B9)
      refine bodyPost_ret (v := .tuple #[.agg #[.int .i64 t, .int .i64 u], .int .i64 0]) (results_ct Try.results17 _ _ w.heap.size (.int .i64 t) (.int .i64 u) rfl ((HB9.out.st 0 _).st 1 _)) rfl ?_
      exact ⟨U, Lo, t, u, rfl, HE.out.1, hv, ((BW.out.tr hb9).st (by show w.heap.size ≤ w.heap.size; omega) _).st (by show w.heap.size ≤ w.heap.size; omega) _⟩
end Go.Proofs.Ytkonknkoggfeaaa.Ev
