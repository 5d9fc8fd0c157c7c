/- UnitAnswers: the blocks that the law makes, kept. -/
import Derived.Test.YtgclojonjglikaaDoorUaM
import Derived.Deep.RegionHeld3
import Derived.BigRegion
namespace Go.Proofs.YtgclojonjglikaaDoor.Un
open Go.ChangeShapes Go.WideShapes Go.RowKit Wo Rd1
set_option linter.unusedVariables false
structure Wd (w : World) (G : Nat) (ax ap x p : Int) (un s : ByteArray) (um ua ud m a d : Int) (V : World) : Prop where
  bx : Bk V w.heap.size 23 #[.int .i64 ax, .int .i64 ap]
  bu : Bk V (w.heap.size + 1) 25 #[.string un, .int .i64 um, .int .i64 ua, .int .i64 ud]
  b1 : Bk V G 23 #[.int .i64 x, .int .i64 p]
  b2 : Bk V (G + 1) 25 #[.string s, .int .i64 m, .int .i64 a, .int .i64 d]
  b3 : Bk V (G + 2) 25 #[.string un, .int .i64 m, .int .i64 a, .int .i64 ud]
  be : Bel w V
theorem Wd.bel {w : World} {G : Nat} {ax ap x p : Int} {un s : ByteArray} {um ua ud m a d : Int} {V V' : World} (h : Wd w G ax ap x p un s um ua ud m a d V) (hb : Bel V V') : Wd w G ax ap x p un s um ua ud m a d V' :=
  ⟨h.bx.bel hb, h.bu.bel hb, h.b1.bel hb, h.b2.bel hb, h.b3.bel hb, h.be.tr hb⟩
/-- the texts that the law reads -/
def txs (t T : ByteArray) : List ByteArray := [t, T, ⟨#[45]⟩ ++ T, T ++ ⟨#[48]⟩, T ++ ⟨#[46, 53]⟩, ⟨#[48]⟩ ++ T]
theorem txs_sz {t T : ByteArray} (h1 : t.size ≤ 60) (h2 : T.size ≤ 21) : ∀ k, k < 6 → ((txs t T).getD k ⟨#[]⟩).size ≤ 900 := by
  intro k hk
  rcases (by omega : k = 0 ∨ k = 1 ∨ k = 2 ∨ k = 3 ∨ k = 4 ∨ k = 5) with rfl | rfl | rfl | rfl | rfl | rfl
  · show t.size ≤ 900; omega
  · show T.size ≤ 900; omega
  · show (⟨#[45]⟩ ++ T).size ≤ 900; rw [ByteArray.size_append]; show 1 + T.size ≤ 900; omega
  · show (T ++ ⟨#[48]⟩).size ≤ 900; rw [ByteArray.size_append]; show T.size + 1 ≤ 900; omega
  · show (T ++ ⟨#[46, 53]⟩).size ≤ 900; rw [ByteArray.size_append]; show T.size + 2 ≤ 900; omega
  · show (⟨#[48]⟩ ++ T).size ≤ 900; rw [ByteArray.size_append]; show 1 + T.size ≤ 900; omega
end Go.Proofs.YtgclojonjglikaaDoor.Un
