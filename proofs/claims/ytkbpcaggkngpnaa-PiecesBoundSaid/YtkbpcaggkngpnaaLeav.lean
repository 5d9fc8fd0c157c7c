/- From the contract of a lone run to the row that says 'leaving'. -/
import Derived.Conc.Holds
import Derived.Handed
namespace Go.Proofs.Ytkbpcaggkngpnaa.Lv
open Go
theorem done_of {m : Machine} (h : m.othersDone = true) : ∀ g ∈ m.gs.toList.drop 1, g.status = .finished := by
  intro g hg
  unfold Machine.othersDone at h
  have h2 := List.all_eq_true.1 h g hg
  revert h2
  cases g.status <;> simp
theorem leaving_of_handed {a : Assume} {C : Checked} {os : Os} {f : FuncId} {r : Reach} {Pre : World → Array Value → Prop} {Post : World → Array Value → Value → World → Prop}
    (h : ReturnsInHanded a C os f r Pre Post) : ReturnsInLeavingWide a C os f r Pre Post := fun enter => by
  obtain ⟨h1, own, started, wit, hh⟩ := h enter
  refine ⟨h1, own, started, wit, fun w tape i hi => ?_⟩
  obtain ⟨n, v, w', k1, k2, k3, k4, ⟨j, last, k5, k6, q, ho, he⟩, k7⟩ := hh w tape i hi
  exact ⟨n, v, w', k1, k2, k3, k4, ⟨j, last, k5, k6, ho, ⟨fun g hg => ⟨0, done_of q.1 g hg⟩, q.2⟩, he⟩, k7⟩
end Go.Proofs.Ytkbpcaggkngpnaa.Lv
