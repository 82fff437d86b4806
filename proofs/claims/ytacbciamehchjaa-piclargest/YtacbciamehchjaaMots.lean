
/- motions of layer 1: a contract. -/
import Derived.Test.YtacbciamehchjaaMot
import Derived.RegionTactic
import Derived.Laws.ResultCell
import Derived.Laws.EntriesVeiled
namespace Go.Proofs.Ytacbciamehchjaa
open Go.RowKit

theorem alloc_cell' (V : World) (cs : Array Value) (t : TypeId) (B k : Nat) {v : Value} (hB : B = V.heap.size) (h : cs[k]? = some v) : (V.alloc (.cells cs t)).cell? ⟨B, k, none⟩ = some v := by
  subst hB; exact alloc_cell _ _ _ _ _ h
end Go.Proofs.Ytacbciamehchjaa
