/- murmur.Restore. -/
import Derived.Test.YtjabhnhejbhgjaaGreatDoorSourceWalk
namespace Go.Proofs.YtjabhnhejbhgjaaGreatDoor
open Go.RowKit

/-- What Restore leaves: the list's block S, the symbols' blocks from base on. -/
structure Restored (w w' : World) (S base m n : Nat) (X : List Gf.F) (rs : List Row) : Prop where
  list : w'.heap[S]? = some (.cells (srcCells base m n n) 33 (0, 0))
  syms : ∀ i, i < n → Blk w' (base + i) (symOf X rs (BitVec.ofNat 8 i) m)
  old : w.heap.size ≤ S
  apart : S < base
  size : w'.heap.size = base + n
  below : Below w.heap.size w w'

end Go.Proofs.YtjabhnhejbhgjaaGreatDoor
