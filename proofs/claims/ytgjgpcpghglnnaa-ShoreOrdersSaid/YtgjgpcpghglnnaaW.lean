/-
  slices.Reverse and slices.Sort of integers: the shelf's contracts at this program.
-/
import Derived.Shelf.Slices.Reverse
import Derived.Shelf.Sort.Plain
import Derived.Shelf.Slices.In.SortNone
import Derived.Shelf.Lay
import Derived.Ground.NamesProg
import Derived.Test.YtgjgpcpghglnnaaD
namespace Go.Proofs
open Go.Shelf Go.RowKit
shelf_lay Lays.n112 Nm 112 at Try as Try.lays112
shelf_lay Lays.n189 Nm 189 at Try as Try.lays189
end Go.Proofs
