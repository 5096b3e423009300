import Derived.Test.YtnahejljelbbgaaCp
/- The law CodeApart. -/
namespace Go.Proofs.Ytnahejljelbbgaa
open Go.RowKit Go.Lib

/-- What comes in: a row of values. -/
structure Inp (w : World) (A : Option Addr) (n : Nat) (l : List Vl) : Prop where
  len : n ≤ maxLen
  vals : Vals w w.heap.size A n l
  short : Short l
  i64 : I64 l

end Go.Proofs.Ytnahejljelbbgaa
