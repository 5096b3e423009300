import Derived.Test.YtljcdebaoceimaaDoorVw
/- What the walks of ValueOrders ask of the contracts. -/
namespace Go.Proofs.YtljcdebaoceimaaDoor
open Go.RowKit Go.Lib

theorem order_is (k i : Int) (s : ByteArray) (k' i' : Int) (s' : ByteArray) (w : World) (v : Int) (h : ordN k i s k' i' s' = v) :
    Calls Tryd.prog 29 #[.agg #[.int .i64 k, .int .i64 i, .string s], .agg #[.int .i64 k', .int .i64 i', .string s']] w fun e w' => e = .returned (.int .i64 v) ∧ Below w.heap.size w w' := h ▸ order_any k i s k' i' s' w
theorem few_is (k i : Int) (s S : ByteArray) (w : World) (hs : s.size ≤ maxLen) (h : fewS s = S) :
    Calls Tryd.prog 13 #[.agg #[.int .i64 k, .int .i64 i, .string s]] w fun e w' => e = .returned (.agg #[.int .i64 k, .int .i64 i, .string S]) ∧ Below w.heap.size w w' := h ▸ few_any k i s w hs
theorem equal_is (k i : Int) (s : ByteArray) (k' i' : Int) (s' : ByteArray) (w : World) (ha : alikeB k i s k' i' s' = true) (v : Int) (h : b2i (ordN k i s k' i' s' == 0) = v) :
    Calls Tryd.prog 21 #[.agg #[.int .i64 k, .int .i64 i, .string s], .agg #[.int .i64 k', .int .i64 i', .string s']] w fun e w' => e = .returned (.agg #[.int .i64 3, .int .i64 v, .string ⟨#[]⟩]) ∧ Below w.heap.size w w' := h ▸ equal_yes k i s k' i' s' w ha
theorem less_is (k i : Int) (s : ByteArray) (k' i' : Int) (s' : ByteArray) (w : World) (ha : alikeB k i s k' i' s' = true) (v : Int) (h : b2i (decide (ordN k i s k' i' s' < 0)) = v) :
    Calls Tryd.prog 23 #[.agg #[.int .i64 k, .int .i64 i, .string s], .agg #[.int .i64 k', .int .i64 i', .string s']] w fun e w' => e = .returned (.agg #[.int .i64 3, .int .i64 v, .string ⟨#[]⟩]) ∧ Below w.heap.size w w' := h ▸ less_yes k i s k' i' s' w ha
theorem may_is (k i : Int) (s : ByteArray) (w : World) (v : Bool) (h : mayB k i s = v) :
    Calls Tryd.prog 31 #[.agg #[.int .i64 k, .int .i64 i, .string s]] w fun e w' => e = .returned (.bool v) ∧ Below w.heap.size w w' := h ▸ may_any k i s w

end Go.Proofs.YtljcdebaoceimaaDoor
