import Derived.Deep.Cut
import Derived.Lib.Bytealg
import Derived.Test.YtnahejljelbbgaaGreatDoorVb
import Derived.Test.YtnahejljelbbgaaGreatDoorVc
/- Order, Equal, Less, Plus, Minus, IsNull. -/
namespace Go.Proofs.YtnahejljelbbgaaGreatDoor
open Go.RowKit Go.Lib

theorem fld0 (k i : Value) (s : Value) (w : World) : (Instr.field 53 (.agg #[k, i, s]) 0).run Tryz.prog w = .ok k w := by kernel_rfl
theorem fld1 (k i : Value) (s : Value) (w : World) : (Instr.field 53 (.agg #[k, i, s]) 1).run Tryz.prog w = .ok i w := by kernel_rfl

def or3 (x y z : Int) : Int := if x ≠ 0 then x else if y ≠ 0 then y else z
def hK (k i : Int) (s : ByteArray) : Int := if mayB k i s then k else 0
def hI (k i : Int) (s : ByteArray) : Int := if mayB k i s then i else 0
def hS (k i : Int) (s : ByteArray) : ByteArray := if mayB k i s then s else ⟨#[]⟩

theorem wp_gen {P : Program} {Q : Exit → Act → World → Prop} {c : Code} {a : Act} {W : World} (p : World → Prop) (h : p W) (k : ∀ W', p W' → c.wp P Q a W') : c.wp P Q a W := k W h
theorem same_below {P : Program} {f : FuncId} {args : Array Value} {w : World} {r : Ending} (h : Calls P f args w fun e w' => e = r ∧ w' = w) : Calls P f args w fun e w' => e = r ∧ Below w.heap.size w w' :=
  h.mono fun _ _ h => ⟨h.1, h.2 ▸ Below.refl _ _⟩

/-- Two boxes, which hold what the two count as. -/
structure Boxes (w : World) (k i : Int) (s : ByteArray) (k' i' : Int) (s' : ByteArray) (W : World) : Prop where
  below : Below w.heap.size w W
  size : w.heap.size + 1 + 1 ≤ W.heap.size
  k : W.cell? ⟨w.heap.size, 0, none⟩ = some (.int .i64 k)
  i : W.cell? ⟨w.heap.size, 1, none⟩ = some (.int .i64 i)
  s : W.cell? ⟨w.heap.size, 2, none⟩ = some (.string s)
  k' : W.cell? ⟨w.heap.size + 1, 0, none⟩ = some (.int .i64 k')
  i' : W.cell? ⟨w.heap.size + 1, 1, none⟩ = some (.int .i64 i')
  s' : W.cell? ⟨w.heap.size + 1, 2, none⟩ = some (.string s')

theorem Boxes.later {w W W' : World} {k i : Int} {s : ByteArray} {k' i' : Int} {s' : ByteArray} (h : Boxes w k i s k' i' s' W) (hb : Below W.heap.size W W') : Boxes w k i s k' i' s' W' := by
  have hs := h.size
  exact ⟨h.below.trans (hb.mono h.below.size), Nat.le_trans hs hb.size,
    (hb.cell (p := ⟨_, _, none⟩) (by show w.heap.size < _; omega)).trans h.k, (hb.cell (p := ⟨_, _, none⟩) (by show w.heap.size < _; omega)).trans h.i, (hb.cell (p := ⟨_, _, none⟩) (by show w.heap.size < _; omega)).trans h.s,
    (hb.cell (p := ⟨_, _, none⟩) (by show w.heap.size + 1 < _; omega)).trans h.k', (hb.cell (p := ⟨_, _, none⟩) (by show w.heap.size + 1 < _; omega)).trans h.i', (hb.cell (p := ⟨_, _, none⟩) (by show w.heap.size + 1 < _; omega)).trans h.s'⟩

theorem Boxes.start (w : World) (k i : Int) (s : ByteArray) (k' i' : Int) (s' : ByteArray) (t t' : TypeId) :
    Boxes w k i s k' i' s' ((w.alloc (.cells #[.int .i64 k, .int .i64 i, .string s] t)).alloc (.cells #[.int .i64 k', .int .i64 i', .string s'] t')).drew :=
  ⟨(((Below.refl _ _).alloc (Nat.le_refl _) _).alloc (by simp) _).drew, by simp, by simp [go_sem], by simp [go_sem], by simp [go_sem], by simp [go_sem], by simp [go_sem], by simp [go_sem]⟩

theorem Boxes.store {w W : World} {k i : Int} {s : ByteArray} {k' i' : Int} {s' : ByteArray} (h : Boxes w k i s k' i' s' W) (K I : Int) (S : ByteArray) (K' I' : Int) (S' : ByteArray) :
    Boxes w K I S K' I' S' ((((((W.setCell ⟨w.heap.size, 0, none⟩ (.int .i64 K)).setCell ⟨w.heap.size, 1, none⟩ (.int .i64 I)).setCell ⟨w.heap.size, 2, none⟩ (.string S)).setCell ⟨w.heap.size + 1, 0, none⟩ (.int .i64 K')).setCell ⟨w.heap.size + 1, 1, none⟩ (.int .i64 I')).setCell ⟨w.heap.size + 1, 2, none⟩ (.string S')) := by
  have h1 := h.k
  have h2 := h.i
  have h3 := h.s
  have h4 := h.k'
  have h5 := h.i'
  have h6 := h.s'
  exact ⟨cSet3 (by omega) (cSet3 (Nat.le_refl _) h.below _ _ _) _ _ _, by simpa using h.size, by simp [go_sem, *], by simp [go_sem, *], by simp [go_sem, *], by simp [go_sem, *], by simp [go_sem, *], by simp [go_sem, *]⟩

def ordH (k i : Int) (s : ByteArray) (k' i' : Int) (s' : ByteArray) : Int := or3 (Lib.compareInt k k') (Lib.compareInt i i') (Lib.compareBytes s.data.toList s'.data.toList)
/-- Which is first. -/
def ordN (k i : Int) (s : ByteArray) (k' i' : Int) (s' : ByteArray) : Int := ordH (hK k i s) (hI k i s) (hS k i s) (hK k' i' s') (hI k' i' s') (hS k' i' s')
/-- Are both of one kind, and neither of them NULL? -/
def alikeB (k i : Int) (s : ByteArray) (k' i' : Int) (s' : ByteArray) : Bool := decide ((hK k i s) = (hK k' i' s')) && ((hK k i s) != 0)

def b2i (b : Bool) : Int := if b then 1 else 0
theorem truth_any (b : Bool) (w : World) :
    Calls Tryz.prog 47 #[.bool b] w fun e w' => e = .returned (.agg #[.int .i64 3, .int .i64 (b2i b), .string ⟨#[]⟩]) ∧ Below w.heap.size w w' := by
  cases b with
  | true => exact truth_t w
  | false => exact truth_f w

def numsB (k i : Int) (s : ByteArray) (k' i' : Int) (s' : ByteArray) : Bool := ((hK k i s) == 1) && ((hK k' i' s') == 1)

def badPlus (i i' : Int) : Bool := !(decide (i < wrap64 (i + i')) == decide (0 < i'))
def badMinus (i i' : Int) : Bool := !(decide (wrap64 (i - i') < i) == decide (0 < i'))

end Go.Proofs.YtnahejljelbbgaaGreatDoor
