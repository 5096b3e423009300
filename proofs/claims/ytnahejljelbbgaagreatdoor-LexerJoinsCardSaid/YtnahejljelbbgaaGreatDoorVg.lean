import Derived.Test.YtnahejljelbbgaaGreatDoorVe
import Derived.Deep.Cut
/- Boxes that hold values, however many; what the laws' walks carry from region to region. -/
namespace Go.Proofs.YtnahejljelbbgaaGreatDoor
open Go.RowKit Go.Lib

/-- Block b holds this value. -/
structure At3 (W : World) (b : Nat) (k i : Int) (s : ByteArray) : Prop where
  k : W.cell? ⟨b, 0, none⟩ = some (.int .i64 k)
  i : W.cell? ⟨b, 1, none⟩ = some (.int .i64 i)
  s : W.cell? ⟨b, 2, none⟩ = some (.string s)

theorem At3.lt {W : World} {b : Nat} {k i : Int} {s : ByteArray} (h : At3 W b k i s) : b < W.heap.size := World.block_lt_of_cell? W _ h.k
theorem At3.later {W W' : World} {b : Nat} {k i : Int} {s : ByteArray} (h : At3 W b k i s) (hb : Below W.heap.size W W') : At3 W' b k i s :=
  ⟨(hb.cell (p := ⟨b, _, none⟩) h.lt).trans h.k, (hb.cell (p := ⟨b, _, none⟩) h.lt).trans h.i, (hb.cell (p := ⟨b, _, none⟩) h.lt).trans h.s⟩
theorem At3.drew {W : World} {b : Nat} {k i : Int} {s : ByteArray} (h : At3 W b k i s) : At3 W.drew b k i s := ⟨h.k, h.i, h.s⟩
theorem At3.alloc {W : World} {b : Nat} {k i : Int} {s : ByteArray} (h : At3 W b k i s) (o : Obj) : At3 (W.alloc o) b k i s := h.later ((Below.refl _ _).alloc (Nat.le_refl _) o)
theorem At3.new {W : World} {b : Nat} {k i : Int} {s : ByteArray} {t : TypeId} (hb : b = W.heap.size) : At3 (W.alloc (.cells #[.int .i64 k, .int .i64 i, .string s] t)) b k i s := by
  subst hb
  exact ⟨by simp [go_sem], by simp [go_sem], by simp [go_sem]⟩
theorem At3.set_same {W : World} {b : Nat} {k i : Int} {s : ByteArray} (h : At3 W b k i s) (K I : Int) (S : ByteArray) :
    At3 (((W.setCell ⟨b, 0, none⟩ (.int .i64 K)).setCell ⟨b, 1, none⟩ (.int .i64 I)).setCell ⟨b, 2, none⟩ (.string S)) b K I S := by
  have h1 := h.k
  have h2 := h.i
  have h3 := h.s
  exact ⟨by simp [go_sem, *], by simp [go_sem, *], by simp [go_sem, *]⟩
theorem At3.set_other {W : World} {b b' : Nat} {k i : Int} {s : ByteArray} (h : At3 W b k i s) (hne : b' ≠ b) (x y z : Value) :
    At3 (((W.setCell ⟨b', 0, none⟩ x).setCell ⟨b', 1, none⟩ y).setCell ⟨b', 2, none⟩ z) b k i s := by
  have e : ∀ (u : World) (o o' : Nat) (v : Value), (u.setCell ⟨b', o, none⟩ v).cell? ⟨b, o', none⟩ = u.cell? ⟨b, o', none⟩ := fun u o o' v => World.cell?_setCell_other _ _ _ _ (fun e => hne (by injection e))
  exact ⟨by rw [e, e, e]; exact h.k, by rw [e, e, e]; exact h.i, by rw [e, e, e]; exact h.s⟩

theorem At3.set_other' {W : World} {b b' : Nat} {k i : Int} {s : ByteArray} (hne : b' ≠ b) (h : At3 W b k i s) (x y z : Value) :
    At3 (((W.setCell ⟨b', 0, none⟩ x).setCell ⟨b', 1, none⟩ y).setCell ⟨b', 2, none⟩ z) b k i s := h.set_other hne x y z

/-- Block b holds some value. -/
def Box (W : World) (b : Nat) : Prop := ∃ k i s, At3 W b k i s
theorem Box.of {W : World} {b : Nat} {k i : Int} {s : ByteArray} (h : At3 W b k i s) : Box W b := ⟨_, _, _, h⟩
theorem Box.drew {W : World} {b : Nat} (h : Box W b) : Box W.drew b := by obtain ⟨_, _, _, h⟩ := h; exact .of h.drew
theorem Box.alloc {W : World} {b : Nat} (h : Box W b) (o : Obj) : Box (W.alloc o) b := by obtain ⟨_, _, _, h⟩ := h; exact .of (h.alloc o)
theorem Box.set {W : World} {b : Nat} (h : Box W b) (K I : Int) (S : ByteArray) : At3 (((W.setCell ⟨b, 0, none⟩ (.int .i64 K)).setCell ⟨b, 1, none⟩ (.int .i64 I)).setCell ⟨b, 2, none⟩ (.string S)) b K I S := by
  obtain ⟨_, _, _, h⟩ := h; exact h.set_same K I S
theorem Box.set_other {W : World} {b b' : Nat} (hne : b' ≠ b) (h : Box W b) (x y z : Value) : Box (((W.setCell ⟨b', 0, none⟩ x).setCell ⟨b', 1, none⟩ y).setCell ⟨b', 2, none⟩ z) b := by
  obtain ⟨_, _, _, h⟩ := h; exact .of (h.set_other hne x y z)

theorem wlt {w W : World} {n : Nat} (hb : Below w.heap.size w W) (h : n < w.heap.size) : n < W.heap.size := Nat.lt_of_lt_of_le h hb.size

theorem hK_null : hK 0 0 ⟨#[]⟩ = 0 := by unfold hK; split <;> rfl
theorem alike_null_r (k i : Int) (s : ByteArray) : alikeB k i s 0 0 ⟨#[]⟩ = false := by
  unfold alikeB; rw [hK_null]; cases h : decide (hK k i s = 0) with
  | true => rw [of_decide_eq_true h]; rfl
  | false => rfl
theorem alike_null_l (k i : Int) (s : ByteArray) : alikeB 0 0 ⟨#[]⟩ k i s = false := by
  unfold alikeB; rw [hK_null]; simp
theorem nums_null_l (k i : Int) (s : ByteArray) : numsB 0 0 ⟨#[]⟩ k i s = false := by unfold numsB; rw [hK_null]; rfl
theorem nums_null_r (k i : Int) (s : ByteArray) : numsB k i s 0 0 ⟨#[]⟩ = false := by unfold numsB; rw [hK_null]; simp
end Go.Proofs.YtnahejljelbbgaaGreatDoor
