import Derived.Test.YtnahejljelbbgaaGreatDoorRows
import Derived.WalkKit
import Derived.WalkSpells
import Derived.WalkLawsBesides
import Derived.Deep.RegionHeld3
import Derived.Test.YtnahejljelbbgaaGreatDoorDet
import Derived.Lib.Hide
/- The three-valued logic of the values: contracts of truth, says, said, And, Or, Not, and of the document's own. -/
namespace Go.Proofs.YtnahejljelbbgaaGreatDoor
open Go.RowKit

theorem bcell {W w1 : World} {n : Nat} (hb : Below n W w1) : (∀ b o, b < n → w1.cell? ⟨b, o, none⟩ = W.cell? ⟨b, o, none⟩) ∧ (∀ b o, b < n → w1.frozen? ⟨b, o, none⟩ = W.frozen? ⟨b, o, none⟩) :=
  ⟨fun b o h => hb.cell (p := ⟨b, o, none⟩) h, fun b o h => hb.frozen (p := ⟨b, o, none⟩) h⟩

theorem bcellD {W w1 : World} (hb : Below W.drew.heap.size W.drew w1) : ∀ b o, b < W.heap.size → w1.cell? ⟨b, o, none⟩ = W.cell? ⟨b, o, none⟩ := fun b o h => hb.cell (p := ⟨b, o, none⟩) h

theorem bOn {a b c : World} {n : Nat} (h : Below n a b) (hn : n ≤ b.heap.size) (k : Below b.heap.size b c) : Below n a c := h.trans (k.mono hn)

theorem bOn' {a b c : World} {n : Nat} (k : Below b.heap.size b c) (hn : n ≤ b.heap.size) (h : Below n a b) : Below n a c := h.trans (k.mono hn)
theorem bsize {W w1 : World} {n : Nat} (hb : Below n W w1) : ∀ b, b < W.heap.size → b < w1.heap.size := fun _ h => Nat.lt_of_lt_of_le h hb.size
theorem bSet3 {a b : World} {n k : Nat} (h : Below n a b) (hn : n ≤ k) (x y z : Value) : Below n a (((b.setCell ⟨k, 0, none⟩ x).setCell ⟨k, 1, none⟩ y).setCell ⟨k, 2, none⟩ z) :=
  ((h.setCell hn x).setCell hn y).setCell hn z

theorem cSet3 {a b : World} {n k : Nat} (hn : n ≤ k) (h : Below n a b) (x y z : Value) : Below n a (((b.setCell ⟨k, 0, none⟩ x).setCell ⟨k, 1, none⟩ y).setCell ⟨k, 2, none⟩ z) :=
  ((h.setCell hn x).setCell hn y).setCell hn z
theorem cAlloc {a b : World} {n : Nat} (hn : n ≤ b.heap.size) (h : Below n a b) (o : Obj) : Below n a (b.alloc o) := h.alloc hn o
theorem cOn {a b c : World} {n : Nat} (k : Below b.heap.size b c) (hn : n ≤ b.heap.size) (h : Below n a b) : Below n a c := h.trans (k.mono hn)

theorem nilBytes : (⟨#[]⟩ : ByteArray).toList = [] := by rw [ByteArray.toList]; rw [ByteArray.toList.loop]; rfl

/-- What a value says where a truth is asked for: 0, 1, 2. -/
def saysN (k i : Int) (s : ByteArray) : Int := if k = 3 ∧ i = 0 ∧ s.toList = [] then 0 else if k = 3 ∧ i = 1 ∧ s.toList = [] then 2 else 1
theorem saysN_bd (k i : Int) (s : ByteArray) : 0 ≤ saysN k i s ∧ saysN k i s ≤ 2 := by unfold saysN; split <;> (try split) <;> omega
theorem saysN_0 {k i : Int} {s : ByteArray} (h1 : k = 3) (h2 : i = 0) (h3 : s.toList = []) : saysN k i s = 0 := by unfold saysN; rw [if_pos ⟨h1, h2, h3⟩]
theorem saysN_2 {k i : Int} {s : ByteArray} (h1 : k = 3) (h2 : i = 1) (h3 : s.toList = []) : saysN k i s = 2 := by unfold saysN; rw [if_neg (by omega), if_pos ⟨h1, h2, h3⟩]
theorem saysN_1 {k i : Int} {s : ByteArray} (h : k = 3 → s.toList = [] → i ≠ 0 ∧ i ≠ 1) : saysN k i s = 1 := by
  unfold saysN; rw [if_neg (fun q => (h q.1 q.2.2).1 q.2.1), if_neg (fun q => (h q.1 q.2.2).2 q.2.1)]
def triK (m : Int) : Int := if m = 1 then 0 else 3
def triI (m : Int) : Int := if m = 2 then 1 else 0
theorem says_tri (m : Int) (h0 : 0 ≤ m) (h2 : m ≤ 2) : saysN (triK m) (triI m) ⟨#[]⟩ = m := by
  have : m = 0 ∨ m = 1 ∨ m = 2 := by omega
  rcases this with rfl | rfl | rfl <;> simp [saysN, triK, triI, nilBytes]
theorem ret_int {k : IntKind} {a b : Int} (h : a = b) : Ending.returned (.int k a) = .returned (.int k b) := by rw [h]
theorem ret_tri {m k i : Int} (h : k = triK m) (h' : i = triI m) : Ending.returned (.agg #[.int .i64 k, .int .i64 i, .string ⟨#[]⟩]) = .returned (.agg #[.int .i64 (triK m), .int .i64 (triI m), .string ⟨#[]⟩]) := by rw [h, h']

theorem ret_tri0 {m : Int} (h : m = 0) : Ending.returned (.agg #[.int .i64 3, .int .i64 0, .string ⟨#[]⟩]) = .returned (.agg #[.int .i64 (triK m), .int .i64 (triI m), .string ⟨#[]⟩]) := by rw [h]; rfl
theorem ret_tri1 {m : Int} (h : m = 1) : Ending.returned (.agg #[.int .i64 0, .int .i64 0, .string ⟨#[]⟩]) = .returned (.agg #[.int .i64 (triK m), .int .i64 (triI m), .string ⟨#[]⟩]) := by rw [h]; rfl
theorem ret_tri2 {m : Int} (h : m = 2) : Ending.returned (.agg #[.int .i64 3, .int .i64 1, .string ⟨#[]⟩]) = .returned (.agg #[.int .i64 (triK m), .int .i64 (triI m), .string ⟨#[]⟩]) := by rw [h]; rfl

set_option maxHeartbeats 400000 in
theorem truth_t (w : World) :
    Calls Tryz.prog 47 #[.bool true] w fun e w' => e = .returned (.agg #[.int .i64 3, .int .i64 1, .string ⟨#[]⟩]) ∧ Below w.heap.size w w' := by
  go_enter Tryz.func47, Tryz.ntmps47
  go_wp2
  exact bodyPost_ret (v := .agg #[.int .i64 3, .int .i64 1, .string ⟨#[]⟩]) (by simp [results, Tryz.results47, go_sem]) rfl ⟨rfl, ((Below.refl _ _).alloc (Nat.le_refl _) _).alloc (by simp) _⟩

set_option maxHeartbeats 400000 in
theorem truth_f (w : World) :
    Calls Tryz.prog 47 #[.bool false] w fun e w' => e = .returned (.agg #[.int .i64 3, .int .i64 0, .string ⟨#[]⟩]) ∧ Below w.heap.size w w' := by
  go_enter Tryz.func47, Tryz.ntmps47
  go_wp2
  exact bodyPost_ret (v := .agg #[.int .i64 3, .int .i64 0, .string ⟨#[]⟩]) (by simp [results, Tryz.results47, go_sem]) rfl ⟨rfl, ((Below.refl _ _).alloc (Nat.le_refl _) _).alloc (by simp) _⟩

def minN (x y : Int) : Int := if x ≤ y then x else y
def maxN (x y : Int) : Int := if x ≤ y then y else x
theorem min_if (x y : Int) : (if y < x then y else x) = minN x y := by unfold minN; split <;> split <;> omega
theorem max_if (x y : Int) : (if x < y then y else x) = maxN x y := by unfold maxN; split <;> split <;> omega
theorem min_bd {x y : Int} (hx : 0 ≤ x ∧ x ≤ 2) (hy : 0 ≤ y ∧ y ≤ 2) : 0 ≤ minN x y ∧ minN x y ≤ 2 := by unfold minN; split <;> omega
theorem max_bd {x y : Int} (hx : 0 ≤ x ∧ x ≤ 2) (hy : 0 ≤ y ∧ y ≤ 2) : 0 ≤ maxN x y ∧ maxN x y ≤ 2 := by unfold maxN; split <;> omega

end Go.Proofs.YtnahejljelbbgaaGreatDoor
