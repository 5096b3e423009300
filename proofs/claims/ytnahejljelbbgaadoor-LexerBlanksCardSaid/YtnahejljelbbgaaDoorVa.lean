import Derived.Test.YtnahejljelbbgaaDoorRows
import Derived.WalkKit
import Derived.WalkSpells
import Derived.WalkLawsBesides
import Derived.Deep.RegionHeld3
import Derived.Test.YtnahejljelbbgaaDoorDet
import Derived.Lib.Hide
/- The three-valued logic of the values: contracts of truth, says, said, And, Or, Not, and of the document's own. -/
namespace Go.Proofs.YtnahejljelbbgaaDoor
open Go.RowKit

theorem bcell {W w1 : World} {n : Nat} (hb : Below n W w1) : (∀ b o, b < n → w1.cell? ⟨b, o, none⟩ = W.cell? ⟨b, o, none⟩) ∧ (∀ b o, b < n → w1.frozen? ⟨b, o, none⟩ = W.frozen? ⟨b, o, none⟩) :=
  ⟨fun b o h => hb.cell (p := ⟨b, o, none⟩) h, fun b o h => hb.frozen (p := ⟨b, o, none⟩) h⟩

theorem bcellD {W w1 : World} (hb : Below W.drew.heap.size W.drew w1) : ∀ b o, b < W.heap.size → w1.cell? ⟨b, o, none⟩ = W.cell? ⟨b, o, none⟩ := fun b o h => hb.cell (p := ⟨b, o, none⟩) h

theorem bOn {a b c : World} {n : Nat} (h : Below n a b) (hn : n ≤ b.heap.size) (k : Below b.heap.size b c) : Below n a c := h.trans (k.mono hn)

theorem bOn' {a b c : World} {n : Nat} (k : Below b.heap.size b c) (hn : n ≤ b.heap.size) (h : Below n a b) : Below n a c := h.trans (k.mono hn)
theorem bsize {W w1 : World} {n : Nat} (hb : Below n W w1) : ∀ b, b < W.heap.size → b < w1.heap.size := fun _ h => Nat.lt_of_lt_of_le h hb.size
theorem bSet3 {a b : World} {n k : Nat} (h : Below n a b) (hn : n ≤ k) (x y z : Value) : Below n a (((b.setCell ⟨k, 0, none⟩ x).setCell ⟨k, 1, none⟩ y).setCell ⟨k, 2, none⟩ z) :=
  ((h.setCell hn x).setCell hn y).setCell hn z

theorem cSet3 {a b : World} {n k : Nat} (hn : n ≤ k) (h : Below n a b) (x y z : Value) : Below n a (((b.setCell ⟨k, 0, none⟩ x).setCell ⟨k, 1, none⟩ y).setCell ⟨k, 2, none⟩ z) :=
  ((h.setCell hn x).setCell hn y).setCell hn z
theorem cAlloc {a b : World} {n : Nat} (hn : n ≤ b.heap.size) (h : Below n a b) (o : Obj) : Below n a (b.alloc o) := h.alloc hn o
theorem cOn {a b c : World} {n : Nat} (k : Below b.heap.size b c) (hn : n ≤ b.heap.size) (h : Below n a b) : Below n a c := h.trans (k.mono hn)

theorem nilBytes : (⟨#[]⟩ : ByteArray).toList = [] := by rw [ByteArray.toList]; rw [ByteArray.toList.loop]; rfl

/-- What a value says where a truth is asked for: 0, 1, 2. -/
def saysN (k i : Int) (s : ByteArray) : Int := if k = 3 ∧ i = 0 ∧ s.toList = [] then 0 else if k = 3 ∧ i = 1 ∧ s.toList = [] then 2 else 1
theorem saysN_bd (k i : Int) (s : ByteArray) : 0 ≤ saysN k i s ∧ saysN k i s ≤ 2 := by unfold saysN; split <;> (try split) <;> omega
theorem saysN_0 {k i : Int} {s : ByteArray} (h1 : k = 3) (h2 : i = 0) (h3 : s.toList = []) : saysN k i s = 0 := by unfold saysN; rw [if_pos ⟨h1, h2, h3⟩]
theorem saysN_2 {k i : Int} {s : ByteArray} (h1 : k = 3) (h2 : i = 1) (h3 : s.toList = []) : saysN k i s = 2 := by unfold saysN; rw [if_neg (by omega), if_pos ⟨h1, h2, h3⟩]
theorem saysN_1 {k i : Int} {s : ByteArray} (h : k = 3 → s.toList = [] → i ≠ 0 ∧ i ≠ 1) : saysN k i s = 1 := by
  unfold saysN; rw [if_neg (fun q => (h q.1 q.2.2).1 q.2.1), if_neg (fun q => (h q.1 q.2.2).2 q.2.1)]
def triK (m : Int) : Int := if m = 1 then 0 else 3
def triI (m : Int) : Int := if m = 2 then 1 else 0
theorem says_tri (m : Int) (h0 : 0 ≤ m) (h2 : m ≤ 2) : saysN (triK m) (triI m) ⟨#[]⟩ = m := by
  have : m = 0 ∨ m = 1 ∨ m = 2 := by omega
  rcases this with rfl | rfl | rfl <;> simp [saysN, triK, triI, nilBytes]
theorem ret_int {k : IntKind} {a b : Int} (h : a = b) : Ending.returned (.int k a) = .returned (.int k b) := by rw [h]
theorem ret_tri {m k i : Int} (h : k = triK m) (h' : i = triI m) : Ending.returned (.agg #[.int .i64 k, .int .i64 i, .string ⟨#[]⟩]) = .returned (.agg #[.int .i64 (triK m), .int .i64 (triI m), .string ⟨#[]⟩]) := by rw [h, h']

theorem ret_tri0 {m : Int} (h : m = 0) : Ending.returned (.agg #[.int .i64 3, .int .i64 0, .string ⟨#[]⟩]) = .returned (.agg #[.int .i64 (triK m), .int .i64 (triI m), .string ⟨#[]⟩]) := by rw [h]; rfl
theorem ret_tri1 {m : Int} (h : m = 1) : Ending.returned (.agg #[.int .i64 0, .int .i64 0, .string ⟨#[]⟩]) = .returned (.agg #[.int .i64 (triK m), .int .i64 (triI m), .string ⟨#[]⟩]) := by rw [h]; rfl
theorem ret_tri2 {m : Int} (h : m = 2) : Ending.returned (.agg #[.int .i64 3, .int .i64 1, .string ⟨#[]⟩]) = .returned (.agg #[.int .i64 (triK m), .int .i64 (triI m), .string ⟨#[]⟩]) := by rw [h]; rfl

set_option maxHeartbeats 400000 in
theorem truth_t (w : World) :
    Calls Tryd.prog 21 #[.bool true] w fun e w' => e = .returned (.agg #[.int .i64 3, .int .i64 1, .string ⟨#[]⟩]) ∧ Below w.heap.size w w' := by
  go_enter Tryd.func21, Tryd.ntmps21
  go_wp2
  exact bodyPost_ret (v := .agg #[.int .i64 3, .int .i64 1, .string ⟨#[]⟩]) (by simp [results, Tryd.results21, go_sem]) rfl ⟨rfl, ((Below.refl _ _).alloc (Nat.le_refl _) _).alloc (by simp) _⟩

set_option maxHeartbeats 400000 in
theorem truth_f (w : World) :
    Calls Tryd.prog 21 #[.bool false] w fun e w' => e = .returned (.agg #[.int .i64 3, .int .i64 0, .string ⟨#[]⟩]) ∧ Below w.heap.size w w' := by
  go_enter Tryd.func21, Tryd.ntmps21
  go_wp2
  exact bodyPost_ret (v := .agg #[.int .i64 3, .int .i64 0, .string ⟨#[]⟩]) (by simp [results, Tryd.results21, go_sem]) rfl ⟨rfl, ((Below.refl _ _).alloc (Nat.le_refl _) _).alloc (by simp) _⟩

set_option maxHeartbeats 400000 in
theorem says_any (k i : Int) (s : ByteArray) (w : World) :
    Calls Tryd.prog 39 #[.agg #[.int .i64 k, .int .i64 i, .string s]] w fun e w' => e = .returned (.int .i64 (saysN k i s)) ∧ Below w.heap.size w w' := by
  go_enter Tryd.func39, Tryd.ntmps39
  go_wp2_with (first
    | (go_at_call_of 21 (Value.bool false); refine (truth_f _).mono ?_; rintro e w1 ⟨rfl, hb1⟩)
    | (go_at_call_of 21 (Value.bool true); refine (truth_t _).mono ?_; rintro e w2 ⟨rfl, hb2⟩))
  all_goals go_ret
  · exact ⟨ret_int (saysN_0 (by assumption) (by assumption) (by assumption)).symm, bOn ((Below.refl _ _).alloc (Nat.le_refl _) _) (by simp) (by assumption)⟩
  all_goals
    have hz := hb1.size
    simp at hz
  · exact ⟨ret_int (saysN_1 (fun _ h => absurd h (by assumption))).symm, bOn (bOn ((Below.refl _ _).alloc (Nat.le_refl _) _) (by simp) hb1) (by omega) hb2⟩
  · exact ⟨ret_int (saysN_2 (by assumption) (by assumption) (by assumption)).symm, bOn (bOn ((Below.refl _ _).alloc (Nat.le_refl _) _) (by simp) hb1) (by omega) hb2⟩
  · exact ⟨ret_int (saysN_1 (fun _ h => absurd h (by assumption))).symm, bOn (bOn ((Below.refl _ _).alloc (Nat.le_refl _) _) (by simp) hb1) (by omega) hb2⟩
  · exact ⟨ret_int (saysN_1 (fun _ _ => ⟨by assumption, by assumption⟩)).symm, bOn (bOn ((Below.refl _ _).alloc (Nat.le_refl _) _) (by simp) hb1) (by omega) hb2⟩
  · exact ⟨ret_int (saysN_1 (fun h _ => absurd h (by assumption))).symm, bOn (bOn ((Below.refl _ _).alloc (Nat.le_refl _) _) (by simp) hb1) (by omega) hb2⟩

set_option maxHeartbeats 400000 in
theorem said_any (m : Int) (w : World) (h0 : 0 ≤ m) (h2 : m ≤ 2) :
    Calls Tryd.prog 38 #[.int .i64 m] w fun e w' => e = .returned (.agg #[.int .i64 (triK m), .int .i64 (triI m), .string ⟨#[]⟩]) ∧ Below w.heap.size w w' := by
  have : m = 0 ∨ m = 1 ∨ m = 2 := by omega
  clear h0 h2
  rcases this with rfl | rfl | rfl
  · go_enter Tryd.func38, Tryd.ntmps38
    go_wp2_with (first
      | (go_at_call_of 21 (Value.bool false); refine (truth_f _).mono ?_; rintro e w1 ⟨rfl, hb1⟩; obtain ⟨hc1, hf1⟩ := bcell hb1; have hz1 : w.heap.size < w1.heap.size := by (have := hb1.size; simp at this; omega)))
    exact bodyPost_ret (v := .agg #[.int .i64 3, .int .i64 0, .string ⟨#[]⟩]) (by simp [results, Tryd.results38, go_sem, hc1, hf1, hz1]) rfl ⟨ret_tri rfl rfl, bSet3 (bOn ((Below.refl _ _).alloc (Nat.le_refl _) _) (by simp) hb1) (Nat.le_refl _) _ _ _⟩
  · go_enter Tryd.func38, Tryd.ntmps38
    go_wp2_with (fail)
    exact bodyPost_ret (v := .agg #[.int .i64 0, .int .i64 0, .string ⟨#[]⟩]) (by simp [results, Tryd.results38, go_sem]) rfl ⟨ret_tri rfl rfl, (Below.refl _ _).alloc (Nat.le_refl _) _⟩
  · go_enter Tryd.func38, Tryd.ntmps38
    go_wp2_with (first
      | (go_at_call_of 21 (Value.bool true); refine (truth_t _).mono ?_; rintro e w1 ⟨rfl, hb1⟩; obtain ⟨hc1, hf1⟩ := bcell hb1; have hz1 : w.heap.size < w1.heap.size := by (have := hb1.size; simp at this; omega)))
    exact bodyPost_ret (v := .agg #[.int .i64 3, .int .i64 1, .string ⟨#[]⟩]) (by simp [results, Tryd.results38, go_sem, hc1, hf1, hz1]) rfl ⟨ret_tri rfl rfl, bSet3 (bOn ((Below.refl _ _).alloc (Nat.le_refl _) _) (by simp) hb1) (Nat.le_refl _) _ _ _⟩

def minN (x y : Int) : Int := if x ≤ y then x else y
def maxN (x y : Int) : Int := if x ≤ y then y else x
theorem min_if (x y : Int) : (if y < x then y else x) = minN x y := by unfold minN; split <;> split <;> omega
theorem max_if (x y : Int) : (if x < y then y else x) = maxN x y := by unfold maxN; split <;> split <;> omega
theorem min_bd {x y : Int} (hx : 0 ≤ x ∧ x ≤ 2) (hy : 0 ≤ y ∧ y ≤ 2) : 0 ≤ minN x y ∧ minN x y ≤ 2 := by unfold minN; split <;> omega
theorem max_bd {x y : Int} (hx : 0 ≤ x ∧ x ≤ 2) (hy : 0 ≤ y ∧ y ≤ 2) : 0 ≤ maxN x y ∧ maxN x y ≤ 2 := by unfold maxN; split <;> omega

set_option maxHeartbeats 800000 in
theorem and_any (k i : Int) (s : ByteArray) (k' i' : Int) (s' : ByteArray) (w : World) :
    Calls Tryd.prog 24 #[.agg #[.int .i64 k, .int .i64 i, .string s], .agg #[.int .i64 k', .int .i64 i', .string s']] w fun e w' => e = .returned (.agg #[.int .i64 (triK (minN (saysN k i s) (saysN k' i' s'))), .int .i64 (triI (minN (saysN k i s) (saysN k' i' s'))), .string ⟨#[]⟩]) ∧ Below w.heap.size w w' := by
  have hx := saysN_bd k i s
  have hy := saysN_bd k' i' s'
  have hm := min_bd hx hy
  go_enter Tryd.func24, Tryd.ntmps24
  go_wp2
  refine detL_begin [.val (.agg #[.int .i64 k, .int .i64 i, .string s]), .val (.int .i64 (saysN k i s)), .val (.agg #[.int .i64 k', .int .i64 i', .string s']), .val (.int .i64 (saysN k' i' s')), .val (.int .i64 (minN (saysN k i s) (saysN k' i' s'))), .val (.agg #[.int .i64 (triK (minN (saysN k i s) (saysN k' i' s'))), .int .i64 (triI (minN (saysN k i s) (saysN k' i' s'))), .string ⟨#[]⟩])] 6 (by kernel_rfl) ?_
  repeat
    (refine detL_val (by kernel_rfl) (yields_of rfl fun w1 hb1 => ?_) ?_
     · have hc1 := (bcell hb1).1
       clear hb1
       go_simp
       with_reducible first
         | exact Det1_same
         | exact Det1_value (congrArg (Value.int .i64) (min_if _ _)) (Below.refl _ _)
         | exact Det1_enter (says_any _ _ _ _)
         | exact Det1_enter (said_any _ _ (by omega) (by omega))
     simp only [Act.put, List.setIfInBounds_toArray, List.set_cons_zero, List.set_cons_succ])
  refine detL_tail rfl (by kernel_rfl) fun w1 hw1 => ?_
  have hc1 := (bcell hw1.below).1
  have hf1 := (bcell hw1.below).2
  have hz1 : w.heap.size + 2 < w1.heap.size := by have := hw1.below.size; simp at this; omega
  go_wp2
  exact bodyPost_ret (v := .agg #[.int .i64 (triK (minN (saysN k i s) (saysN k' i' s'))), .int .i64 (triI (minN (saysN k i s) (saysN k' i' s'))), .string ⟨#[]⟩]) (by simp [results, Tryd.results24, go_sem, hc1, hf1, hz1]) rfl ⟨rfl, bSet3 (((((Below.refl _ _).alloc (Nat.le_refl _) _).alloc (by simp) _).alloc (by simp; omega) _).drew.trans (hw1.below.mono (by simp; omega))) (by omega) _ _ _⟩

end Go.Proofs.YtnahejljelbbgaaDoor
