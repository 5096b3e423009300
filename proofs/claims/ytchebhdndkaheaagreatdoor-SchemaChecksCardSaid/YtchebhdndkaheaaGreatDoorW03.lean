import Derived.Deep.Cut
import Derived.Lib.Bytealg
import Derived.Test.YtchebhdndkaheaaGreatDoorW01
import Derived.Test.YtchebhdndkaheaaGreatDoorW02
import Derived.IntWalk
import Derived.LoopTactic
import Derived.Outline

/- Order, Equal, Less, Plus, Minus, IsNull. -/
namespace Go.Proofs.YtchebhdndkaheaaGreatDoor
open Go.RowKit Go.Lib

theorem fld0 (k i : Value) (s : Value) (w : World) : (Instr.field 26 (.agg #[k, i, s]) 0).run Tryz.prog w = .ok k w := by kernel_rfl
set_option maxHeartbeats 400000 in
theorem cmp64 (x y : Int) (w : World) :
    Calls Tryz.prog 91 #[.int .i64 x, .int .i64 y] w fun e w' => e = .returned (.int .i64 (Lib.compareInt x y)) ∧ w' = w := by
  go_enter Tryz.func91, Tryz.ntmps91
  go_wp2
  all_goals
    go_ret
    refine ⟨ret_int ?_, rfl⟩
    unfold Lib.compareInt
    repeat (split <;> try omega)

def or3 (x y z : Int) : Int := if x ≠ 0 then x else if y ≠ 0 then y else z
set_option maxHeartbeats 400000 in
theorem cmpOr (b : Nat) (x y z : Int) (w : World) (h0 : w.cell? ⟨b, 0, none⟩ = some (.int .i64 x)) (h1 : w.cell? ⟨b, 1, none⟩ = some (.int .i64 y)) (h2 : w.cell? ⟨b, 2, none⟩ = some (.int .i64 z)) :
    Calls Tryz.prog 89 #[.slice (some ⟨b, 0, none⟩) 3 3] w fun e w' => e = .returned (.int .i64 (or3 x y z)) ∧ w' = w := by
  go_enter Tryz.func89, Tryz.ntmps89
  go_wp2
  refine wp_loop_rounds 4 ?_
  all_goals (try (rw [rounds_succ]; go_wp2))
  all_goals (try (rw [rounds_succ]; go_wp2))
  all_goals (try (rw [rounds_succ]; go_wp2))
  all_goals (try (rw [rounds_succ]; go_wp2))
  go_ways
  all_goals go_ret
  all_goals refine ⟨ret_int ?_, rfl⟩
  all_goals unfold or3
  all_goals (simp_all; done)

def hK (k i : Int) (s : ByteArray) : Int := if mayB k i s then k else 0
def hI (k i : Int) (s : ByteArray) : Int := if mayB k i s then i else 0
def hS (k i : Int) (s : ByteArray) : ByteArray := if mayB k i s then s else ⟨#[]⟩

theorem held_any (k i : Int) (s : ByteArray) (w : World) :
    Calls Tryz.prog 74 #[.agg #[.int .i64 k, .int .i64 i, .string s]] w fun e w' => e = .returned (.agg #[.int .i64 (hK k i s), .int .i64 (hI k i s), .string (hS k i s)]) ∧ Below w.heap.size w w' := by
  cases h : mayB k i s with
  | true =>
    have := held_t k i s w h
    unfold hK hI hS
    simp only [h, if_true]
    exact this
  | false =>
    have := held_f k i s w h
    unfold hK hI hS
    simp only [h, Bool.false_eq_true, if_false]
    exact this

theorem wp_gen {P : Program} {Q : Exit → Act → World → Prop} {c : Code} {a : Act} {W : World} (p : World → Prop) (h : p W) (k : ∀ W', p W' → c.wp P Q a W') : c.wp P Q a W := k W h
theorem same_below {P : Program} {f : FuncId} {args : Array Value} {w : World} {r : Ending} (h : Calls P f args w fun e w' => e = r ∧ w' = w) : Calls P f args w fun e w' => e = r ∧ Below w.heap.size w w' :=
  h.mono fun _ _ h => ⟨h.1, h.2 ▸ Below.refl _ _⟩

/-- Two boxes, which hold what the two count as. -/
structure Boxes (w : World) (k i : Int) (s : ByteArray) (k' i' : Int) (s' : ByteArray) (W : World) : Prop where
  below : Below w.heap.size w W
  size : w.heap.size + 1 + 1 ≤ W.heap.size
  k : W.cell? ⟨w.heap.size, 0, none⟩ = some (.int .i64 k)
  i : W.cell? ⟨w.heap.size, 1, none⟩ = some (.int .i64 i)
  s : W.cell? ⟨w.heap.size, 2, none⟩ = some (.string s)
  k' : W.cell? ⟨w.heap.size + 1, 0, none⟩ = some (.int .i64 k')
  i' : W.cell? ⟨w.heap.size + 1, 1, none⟩ = some (.int .i64 i')
  s' : W.cell? ⟨w.heap.size + 1, 2, none⟩ = some (.string s')

theorem Boxes.later {w W W' : World} {k i : Int} {s : ByteArray} {k' i' : Int} {s' : ByteArray} (h : Boxes w k i s k' i' s' W) (hb : Below W.heap.size W W') : Boxes w k i s k' i' s' W' := by
  have hs := h.size
  exact ⟨h.below.trans (hb.mono h.below.size), Nat.le_trans hs hb.size,
    (hb.cell (p := ⟨_, _, none⟩) (by show w.heap.size < _; omega)).trans h.k, (hb.cell (p := ⟨_, _, none⟩) (by show w.heap.size < _; omega)).trans h.i, (hb.cell (p := ⟨_, _, none⟩) (by show w.heap.size < _; omega)).trans h.s,
    (hb.cell (p := ⟨_, _, none⟩) (by show w.heap.size + 1 < _; omega)).trans h.k', (hb.cell (p := ⟨_, _, none⟩) (by show w.heap.size + 1 < _; omega)).trans h.i', (hb.cell (p := ⟨_, _, none⟩) (by show w.heap.size + 1 < _; omega)).trans h.s'⟩

theorem Boxes.start (w : World) (k i : Int) (s : ByteArray) (k' i' : Int) (s' : ByteArray) (t t' : TypeId) :
    Boxes w k i s k' i' s' ((w.alloc (.cells #[.int .i64 k, .int .i64 i, .string s] t)).alloc (.cells #[.int .i64 k', .int .i64 i', .string s'] t')).drew :=
  ⟨(((Below.refl _ _).alloc (Nat.le_refl _) _).alloc (by simp) _).drew, by simp, by simp [go_sem], by simp [go_sem], by simp [go_sem], by simp [go_sem], by simp [go_sem], by simp [go_sem]⟩

theorem Boxes.store {w W : World} {k i : Int} {s : ByteArray} {k' i' : Int} {s' : ByteArray} (h : Boxes w k i s k' i' s' W) (K I : Int) (S : ByteArray) (K' I' : Int) (S' : ByteArray) :
    Boxes w K I S K' I' S' ((((((W.setCell ⟨w.heap.size, 0, none⟩ (.int .i64 K)).setCell ⟨w.heap.size, 1, none⟩ (.int .i64 I)).setCell ⟨w.heap.size, 2, none⟩ (.string S)).setCell ⟨w.heap.size + 1, 0, none⟩ (.int .i64 K')).setCell ⟨w.heap.size + 1, 1, none⟩ (.int .i64 I')).setCell ⟨w.heap.size + 1, 2, none⟩ (.string S')) := by
  have h1 := h.k
  have h2 := h.i
  have h3 := h.s
  have h4 := h.k'
  have h5 := h.i'
  have h6 := h.s'
  exact ⟨cSet3 (by omega) (cSet3 (Nat.le_refl _) h.below _ _ _) _ _ _, by simpa using h.size, by simp [go_sem, *], by simp [go_sem, *], by simp [go_sem, *], by simp [go_sem, *], by simp [go_sem, *], by simp [go_sem, *]⟩

def ordH (k i : Int) (s : ByteArray) (k' i' : Int) (s' : ByteArray) : Int := or3 (Lib.compareInt k k') (Lib.compareInt i i') (Lib.compareBytes s.data.toList s'.data.toList)
/-- Which is first. -/
def ordN (k i : Int) (s : ByteArray) (k' i' : Int) (s' : ByteArray) : Int := ordH (hK k i s) (hI k i s) (hS k i s) (hK k' i' s') (hI k' i' s') (hS k' i' s')
/-- Are both of one kind, and neither of them NULL? -/
def alikeB (k i : Int) (s : ByteArray) (k' i' : Int) (s' : ByteArray) : Bool := decide ((hK k i s) = (hK k' i' s')) && ((hK k i s) != 0)

set_option maxRecDepth 100000 in
set_option maxHeartbeats 800000 in
theorem order_any (k i : Int) (s : ByteArray) (k' i' : Int) (s' : ByteArray) (w : World) :
    Calls Tryz.prog 77 #[.agg #[.int .i64 k, .int .i64 i, .string s], .agg #[.int .i64 k', .int .i64 i', .string s']] w fun e w' => e = .returned (.int .i64 (ordN k i s k' i' s')) ∧ Below w.heap.size w w' := by
  go_enter Tryz.func77, Tryz.ntmps77
  go_wp2
  refine detL_begin [.val (.agg #[.int .i64 k, .int .i64 i, .string s]), .val (.agg #[.int .i64 (hK k i s), .int .i64 (hI k i s), .string (hS k i s)]), .val (.agg #[.int .i64 k', .int .i64 i', .string s']), .val (.agg #[.int .i64 (hK k' i' s'), .int .i64 (hI k' i' s'), .string (hS k' i' s')])] 4 (by kernel_rfl) ?_
  repeat
    (refine detL_val (by kernel_rfl) (yields_of rfl fun w1 hb1 => ?_) ?_
     · have hc1 := bcellD hb1
       clear hb1
       go_simp
       with_reducible first
         | exact Det1_same
         | exact Det1_enter (held_any _ _ _ _)
     simp only [Act.put, List.setIfInBounds_toArray, List.set_cons_zero, List.set_cons_succ])
  refine detL_tail rfl (by kernel_rfl) fun w1 hw1 => ?_
  have hb1 := hw1.below
  clear hw1
  have hc1 := (bcell hb1).1
  have hf1 := (bcell hb1).2
  have hy1 := hb1.size
  (try simp at hy1)
  have hz1_0 : w.heap.size < w1.heap.size := (by omega)
  have hz1_1 : w.heap.size + 1 < w1.heap.size := (by omega)
  go_upto_region 2 with (fail)
  refine wp_gen (Boxes w (hK k i s) (hI k i s) (hS k i s) (hK k' i' s') (hI k' i' s') (hS k' i' s')) (((Boxes.start w k i s k' i' s' 26 26).later hb1).store _ _ _ _ _ _) ?_
  intro W hW
  clear hc1 hf1 hb1 hy1 hz1_0 hz1_1
  have hk := hW.k
  have hi := hW.i
  have hs := hW.s
  have hk' := hW.k'
  have hi' := hW.i'
  have hs' := hW.s'
  have hn0 : w.heap.size < W.heap.size := by have := hW.size; omega
  have hn1 : w.heap.size + 1 < W.heap.size := by have := hW.size; omega
  refine detL_begin [.val (.pointer (some ⟨w.heap.size, 0, none⟩)), .val (.int .i64 (hK k i s)), .val (.pointer (some ⟨w.heap.size + 1, 0, none⟩)), .val (.int .i64 (hK k' i' s')), .val (.int .i64 (Lib.compareInt (hK k i s) (hK k' i' s'))), .val (.pointer (some ⟨w.heap.size, 1, none⟩)), .val (.int .i64 (hI k i s)), .val (.pointer (some ⟨w.heap.size + 1, 1, none⟩)), .val (.int .i64 (hI k' i' s')), .val (.int .i64 (Lib.compareInt (hI k i s) (hI k' i' s'))), .val (.pointer (some ⟨w.heap.size, 2, none⟩)), .val (.string (hS k i s)), .val (.pointer (some ⟨w.heap.size + 1, 2, none⟩)), .val (.string (hS k' i' s')), .val (.int .i64 (Lib.compareBytes (hS k i s).data.toList (hS k' i' s').data.toList))] 15 (by kernel_rfl) ?_
  repeat
    (refine detL_val (by kernel_rfl) (yields_of rfl fun w1 hb1 => ?_) ?_
     · have hc1 := bcellD hb1
       clear hb1
       go_simp
       with_reducible first
         | exact Det1_same
         | exact Det1_enter (same_below (Tryz.cmp_Compare_int _ _ _))
         | exact Det1_enter (same_below (cmp64 _ _ _))
         | exact Det1_enter (same_below (Tryz.strings_Compare _ _ _))
     simp only [Act.put, List.setIfInBounds_toArray, List.set_cons_zero, List.set_cons_succ])
  refine detL_tail rfl (by kernel_rfl) fun w1 hw1 => ?_
  have hb1 := hW.below.drew.trans (hw1.below.mono hW.below.size)
  clear hw1 hk hi hs hk' hi' hs' hn0 hn1
  go_wp2_with (first
    | (go_at_call 89; refine (cmpOr _ (Lib.compareInt (hK k i s) (hK k' i' s')) (Lib.compareInt (hI k i s) (hI k' i' s')) (Lib.compareBytes (hS k i s).data.toList (hS k' i' s').data.toList) _ (by simp) (by simp) (by simp)).mono ?_; rintro e w3 ⟨rfl, rfl⟩))
  go_ret
  refine ⟨rfl, hb1.trans ?_⟩
  exact ((Below.refl _ _).alloc hb1.size _)

set_option maxRecDepth 100000 in
set_option maxHeartbeats 800000 in
theorem alike_any (k i : Int) (s : ByteArray) (k' i' : Int) (s' : ByteArray) (w : World) :
    Calls Tryz.prog 76 #[.agg #[.int .i64 k, .int .i64 i, .string s], .agg #[.int .i64 k', .int .i64 i', .string s']] w fun e w' => e = .returned (.bool (alikeB k i s k' i' s')) ∧ Below w.heap.size w w' := by
  go_enter Tryz.func76, Tryz.ntmps76
  go_wp2
  refine detL_begin [.val (.agg #[.int .i64 k, .int .i64 i, .string s]), .val (.agg #[.int .i64 (hK k i s), .int .i64 (hI k i s), .string (hS k i s)]), .val (.agg #[.int .i64 k', .int .i64 i', .string s']), .val (.agg #[.int .i64 (hK k' i' s'), .int .i64 (hI k' i' s'), .string (hS k' i' s')])] 4 (by kernel_rfl) ?_
  repeat
    (refine detL_val (by kernel_rfl) (yields_of rfl fun w1 hb1 => ?_) ?_
     · have hc1 := bcellD hb1
       clear hb1
       go_simp
       with_reducible first
         | exact Det1_same
         | exact Det1_enter (held_any _ _ _ _)
     simp only [Act.put, List.setIfInBounds_toArray, List.set_cons_zero, List.set_cons_succ])
  refine detL_tail rfl (by kernel_rfl) fun w1 hw1 => ?_
  have hb1 := hw1.below
  clear hw1
  have hc1 := (bcell hb1).1
  have hf1 := (bcell hb1).2
  have hy1 := hb1.size
  (try simp at hy1)
  have hz1_0 : w.heap.size < w1.heap.size := (by omega)
  have hz1_1 : w.heap.size + 1 < w1.heap.size := (by omega)
  go_upto_region 2 with (fail)
  refine wp_gen (Boxes w (hK k i s) (hI k i s) (hS k i s) (hK k' i' s') (hI k' i' s') (hS k' i' s')) (((Boxes.start w k i s k' i' s' 26 26).later hb1).store _ _ _ _ _ _) ?_
  intro W hW
  clear hc1 hf1 hb1 hy1 hz1_0 hz1_1
  have hk := hW.k
  have hi := hW.i
  have hs := hW.s
  have hk' := hW.k'
  have hi' := hW.i'
  have hs' := hW.s'
  have hn0 : w.heap.size < W.heap.size := by have := hW.size; omega
  have hn1 : w.heap.size + 1 < W.heap.size := by have := hW.size; omega
  go_wp2
  all_goals
    go_ret
    refine ⟨ret_bool ?_, hW.below⟩
    unfold alikeB
    simp_all

def b2i (b : Bool) : Int := if b then 1 else 0
theorem truth_any (b : Bool) (w : World) :
    Calls Tryz.prog 73 #[.bool b] w fun e w' => e = .returned (.agg #[.int .i64 3, .int .i64 (b2i b), .string ⟨#[]⟩]) ∧ Below w.heap.size w w' := by
  cases b with
  | true => exact truth_t w
  | false => exact truth_f w

set_option maxRecDepth 100000 in
set_option maxHeartbeats 800000 in
theorem equal_no (k i : Int) (s : ByteArray) (k' i' : Int) (s' : ByteArray) (w : World) (ha : alikeB k i s k' i' s' = false) :
    Calls Tryz.prog 51 #[.agg #[.int .i64 k, .int .i64 i, .string s], .agg #[.int .i64 k', .int .i64 i', .string s']] w fun e w' => e = .returned (.agg #[.int .i64 0, .int .i64 0, .string ⟨#[]⟩]) ∧ Below w.heap.size w w' := by
  have H := Lib.hid ha
  clear ha
  go_enter Tryz.func51, Tryz.ntmps51
  go_wp2_with (first
    | (go_at_call 76; refine ((alike_any _ _ _ _ _ _ _).mono (fun _ _ h => (H.out ▸ h : _ = Ending.returned (.bool false) ∧ _))).mono ?_; rintro e w1 ⟨rfl, hb1⟩; have hc1 := (bcell hb1).1; have hf1 := (bcell hb1).2; have hy1 := hb1.size; (try simp at hy1); have hz1_0 : w.heap.size < w1.heap.size := (by omega); have hz1_1 : w.heap.size + 1 < w1.heap.size := (by omega); have hz1_2 : w.heap.size + 1 + 1 < w1.heap.size := (by omega)))
  (refine bodyPost_ret (v := .agg #[.int .i64 0, .int .i64 0, .string ⟨#[]⟩]) ?_ rfl ⟨rfl, ?_⟩; (· (simp [results, Tryz.results51, go_sem, *]; done)))
  repeat (first | (with_reducible exact Below.refl _ _) | ((with_reducible refine cSet3 ?_ ?_ _ _ _); (· ((try simp) <;> omega))) | (with_reducible refine Below.drew ?_) | ((with_reducible refine cAlloc ?_ ?_ _); (· ((try simp) <;> omega))) | ((with_reducible refine cOn (by assumption) ?_ ?_); (· ((try simp) <;> omega))))

set_option maxRecDepth 100000 in
set_option maxHeartbeats 800000 in
theorem equal_yes (k i : Int) (s : ByteArray) (k' i' : Int) (s' : ByteArray) (w : World) (ha : alikeB k i s k' i' s' = true) :
    Calls Tryz.prog 51 #[.agg #[.int .i64 k, .int .i64 i, .string s], .agg #[.int .i64 k', .int .i64 i', .string s']] w fun e w' => e = .returned (.agg #[.int .i64 3, .int .i64 (b2i (ordN k i s k' i' s' == 0)), .string ⟨#[]⟩]) ∧ Below w.heap.size w w' := by
  have H := Lib.hid ha
  clear ha
  go_enter Tryz.func51, Tryz.ntmps51
  go_wp2_with (first
    | (go_at_call 76; refine ((alike_any _ _ _ _ _ _ _).mono (fun _ _ h => (H.out ▸ h : _ = Ending.returned (.bool true) ∧ _))).mono ?_; rintro e w1 ⟨rfl, hb1⟩; have hc1 := (bcell hb1).1; have hf1 := (bcell hb1).2; have hy1 := hb1.size; (try simp at hy1); have hz1_0 : w.heap.size < w1.heap.size := (by omega); have hz1_1 : w.heap.size + 1 < w1.heap.size := (by omega); have hz1_2 : w.heap.size + 1 + 1 < w1.heap.size := (by omega))
    | (go_at_call 77; refine (order_any _ _ _ _ _ _ _).mono ?_; rintro e w1 ⟨rfl, hb1⟩; have hc1 := (bcell hb1).1; have hf1 := (bcell hb1).2; have hy1 := hb1.size; (try simp at hy1); have hz1_0 : w.heap.size < w1.heap.size := (by omega); have hz1_1 : w.heap.size + 1 < w1.heap.size := (by omega); have hz1_2 : w.heap.size + 1 + 1 < w1.heap.size := (by omega))
    | (go_at_call 73; refine (truth_any _ _).mono ?_; rintro e w1 ⟨rfl, hb1⟩; have hc1 := (bcell hb1).1; have hf1 := (bcell hb1).2; have hy1 := hb1.size; (try simp at hy1); have hz1_0 : w.heap.size < w1.heap.size := (by omega); have hz1_1 : w.heap.size + 1 < w1.heap.size := (by omega); have hz1_2 : w.heap.size + 1 + 1 < w1.heap.size := (by omega)))
  (refine bodyPost_ret (v := .agg #[.int .i64 3, .int .i64 (b2i (ordN k i s k' i' s' == 0)), .string ⟨#[]⟩]) ?_ rfl ⟨rfl, ?_⟩; (· (simp [results, Tryz.results51, go_sem, *]; done)))
  repeat (first | (with_reducible exact Below.refl _ _) | ((with_reducible refine cSet3 ?_ ?_ _ _ _); (· ((try simp) <;> omega))) | (with_reducible refine Below.drew ?_) | ((with_reducible refine cAlloc ?_ ?_ _); (· ((try simp) <;> omega))) | ((with_reducible refine cOn (by assumption) ?_ ?_); (· ((try simp) <;> omega))))

set_option maxRecDepth 100000 in
set_option maxHeartbeats 800000 in
theorem less_no (k i : Int) (s : ByteArray) (k' i' : Int) (s' : ByteArray) (w : World) (ha : alikeB k i s k' i' s' = false) :
    Calls Tryz.prog 52 #[.agg #[.int .i64 k, .int .i64 i, .string s], .agg #[.int .i64 k', .int .i64 i', .string s']] w fun e w' => e = .returned (.agg #[.int .i64 0, .int .i64 0, .string ⟨#[]⟩]) ∧ Below w.heap.size w w' := by
  have H := Lib.hid ha
  clear ha
  go_enter Tryz.func52, Tryz.ntmps52
  go_wp2_with (first
    | (go_at_call 76; refine ((alike_any _ _ _ _ _ _ _).mono (fun _ _ h => (H.out ▸ h : _ = Ending.returned (.bool false) ∧ _))).mono ?_; rintro e w1 ⟨rfl, hb1⟩; have hc1 := (bcell hb1).1; have hf1 := (bcell hb1).2; have hy1 := hb1.size; (try simp at hy1); have hz1_0 : w.heap.size < w1.heap.size := (by omega); have hz1_1 : w.heap.size + 1 < w1.heap.size := (by omega); have hz1_2 : w.heap.size + 1 + 1 < w1.heap.size := (by omega)))
  (refine bodyPost_ret (v := .agg #[.int .i64 0, .int .i64 0, .string ⟨#[]⟩]) ?_ rfl ⟨rfl, ?_⟩; (· (simp [results, Tryz.results52, go_sem, *]; done)))
  repeat (first | (with_reducible exact Below.refl _ _) | ((with_reducible refine cSet3 ?_ ?_ _ _ _); (· ((try simp) <;> omega))) | (with_reducible refine Below.drew ?_) | ((with_reducible refine cAlloc ?_ ?_ _); (· ((try simp) <;> omega))) | ((with_reducible refine cOn (by assumption) ?_ ?_); (· ((try simp) <;> omega))))

set_option maxRecDepth 100000 in
set_option maxHeartbeats 800000 in
theorem less_yes (k i : Int) (s : ByteArray) (k' i' : Int) (s' : ByteArray) (w : World) (ha : alikeB k i s k' i' s' = true) :
    Calls Tryz.prog 52 #[.agg #[.int .i64 k, .int .i64 i, .string s], .agg #[.int .i64 k', .int .i64 i', .string s']] w fun e w' => e = .returned (.agg #[.int .i64 3, .int .i64 (b2i (decide (ordN k i s k' i' s' < 0))), .string ⟨#[]⟩]) ∧ Below w.heap.size w w' := by
  have H := Lib.hid ha
  clear ha
  go_enter Tryz.func52, Tryz.ntmps52
  go_wp2_with (first
    | (go_at_call 76; refine ((alike_any _ _ _ _ _ _ _).mono (fun _ _ h => (H.out ▸ h : _ = Ending.returned (.bool true) ∧ _))).mono ?_; rintro e w1 ⟨rfl, hb1⟩; have hc1 := (bcell hb1).1; have hf1 := (bcell hb1).2; have hy1 := hb1.size; (try simp at hy1); have hz1_0 : w.heap.size < w1.heap.size := (by omega); have hz1_1 : w.heap.size + 1 < w1.heap.size := (by omega); have hz1_2 : w.heap.size + 1 + 1 < w1.heap.size := (by omega))
    | (go_at_call 77; refine (order_any _ _ _ _ _ _ _).mono ?_; rintro e w1 ⟨rfl, hb1⟩; have hc1 := (bcell hb1).1; have hf1 := (bcell hb1).2; have hy1 := hb1.size; (try simp at hy1); have hz1_0 : w.heap.size < w1.heap.size := (by omega); have hz1_1 : w.heap.size + 1 < w1.heap.size := (by omega); have hz1_2 : w.heap.size + 1 + 1 < w1.heap.size := (by omega))
    | (go_at_call 73; refine (truth_any _ _).mono ?_; rintro e w1 ⟨rfl, hb1⟩; have hc1 := (bcell hb1).1; have hf1 := (bcell hb1).2; have hy1 := hb1.size; (try simp at hy1); have hz1_0 : w.heap.size < w1.heap.size := (by omega); have hz1_1 : w.heap.size + 1 < w1.heap.size := (by omega); have hz1_2 : w.heap.size + 1 + 1 < w1.heap.size := (by omega)))
  (refine bodyPost_ret (v := .agg #[.int .i64 3, .int .i64 (b2i (decide (ordN k i s k' i' s' < 0))), .string ⟨#[]⟩]) ?_ rfl ⟨rfl, ?_⟩; (· (simp [results, Tryz.results52, go_sem, *]; done)))
  repeat (first | (with_reducible exact Below.refl _ _) | ((with_reducible refine cSet3 ?_ ?_ _ _ _); (· ((try simp) <;> omega))) | (with_reducible refine Below.drew ?_) | ((with_reducible refine cAlloc ?_ ?_ _); (· ((try simp) <;> omega))) | ((with_reducible refine cOn (by assumption) ?_ ?_); (· ((try simp) <;> omega))))

def numsB (k i : Int) (s : ByteArray) (k' i' : Int) (s' : ByteArray) : Bool := ((hK k i s) == 1) && ((hK k' i' s') == 1)

set_option maxRecDepth 100000 in
set_option maxHeartbeats 800000 in
theorem numbers_any (k i : Int) (s : ByteArray) (k' i' : Int) (s' : ByteArray) (w : World) :
    Calls Tryz.prog 78 #[.agg #[.int .i64 k, .int .i64 i, .string s], .agg #[.int .i64 k', .int .i64 i', .string s']] w fun e w' => e = .returned (.bool (numsB k i s k' i' s')) ∧ Below w.heap.size w w' := by
  unfold numsB
  have hfl := fld0
  cases h1 : (hK k i s == 1) with
  | true =>
    rw [Bool.true_and]
    go_enter Tryz.func78, Tryz.ntmps78
    go_wp2_with (first
    | (go_at_call 74; refine (held_any _ _ _ _).mono ?_; rintro e w1 ⟨rfl, hb1⟩; have hc1 := (bcell hb1).1; have hf1 := (bcell hb1).2; have hy1 := hb1.size; (try simp at hy1); have hz1_0 : w.heap.size < w1.heap.size := (by omega); have hz1_1 : w.heap.size + 1 < w1.heap.size := (by omega)))
    all_goals
      go_ret
      refine ⟨rfl, ?_⟩
      repeat (first | (with_reducible exact Below.refl _ _) | ((with_reducible refine cSet3 ?_ ?_ _ _ _); (· ((try simp) <;> omega))) | (with_reducible refine Below.drew ?_) | ((with_reducible refine cAlloc ?_ ?_ _); (· ((try simp) <;> omega))) | ((with_reducible refine cOn (by assumption) ?_ ?_); (· ((try simp) <;> omega))))
  | false =>
    rw [Bool.false_and]
    go_enter Tryz.func78, Tryz.ntmps78
    go_wp2_with (first
    | (go_at_call 74; refine (held_any _ _ _ _).mono ?_; rintro e w1 ⟨rfl, hb1⟩; have hc1 := (bcell hb1).1; have hf1 := (bcell hb1).2; have hy1 := hb1.size; (try simp at hy1); have hz1_0 : w.heap.size < w1.heap.size := (by omega); have hz1_1 : w.heap.size + 1 < w1.heap.size := (by omega)))
    all_goals
      go_ret
      refine ⟨rfl, ?_⟩
      repeat (first | (with_reducible exact Below.refl _ _) | ((with_reducible refine cSet3 ?_ ?_ _ _ _); (· ((try simp) <;> omega))) | (with_reducible refine Below.drew ?_) | ((with_reducible refine cAlloc ?_ ?_ _); (· ((try simp) <;> omega))) | ((with_reducible refine cOn (by assumption) ?_ ?_); (· ((try simp) <;> omega))))

def badPlus (i i' : Int) : Bool := !(decide (i < wrap64 (i + i')) == decide (0 < i'))
def badMinus (i i' : Int) : Bool := !(decide (wrap64 (i - i') < i) == decide (0 < i'))

set_option maxRecDepth 100000 in
set_option maxHeartbeats 800000 in
theorem plus_no (k i : Int) (s : ByteArray) (k' i' : Int) (s' : ByteArray) (w : World) (ha : numsB k i s k' i' s' = false) :
    Calls Tryz.prog 53 #[.agg #[.int .i64 k, .int .i64 i, .string s], .agg #[.int .i64 k', .int .i64 i', .string s']] w fun e w' => e = .returned (.agg #[.int .i64 0, .int .i64 0, .string ⟨#[]⟩]) ∧ Below w.heap.size w w' := by
  have H := Lib.hid ha
  clear ha
  go_enter Tryz.func53, Tryz.ntmps53
  go_wp2_with (first
    | (go_at_call 78; refine ((numbers_any _ _ _ _ _ _ _).mono (fun _ _ h => (H.out ▸ h : _ = Ending.returned (.bool false) ∧ _))).mono ?_; rintro e w1 ⟨rfl, hb1⟩; have hc1 := (bcell hb1).1; have hf1 := (bcell hb1).2; have hy1 := hb1.size; (try simp at hy1); have hz1_0 : w.heap.size < w1.heap.size := (by omega); have hz1_1 : w.heap.size + 1 < w1.heap.size := (by omega); have hz1_2 : w.heap.size + 1 + 1 < w1.heap.size := (by omega)))
  (refine bodyPost_ret (v := .agg #[.int .i64 0, .int .i64 0, .string ⟨#[]⟩]) ?_ rfl ⟨rfl, ?_⟩; (· (simp [results, Tryz.results53, go_sem, *]; done)))
  repeat (first | (with_reducible exact Below.refl _ _) | ((with_reducible refine cSet3 ?_ ?_ _ _ _); (· ((try simp) <;> omega))) | (with_reducible refine Below.drew ?_) | ((with_reducible refine cAlloc ?_ ?_ _); (· ((try simp) <;> omega))) | ((with_reducible refine cOn (by assumption) ?_ ?_); (· ((try simp) <;> omega))))

set_option maxRecDepth 100000 in
set_option maxHeartbeats 800000 in
theorem plus_bad (k i : Int) (s : ByteArray) (k' i' : Int) (s' : ByteArray) (w : World) (ha : numsB k i s k' i' s' = true) (hb : badPlus i i' = true) :
    Calls Tryz.prog 53 #[.agg #[.int .i64 k, .int .i64 i, .string s], .agg #[.int .i64 k', .int .i64 i', .string s']] w fun e w' => e = .returned (.agg #[.int .i64 0, .int .i64 0, .string ⟨#[]⟩]) ∧ Below w.heap.size w w' := by
  have H := Lib.hid ha
  have HB := Lib.hid hb
  clear ha hb
  go_enter Tryz.func53, Tryz.ntmps53
  go_wp2_with (first
    | (go_at_call 78; refine ((numbers_any _ _ _ _ _ _ _).mono (fun _ _ h => (H.out ▸ h : _ = Ending.returned (.bool true) ∧ _))).mono ?_; rintro e w1 ⟨rfl, hb1⟩; have hc1 := (bcell hb1).1; have hf1 := (bcell hb1).2; have hy1 := hb1.size; (try simp at hy1); have hz1_0 : w.heap.size < w1.heap.size := (by omega); have hz1_1 : w.heap.size + 1 < w1.heap.size := (by omega); have hz1_2 : w.heap.size + 1 + 1 < w1.heap.size := (by omega)))
  all_goals first
    | (exfalso
       have h1 : (!(decide (i < wrap64 (i + i')) == decide (0 < i'))) = false := by assumption
       have h2 := HB.out
       unfold badPlus at h2
       rw [h1] at h2
       cases h2)
    | ((refine bodyPost_ret (v := .agg #[.int .i64 0, .int .i64 0, .string ⟨#[]⟩]) ?_ rfl ⟨rfl, ?_⟩; (· (simp [results, Tryz.results53, go_sem, *]; done)))
       repeat (first | (with_reducible exact Below.refl _ _) | ((with_reducible refine cSet3 ?_ ?_ _ _ _); (· ((try simp) <;> omega))) | (with_reducible refine Below.drew ?_) | ((with_reducible refine cAlloc ?_ ?_ _); (· ((try simp) <;> omega))) | ((with_reducible refine cOn (by assumption) ?_ ?_); (· ((try simp) <;> omega)))))

set_option maxRecDepth 100000 in
set_option maxHeartbeats 800000 in
theorem plus_yes (k i : Int) (s : ByteArray) (k' i' : Int) (s' : ByteArray) (w : World) (ha : numsB k i s k' i' s' = true) (hb : badPlus i i' = false) :
    Calls Tryz.prog 53 #[.agg #[.int .i64 k, .int .i64 i, .string s], .agg #[.int .i64 k', .int .i64 i', .string s']] w fun e w' => e = .returned (.agg #[.int .i64 1, .int .i64 (wrap64 (i + i')), .string ⟨#[]⟩]) ∧ Below w.heap.size w w' := by
  have H := Lib.hid ha
  have HB := Lib.hid hb
  clear ha hb
  go_enter Tryz.func53, Tryz.ntmps53
  go_wp2_with (first
    | (go_at_call 78; refine ((numbers_any _ _ _ _ _ _ _).mono (fun _ _ h => (H.out ▸ h : _ = Ending.returned (.bool true) ∧ _))).mono ?_; rintro e w1 ⟨rfl, hb1⟩; have hc1 := (bcell hb1).1; have hf1 := (bcell hb1).2; have hy1 := hb1.size; (try simp at hy1); have hz1_0 : w.heap.size < w1.heap.size := (by omega); have hz1_1 : w.heap.size + 1 < w1.heap.size := (by omega); have hz1_2 : w.heap.size + 1 + 1 < w1.heap.size := (by omega)))
  all_goals first
    | (exfalso
       have h1 : (!(decide (i < wrap64 (i + i')) == decide (0 < i'))) = true := by assumption
       have h2 := HB.out
       unfold badPlus at h2
       rw [h1] at h2
       cases h2)
    | ((refine bodyPost_ret (v := .agg #[.int .i64 1, .int .i64 (wrap64 (i + i')), .string ⟨#[]⟩]) ?_ rfl ⟨rfl, ?_⟩; (· (simp [results, Tryz.results53, go_sem, *]; done)))
       repeat (first | (with_reducible exact Below.refl _ _) | ((with_reducible refine cSet3 ?_ ?_ _ _ _); (· ((try simp) <;> omega))) | (with_reducible refine Below.drew ?_) | ((with_reducible refine cAlloc ?_ ?_ _); (· ((try simp) <;> omega))) | ((with_reducible refine cOn (by assumption) ?_ ?_); (· ((try simp) <;> omega)))))

set_option maxRecDepth 100000 in
set_option maxHeartbeats 800000 in
theorem minus_no (k i : Int) (s : ByteArray) (k' i' : Int) (s' : ByteArray) (w : World) (ha : numsB k i s k' i' s' = false) :
    Calls Tryz.prog 54 #[.agg #[.int .i64 k, .int .i64 i, .string s], .agg #[.int .i64 k', .int .i64 i', .string s']] w fun e w' => e = .returned (.agg #[.int .i64 0, .int .i64 0, .string ⟨#[]⟩]) ∧ Below w.heap.size w w' := by
  have H := Lib.hid ha
  clear ha
  go_enter Tryz.func54, Tryz.ntmps54
  go_wp2_with (first
    | (go_at_call 78; refine ((numbers_any _ _ _ _ _ _ _).mono (fun _ _ h => (H.out ▸ h : _ = Ending.returned (.bool false) ∧ _))).mono ?_; rintro e w1 ⟨rfl, hb1⟩; have hc1 := (bcell hb1).1; have hf1 := (bcell hb1).2; have hy1 := hb1.size; (try simp at hy1); have hz1_0 : w.heap.size < w1.heap.size := (by omega); have hz1_1 : w.heap.size + 1 < w1.heap.size := (by omega); have hz1_2 : w.heap.size + 1 + 1 < w1.heap.size := (by omega)))
  (refine bodyPost_ret (v := .agg #[.int .i64 0, .int .i64 0, .string ⟨#[]⟩]) ?_ rfl ⟨rfl, ?_⟩; (· (simp [results, Tryz.results54, go_sem, *]; done)))
  repeat (first | (with_reducible exact Below.refl _ _) | ((with_reducible refine cSet3 ?_ ?_ _ _ _); (· ((try simp) <;> omega))) | (with_reducible refine Below.drew ?_) | ((with_reducible refine cAlloc ?_ ?_ _); (· ((try simp) <;> omega))) | ((with_reducible refine cOn (by assumption) ?_ ?_); (· ((try simp) <;> omega))))

set_option maxRecDepth 100000 in
set_option maxHeartbeats 800000 in
theorem minus_bad (k i : Int) (s : ByteArray) (k' i' : Int) (s' : ByteArray) (w : World) (ha : numsB k i s k' i' s' = true) (hb : badMinus i i' = true) :
    Calls Tryz.prog 54 #[.agg #[.int .i64 k, .int .i64 i, .string s], .agg #[.int .i64 k', .int .i64 i', .string s']] w fun e w' => e = .returned (.agg #[.int .i64 0, .int .i64 0, .string ⟨#[]⟩]) ∧ Below w.heap.size w w' := by
  have H := Lib.hid ha
  have HB := Lib.hid hb
  clear ha hb
  go_enter Tryz.func54, Tryz.ntmps54
  go_wp2_with (first
    | (go_at_call 78; refine ((numbers_any _ _ _ _ _ _ _).mono (fun _ _ h => (H.out ▸ h : _ = Ending.returned (.bool true) ∧ _))).mono ?_; rintro e w1 ⟨rfl, hb1⟩; have hc1 := (bcell hb1).1; have hf1 := (bcell hb1).2; have hy1 := hb1.size; (try simp at hy1); have hz1_0 : w.heap.size < w1.heap.size := (by omega); have hz1_1 : w.heap.size + 1 < w1.heap.size := (by omega); have hz1_2 : w.heap.size + 1 + 1 < w1.heap.size := (by omega)))
  all_goals first
    | (exfalso
       have h1 : (!(decide (wrap64 (i - i') < i) == decide (0 < i'))) = false := by assumption
       have h2 := HB.out
       unfold badMinus at h2
       rw [h1] at h2
       cases h2)
    | ((refine bodyPost_ret (v := .agg #[.int .i64 0, .int .i64 0, .string ⟨#[]⟩]) ?_ rfl ⟨rfl, ?_⟩; (· (simp [results, Tryz.results54, go_sem, *]; done)))
       repeat (first | (with_reducible exact Below.refl _ _) | ((with_reducible refine cSet3 ?_ ?_ _ _ _); (· ((try simp) <;> omega))) | (with_reducible refine Below.drew ?_) | ((with_reducible refine cAlloc ?_ ?_ _); (· ((try simp) <;> omega))) | ((with_reducible refine cOn (by assumption) ?_ ?_); (· ((try simp) <;> omega)))))

set_option maxRecDepth 100000 in
set_option maxHeartbeats 800000 in
theorem minus_yes (k i : Int) (s : ByteArray) (k' i' : Int) (s' : ByteArray) (w : World) (ha : numsB k i s k' i' s' = true) (hb : badMinus i i' = false) :
    Calls Tryz.prog 54 #[.agg #[.int .i64 k, .int .i64 i, .string s], .agg #[.int .i64 k', .int .i64 i', .string s']] w fun e w' => e = .returned (.agg #[.int .i64 1, .int .i64 (wrap64 (i - i')), .string ⟨#[]⟩]) ∧ Below w.heap.size w w' := by
  have H := Lib.hid ha
  have HB := Lib.hid hb
  clear ha hb
  go_enter Tryz.func54, Tryz.ntmps54
  go_wp2_with (first
    | (go_at_call 78; refine ((numbers_any _ _ _ _ _ _ _).mono (fun _ _ h => (H.out ▸ h : _ = Ending.returned (.bool true) ∧ _))).mono ?_; rintro e w1 ⟨rfl, hb1⟩; have hc1 := (bcell hb1).1; have hf1 := (bcell hb1).2; have hy1 := hb1.size; (try simp at hy1); have hz1_0 : w.heap.size < w1.heap.size := (by omega); have hz1_1 : w.heap.size + 1 < w1.heap.size := (by omega); have hz1_2 : w.heap.size + 1 + 1 < w1.heap.size := (by omega)))
  all_goals first
    | (exfalso
       have h1 : (!(decide (wrap64 (i - i') < i) == decide (0 < i'))) = true := by assumption
       have h2 := HB.out
       unfold badMinus at h2
       rw [h1] at h2
       cases h2)
    | ((refine bodyPost_ret (v := .agg #[.int .i64 1, .int .i64 (wrap64 (i - i')), .string ⟨#[]⟩]) ?_ rfl ⟨rfl, ?_⟩; (· (simp [results, Tryz.results54, go_sem, *]; done)))
       repeat (first | (with_reducible exact Below.refl _ _) | ((with_reducible refine cSet3 ?_ ?_ _ _ _); (· ((try simp) <;> omega))) | (with_reducible refine Below.drew ?_) | ((with_reducible refine cAlloc ?_ ?_ _); (· ((try simp) <;> omega))) | ((with_reducible refine cOn (by assumption) ?_ ?_); (· ((try simp) <;> omega)))))

set_option maxRecDepth 100000 in
set_option maxHeartbeats 800000 in
theorem isNull_any (k i : Int) (s : ByteArray) (w : World) :
    Calls Tryz.prog 47 #[.agg #[.int .i64 k, .int .i64 i, .string s]] w fun e w' => e = .returned (.agg #[.int .i64 3, .int .i64 (b2i ((hK k i s) == 0)), .string ⟨#[]⟩]) ∧ Below w.heap.size w w' := by
  have hfl := fld0
  go_enter Tryz.func47, Tryz.ntmps47
  go_wp2_with (first
    | (go_at_call 74; refine (held_any _ _ _ _).mono ?_; rintro e w1 ⟨rfl, hb1⟩; have hc1 := (bcell hb1).1; have hf1 := (bcell hb1).2; have hy1 := hb1.size; (try simp at hy1); have hz1_0 : w.heap.size < w1.heap.size := (by omega); have hz1_1 : w.heap.size + 1 < w1.heap.size := (by omega))
    | (go_at_call 73; refine (truth_any _ _).mono ?_; rintro e w1 ⟨rfl, hb1⟩; have hc1 := (bcell hb1).1; have hf1 := (bcell hb1).2; have hy1 := hb1.size; (try simp at hy1); have hz1_0 : w.heap.size < w1.heap.size := (by omega); have hz1_1 : w.heap.size + 1 < w1.heap.size := (by omega)))
  (refine bodyPost_ret (v := .agg #[.int .i64 3, .int .i64 (b2i ((hK k i s) == 0)), .string ⟨#[]⟩]) ?_ rfl ⟨rfl, ?_⟩; (· (simp [results, Tryz.results47, go_sem, *]; done)))
  repeat (first | (with_reducible exact Below.refl _ _) | ((with_reducible refine cSet3 ?_ ?_ _ _ _); (· ((try simp) <;> omega))) | (with_reducible refine Below.drew ?_) | ((with_reducible refine cAlloc ?_ ?_ _); (· ((try simp) <;> omega))) | ((with_reducible refine cOn (by assumption) ?_ ?_); (· ((try simp) <;> omega))))

end Go.Proofs.YtchebhdndkaheaaGreatDoor

/- The chapter's examples (awake), and Few. -/
namespace Go.Proofs.YtchebhdndkaheaaGreatDoor
open Go.RowKit Go.Lib

theorem may_int (i : Int) : mayB 1 i ⟨#[]⟩ = true := by simp [mayB, nilBytes]
def fewS (s : ByteArray) : ByteArray := if 60 < s.size then s.extract 0 60 else s
set_option maxRecDepth 100000 in
set_option maxHeartbeats 800000 in
theorem few_any (k i : Int) (s : ByteArray) (w : World) (hs : s.size ≤ maxLen) :
    Calls Tryz.prog 14 #[.agg #[.int .i64 k, .int .i64 i, .string s]] w fun e w' => e = .returned (.agg #[.int .i64 k, .int .i64 i, .string (fewS s)]) ∧ Below w.heap.size w w' := by
  unfold maxLen at hs
  go_enter Tryz.func14, Tryz.ntmps14
  go_wp2
  · have e : fewS s = s.extract 0 60 := if_pos (by omega)
    rw [e]
    (refine bodyPost_ret (v := .agg #[.int .i64 k, .int .i64 i, .string (s.extract 0 60)]) ?_ rfl ⟨rfl, ?_⟩; (· (simp [results, Tryz.results14, go_sem]; done)))
    repeat (first | (with_reducible exact Below.refl _ _) | ((with_reducible refine cSet3 ?_ ?_ _ _ _); (· ((try simp) <;> omega))) | (with_reducible refine Below.drew ?_) | ((with_reducible refine cAlloc ?_ ?_ _); (· ((try simp) <;> omega))) | ((with_reducible refine cOn (by assumption) ?_ ?_); (· ((try simp) <;> omega))))
  · have e : fewS s = s := if_neg (by omega)
    rw [e]
    (refine bodyPost_ret (v := .agg #[.int .i64 k, .int .i64 i, .string s]) ?_ rfl ⟨rfl, ?_⟩; (· (simp [results, Tryz.results14, go_sem]; done)))
    repeat (first | (with_reducible exact Below.refl _ _) | ((with_reducible refine cSet3 ?_ ?_ _ _ _); (· ((try simp) <;> omega))) | (with_reducible refine Below.drew ?_) | ((with_reducible refine cAlloc ?_ ?_ _); (· ((try simp) <;> omega))) | ((with_reducible refine cOn (by assumption) ?_ ?_); (· ((try simp) <;> omega))))

end Go.Proofs.YtchebhdndkaheaaGreatDoor

/- Boxes that hold values, however many; what the laws' walks carry from region to region. -/
namespace Go.Proofs.YtchebhdndkaheaaGreatDoor
open Go.RowKit Go.Lib

/-- Block b holds this value. -/
structure At3 (W : World) (b : Nat) (k i : Int) (s : ByteArray) : Prop where
  k : W.cell? ⟨b, 0, none⟩ = some (.int .i64 k)
  i : W.cell? ⟨b, 1, none⟩ = some (.int .i64 i)
  s : W.cell? ⟨b, 2, none⟩ = some (.string s)

theorem At3.lt {W : World} {b : Nat} {k i : Int} {s : ByteArray} (h : At3 W b k i s) : b < W.heap.size := World.block_lt_of_cell? W _ h.k
theorem At3.later {W W' : World} {b : Nat} {k i : Int} {s : ByteArray} (h : At3 W b k i s) (hb : Below W.heap.size W W') : At3 W' b k i s :=
  ⟨(hb.cell (p := ⟨b, _, none⟩) h.lt).trans h.k, (hb.cell (p := ⟨b, _, none⟩) h.lt).trans h.i, (hb.cell (p := ⟨b, _, none⟩) h.lt).trans h.s⟩
theorem At3.drew {W : World} {b : Nat} {k i : Int} {s : ByteArray} (h : At3 W b k i s) : At3 W.drew b k i s := ⟨h.k, h.i, h.s⟩
theorem At3.alloc {W : World} {b : Nat} {k i : Int} {s : ByteArray} (h : At3 W b k i s) (o : Obj) : At3 (W.alloc o) b k i s := h.later ((Below.refl _ _).alloc (Nat.le_refl _) o)
theorem At3.new {W : World} {b : Nat} {k i : Int} {s : ByteArray} {t : TypeId} (hb : b = W.heap.size) : At3 (W.alloc (.cells #[.int .i64 k, .int .i64 i, .string s] t)) b k i s := by
  subst hb
  exact ⟨by simp [go_sem], by simp [go_sem], by simp [go_sem]⟩
theorem At3.set_same {W : World} {b : Nat} {k i : Int} {s : ByteArray} (h : At3 W b k i s) (K I : Int) (S : ByteArray) :
    At3 (((W.setCell ⟨b, 0, none⟩ (.int .i64 K)).setCell ⟨b, 1, none⟩ (.int .i64 I)).setCell ⟨b, 2, none⟩ (.string S)) b K I S := by
  have h1 := h.k
  have h2 := h.i
  have h3 := h.s
  exact ⟨by simp [go_sem, *], by simp [go_sem, *], by simp [go_sem, *]⟩
/-- Block b holds some value. -/
def Box (W : World) (b : Nat) : Prop := ∃ k i s, At3 W b k i s
theorem Box.of {W : World} {b : Nat} {k i : Int} {s : ByteArray} (h : At3 W b k i s) : Box W b := ⟨_, _, _, h⟩
theorem Box.drew {W : World} {b : Nat} (h : Box W b) : Box W.drew b := by obtain ⟨_, _, _, h⟩ := h; exact .of h.drew
theorem Box.alloc {W : World} {b : Nat} (h : Box W b) (o : Obj) : Box (W.alloc o) b := by obtain ⟨_, _, _, h⟩ := h; exact .of (h.alloc o)
theorem Box.set {W : World} {b : Nat} (h : Box W b) (K I : Int) (S : ByteArray) : At3 (((W.setCell ⟨b, 0, none⟩ (.int .i64 K)).setCell ⟨b, 1, none⟩ (.int .i64 I)).setCell ⟨b, 2, none⟩ (.string S)) b K I S := by
  obtain ⟨_, _, _, h⟩ := h; exact h.set_same K I S
end Go.Proofs.YtchebhdndkaheaaGreatDoor

/- What is known of the order of values, with no walk. -/
namespace Go.Proofs.YtchebhdndkaheaaGreatDoor
open Go.RowKit Go.Lib

end Go.Proofs.YtchebhdndkaheaaGreatDoor

/- The order of values goes on from one to the next; the same are equal. No walk. -/
namespace Go.Proofs.YtchebhdndkaheaaGreatDoor
open Go.RowKit Go.Lib

end Go.Proofs.YtchebhdndkaheaaGreatDoor

/- Sums and differences of 64 bits: what is known of them with no walk. -/
namespace Go.Proofs.YtchebhdndkaheaaGreatDoor
open Go.RowKit Go.Lib

def In64 (a : Int) : Prop := -9223372036854775808 ≤ a ∧ a ≤ 9223372036854775807
theorem wrap_in {n : Int} (h : In64 n) : wrap64 n = n := IntWalk.wrap64_in n ⟨h.1, h.2⟩
theorem in64_of_wf {a : Int} (h : (Lit.int .i64 a).wf = true) : In64 a := by
  simp only [Lit.wf, IntKind.min, IntKind.max, IntKind.signed, IntKind.bits, Bool.and_eq_true, decide_eq_true_eq, if_true] at h
  unfold In64; omega

end Go.Proofs.YtchebhdndkaheaaGreatDoor

/- The octets of a text that may be; the document's own May and good. -/
namespace Go.Proofs.YtchebhdndkaheaaGreatDoor
open Go.RowKit Go.Lib

def okO (c : UInt8) : Bool := decide (32 ≤ c.toNat) && decide (c.toNat ≤ 126)
def allO (s : ByteArray) : Bool := s.data.toList.all okO
/-- The first n octets are those of a text. -/
def okTo (s : ByteArray) (n : Nat) : Prop := ∀ j, j < n → okO (s.get! j) = true

theorem decode_lo (s : ByteArray) (i : Nat) (h : (s.get! i).toNat < 128) : Utf8.decode s i = ((s.get! i).toNat, 1) := by
  rw [decode_at, decodeN, if_pos h]
theorem decode_hi (s : ByteArray) (i : Nat) (h : 128 ≤ (s.get! i).toNat) : 128 ≤ (Utf8.decode s i).1 := by
  rw [decode_at]
  unfold decodeN
  repeat' split
  all_goals (simp only; omega)
theorem out_ok (s : ByteArray) (i : Nat) : outP (Utf8.decode s i).1 = !okO (s.get! i) := by
  unfold outP okO
  by_cases h : (s.get! i).toNat < 128
  · rw [decode_lo s i h]
    generalize (s.get! i).toNat = n
    rw [Bool.eq_iff_iff]; simp; omega
  · have := decode_hi s i (by omega)
    rw [Bool.eq_iff_iff]; simp; omega
theorem idx_out (s : ByteArray) : ∀ (f pos : Nat), s.size ≤ pos + f → (0 ≤ Lib.idxFuncFrom outP true s f pos ↔ ∃ j, pos ≤ j ∧ j < s.size ∧ okO (s.get! j) = false)
  | 0, pos, h => by simp [Lib.idxFuncFrom]; omega
  | f + 1, pos, h => by
    rw [Lib.idxFuncFrom]
    by_cases hp : pos < s.size
    · rw [if_pos hp]
      cases ho : okO (s.get! pos) with
      | false => rw [out_ok, ho]; simp only [Bool.not_false, if_true]; exact ⟨fun _ => ⟨pos, Nat.le_refl _, hp, ho⟩, fun _ => by omega⟩
      | true =>
        have hlo : (s.get! pos).toNat < 128 := by unfold okO at ho; simp at ho; omega
        rw [out_ok, ho]
        simp only [Bool.not_true, Bool.false_eq_true, if_false]
        rw [decode_lo s pos hlo, idx_out s f (pos + 1) (by omega)]
        constructor
        · rintro ⟨j, h1, h2, h3⟩; exact ⟨j, by omega, h2, h3⟩
        · rintro ⟨j, h1, h2, h3⟩
          refine ⟨j, ?_, h2, h3⟩
          by_cases hj : j = pos
          · subst hj; rw [ho] at h3; cases h3
          · omega
    · rw [if_neg hp]
      constructor
      · intro h; omega
      · rintro ⟨j, h1, h2, _⟩; omega
theorem allO_iff (s : ByteArray) : allO s = true ↔ okTo s s.size := by
  unfold allO okTo
  rw [List.all_eq_true]
  constructor
  · intro h j hj
    refine h _ ?_
    have : s.get! j = s.data[j]'hj := by simp [ByteArray.get!, hj]
    rw [this]; simp
  · intro h x hx
    obtain ⟨j, hj, rfl⟩ := List.getElem_of_mem hx
    have hj' : j < s.size := by simpa using hj
    have := h j hj'
    rw [show s.get! j = s.data[j]'hj' by simp [ByteArray.get!, hj']] at this
    simpa using this
theorem txt_all (s : ByteArray) : txtB s = allO s := by
  unfold txtB Lib.idxFunc
  have h := idx_out s s.size 0 (by omega)
  cases ha : allO s with
  | true =>
    have ho := (allO_iff s).1 ha
    have : ¬ (0 ≤ Lib.idxFuncFrom outP true s s.size 0) := fun h' => by
      obtain ⟨j, _, hj, hf⟩ := h.1 h'
      rw [ho j hj] at hf; cases hf
    simp [this]
  | false =>
    have : 0 ≤ Lib.idxFuncFrom outP true s s.size 0 := by
      refine h.2 (Classical.byContradiction fun hn => ?_)
      have : allO s = true := (allO_iff s).2 fun j hj => by
        cases ho : okO (s.get! j) with
        | true => rfl
        | false => exact absurd ⟨j, Nat.zero_le _, hj, ho⟩ hn
      rw [ha] at this; cases this
    simp [this]

theorem toList_data (s : ByteArray) : s.toList = s.data.toList := ByteArray.toList_eq s
end Go.Proofs.YtchebhdndkaheaaGreatDoor

/- The document's own good, apart, Order, Equal, Less, Plus, Minus, Truth. -/
namespace Go.Proofs.YtchebhdndkaheaaGreatDoor
open Go.RowKit Go.Lib

end Go.Proofs.YtchebhdndkaheaaGreatDoor

/- Rows of values in memory: Few. -/
namespace Go.Proofs.YtchebhdndkaheaaGreatDoor
open Go.RowKit Go.Lib

structure Vl where
  k : Int
  i : Int
  s : ByteArray
def Vl.few (x : Vl) : Vl := ⟨x.k, x.i, fewS x.s⟩
def Vl.cells (x : Vl) : List Value := [.int .i64 x.k, .int .i64 x.i, .string x.s]
def cellsOf (l : List Vl) : List Value := l.flatMap Vl.cells

/-- Value x lies at this address. -/
structure VlAt (W : World) (a : Addr) (x : Vl) : Prop where
  k : W.cell? a = some (.int .i64 x.k)
  i : W.cell? ⟨a.block, a.off + 1, none⟩ = some (.int .i64 x.i)
  s : W.cell? ⟨a.block, a.off + 2, none⟩ = some (.string x.s)

theorem VlAt.keep {W W' : World} {a : Addr} {x : Vl} {B : Nat} (h : VlAt W a x) (hb : Below B W W') (hB : a.block < B) : VlAt W' a x :=
  ⟨(hb.cell hB).trans h.k, (hb.cell (p := ⟨a.block, _, none⟩) hB).trans h.i, (hb.cell (p := ⟨a.block, _, none⟩) hB).trans h.s⟩

/-- The slice of n elements at A reads as these values; it lies below block B. -/
def Vals (W : World) (B : Nat) (A : Option Addr) (n : Nat) (l : List Vl) : Prop :=
  l.length = n ∧ ∀ j (h : j < l.length), ∃ a, A = some a ∧ VlAt W (a.add (j * 3)) l[j] ∧ a.block < B

theorem add_block (a : Addr) (n : Nat) : (a.add n).block = a.block := by unfold Addr.add; split <;> rfl
theorem Vals.keep {W W' : World} {B : Nat} {A : Option Addr} {n : Nat} {l : List Vl} (h : Vals W B A n l) (hb : Below B W W') : Vals W' B A n l :=
  ⟨h.1, fun j hj => by
    obtain ⟨a, e, h1, h2⟩ := h.2 j hj
    exact ⟨a, e, h1.keep hb (by rw [add_block]; exact h2), h2⟩⟩
theorem Vals.more {W : World} {B B' : Nat} {A : Option Addr} {n : Nat} {l : List Vl} (h : Vals W B A n l) (hB : B ≤ B') : Vals W B' A n l :=
  ⟨h.1, fun j hj => by
    obtain ⟨a, e, h1, h2⟩ := h.2 j hj
    exact ⟨a, e, h1, by omega⟩⟩
theorem Vals.at_ {W : World} {B : Nat} {A : Option Addr} {n : Nat} {l : List Vl} (h : Vals W B A n l) {k : Nat} (hk : k < n) : ∃ a x, A = some a ∧ l[k]? = some x ∧ VlAt W (a.add (k * 3)) x ∧ a.block < B := by
  obtain ⟨h1, h2⟩ := h
  obtain ⟨a, e, h3, h4⟩ := h2 k (by omega)
  exact ⟨a, l[k]'(by omega), e, List.getElem?_eq_getElem _, h3, h4⟩

theorem cells_len (l : List Vl) : (cellsOf l).length = l.length * 3 := by
  induction l with
  | nil => rfl
  | cons x l ih => simp only [cellsOf, List.flatMap_cons, List.length_append] at ih ⊢; rw [ih]; simp [Vl.cells]; omega
theorem cells_snoc (l : List Vl) (x : Vl) : cellsOf (l ++ [x]) = cellsOf l ++ x.cells := by simp [cellsOf]
theorem cells_app (l r : List Vl) : cellsOf (l ++ r) = cellsOf l ++ cellsOf r := by simp [cellsOf]
theorem cells_at (l : List Vl) : ∀ j (h : j < l.length), (cellsOf l)[j * 3]? = some (.int .i64 l[j].k) ∧ (cellsOf l)[j * 3 + 1]? = some (.int .i64 l[j].i) ∧ (cellsOf l)[j * 3 + 2]? = some (.string l[j].s) := by
  induction l with
  | nil => intro j h; simp at h
  | cons x l ih =>
    intro j h
    cases j with
    | zero => simp [cellsOf, Vl.cells]
    | succ j =>
      have := ih j (by simpa using h)
      have e : cellsOf (x :: l) = x.cells ++ cellsOf l := by simp [cellsOf]
      have hl : x.cells.length = 3 := rfl
      rw [e]
      refine ⟨?_, ?_, ?_⟩
      · rw [List.getElem?_append_right (by rw [hl]; omega), hl, show (j + 1) * 3 - 3 = j * 3 by omega]; exact this.1
      · rw [List.getElem?_append_right (by rw [hl]; omega), hl, show (j + 1) * 3 + 1 - 3 = j * 3 + 1 by omega]; exact this.2.1
      · rw [List.getElem?_append_right (by rw [hl]; omega), hl, show (j + 1) * 3 + 2 - 3 = j * 3 + 2 by omega]; exact this.2.2
theorem cells_one (l : List Vl) : ∀ u ∈ cellsOf l, u.oneCell' = true := by
  intro u hu
  simp only [cellsOf, List.mem_flatMap, Vl.cells] at hu
  obtain ⟨x, _, hx⟩ := hu
  simp at hx
  rcases hx with rfl | rfl | rfl <;> rfl

/-- A row of the call's own reads as its values. -/
theorem Vals.of_own {W : World} {B : Nat} {v : Value} {l : List Vl} {n : Nat} (h : W.ownsRow B 26 3 v n (cellsOf l)) : ∃ A cap, v = .slice A n cap ∧ Vals W W.heap.size A n l ∧ n ≤ cap ∧ cap ≤ maxLen := by
  have hl : l.length = n := by have := h.1; rw [cells_len] at this; omega
  rcases h.2 with ⟨rfl, h0⟩ | ⟨g, cap, cur, rfl, hB, hg, hc, hm, hs, ht⟩
  · subst h0
    exact ⟨none, 0, rfl, ⟨hl, fun j hj => absurd hj (by omega)⟩, Nat.le_refl _, by unfold maxLen; omega⟩
  · refine ⟨_, cap, rfl, ⟨hl, fun j hj => ⟨_, rfl, ?_, (Array.getElem?_eq_some_iff.1 hg).1⟩⟩, hc, hm⟩
    have hadd : (⟨g, 0, none⟩ : Addr).add (j * 3) = ⟨g, j * 3, none⟩ := by unfold Addr.add; split <;> simp_all
    obtain ⟨c0, c1, c2⟩ := cells_at l j hj
    rw [hadd]
    exact ⟨(h.cellAt (j * 3) (by omega)).trans c0, (h.cellAt (j * 3 + 1) (by omega)).trans c1, (h.cellAt (j * 3 + 2) (by omega)).trans c2⟩

theorem infoVal : (Tryz.prog.info? 26).map (fun i => (i.zero, i.size, i.bytes)) = some (some (.agg #[.int .i64 0, .int .i64 0, .string ⟨#[]⟩]), 3, 32) := by kernel_rfl

/-- The cells of a value that has just been written. -/
theorem new_cells {W : World} {t : TypeId} {x : Vl} : ∀ j u, x.cells[j]? = some u → (W.alloc (.cells #[.int .i64 x.k, .int .i64 x.i, .string x.s] t)).cell? ((⟨W.heap.size, 0, none⟩ : Addr).add j) = some u := by
  intro j u h
  match j with
  | 0 => simp [Vl.cells] at h; subst h; simp [Addr.add, go_sem]
  | 1 => simp [Vl.cells] at h; subst h; simp [Addr.add, go_sem]
  | 2 => simp [Vl.cells] at h; subst h; simp [Addr.add, go_sem]
  | j + 3 => simp [Vl.cells] at h
theorem row_below {B : Nat} {w W W' : World} {n : Nat} {xs : List Value} {v : Value} {o : Obj} (hb : Below B w W) (hB : B ≤ w.heap.size) (hown : W.ownsRow B 26 3 v n xs) (hg : (W.alloc o).grownBy W' v.ownBlock) : Below B w W' := by
  have hs := hb.size
  exact (hb.alloc (by omega) o).grown hg (by simp; omega) fun g hg' => (hown.lt g hg').1
theorem take_snoc' {α : Type} {l : List α} {k : Nat} {x : α} (h : l[k]? = some x) : l.take (k + 1) = l.take k ++ [x] := by
  rw [List.take_add_one, h]; rfl

def fewL (l : List Vl) : List Vl := (l.take 14).map Vl.few

set_option maxRecDepth 100000 in
set_option maxHeartbeats 4000000 in
theorem few2_any (A : Option Addr) (n cap : Nat) (l : List Vl) (w : World) (hn : n ≤ maxLen) (hat : Vals w w.heap.size A n l) (hsz : ∀ x ∈ l, x.s.size ≤ maxLen) :
    Calls Tryz.prog 6 #[.slice A n cap] w fun e w' => ∃ v, e = .returned v ∧ w'.ownsRow w.heap.size 26 3 v (fewL l).length (cellsOf (fewL l)) ∧ Below w.heap.size w w' := by
  unfold maxLen at hn
  obtain ⟨i0, hi, hz0, hz1, hz2⟩ := info_parts infoVal
  have HS := Lib.hid (And.intro hat hsz)
  have hll := hat.1
  clear hat hsz
  have HL := Lib.hid hll
  clear hll
  go_enter Tryz.func6, Tryz.ntmps6
  go_wp2
  go_loopw [3, 4] (fun v i wr => ∃ k : Nat, k ≤ n ∧ k ≤ 14 ∧ i = .int .i64 k ∧ Below w.heap.size w wr ∧ wr.ownsRow w.heap.size 26 3 v k (cellsOf ((l.take k).map Vl.few))) (fun _ i _ => n - (intOf i).toNat)
  case atStart => exact ⟨0, by omega, by omega, rfl, Below.refl _ _, World.ownsRow_nil _ _ _ _⟩
  case round =>
    obtain ⟨k, hk, hk14, rfl, hb, hown⟩ := hrel
    have hbs := hb.size
    by_cases hlt : k < n
    · by_cases h14 : k < 14
      · have hd1 : decide ((k : Int) < 14) = true := decide_eq_true (by omega)
        obtain ⟨a, x, rfl, hx, hA, hB⟩ := HS.out.1.at_ hlt
        have hA' := hA.keep hb (by rw [add_block]; exact hB)
        have hxs : x.s.size ≤ maxLen := HS.out.2 x (List.mem_of_getElem? hx)
        have ck := hA'.k
        have ci := hA'.i
        have cs := hA'.s
        have HX := Lib.hid (And.intro hx hxs)
        clear hx hxs hA hA' hB
        go_wp2_with (first
          | (go_at_call 14; refine (few_any _ _ _ _ HX.out.2).mono ?_; rintro e w1 ⟨rfl, hb1⟩; have hown1 := hown.kept (row := none) ⟨hb1.os, hb1.tape, hb1.output, hb1.size, fun q hq _ => hb1.block q hq⟩ (by cases h : Value.ownBlock _ with | none => exact .inl rfl | some _ => exact .inr (by simp)); have HB1 := Lib.hid (hb.trans (hb1.mono hbs)); have hs1 := hb1.size; clear hb1 hown)
          | (at_builtin; refine wpList_append_own _ rfl _ _ 32 rfl w.heap.size 26 i0 _ 3 32 Tryz.underlying32 hi hz0 hz1 hz2 rfl (by decide) _ _ _ rfl (World.ownsRow.alloc hown1 _) ⟨w1.heap.size, 0, none⟩ 1 1 (Vl.cells x.few) rfl rfl ?c1 ?c2 ?c3 ?c4 ?c5 ?_))
        case c1 => exact new_cells
        case c2 => intro u hu; exact cells_one [x.few] u (by simpa [cellsOf] using hu)
        case c3 => unfold maxLen; omega
        case c4 => omega
        case c5 => simp; omega
        intro v' w2 hown' hgrow _
        have hb2 := row_below HB1.out (Nat.le_refl _) hown1 hgrow
        have hown2 : w2.ownsRow w.heap.size 26 3 v' (k + 1) (cellsOf ((l.take (k + 1)).map Vl.few)) := by
          rw [take_snoc' HX.out.1, List.map_append]
          show w2.ownsRow w.heap.size _ 3 v' (k + 1) (cellsOf ((l.take k).map Vl.few ++ [x.few]))
          rw [cells_snoc]
          first | exact hown' | (rw [List.map_take]; exact hown')
        have HO := Lib.hid hown2
        clear hown' hown1 hown2 hgrow
        go_wp2
        go_roundw
        case rel => exact ⟨k + 1, by omega, by omega, by go_num, hb2, HO.out⟩
        case measure => simp [intOf]; omega
      · have hd1 : decide ((k : Int) < 14) = false := decide_eq_false (by omega)
        have he : fewL l = (l.take k).map Vl.few := by unfold fewL; rw [show k = 14 by omega]
        have HO := Lib.hid (he ▸ hown)
        have HE : Hid ((fewL l).length = k) := by rw [he]; have := HL.out; show _ = _; simp; omega
        clear hown he
        go_wp2
        go_ret
        exact ⟨_, rfl, by rw [HE.out]; exact HO.out, hb⟩
    · have he : fewL l = (l.take k).map Vl.few := by unfold fewL; rw [List.take_of_length_le (by have := HL.out; omega), List.take_of_length_le (by have := HL.out; omega)]
      have HO := Lib.hid (he ▸ hown)
      have HE : Hid ((fewL l).length = k) := by rw [he]; have := HL.out; show _ = _; simp; omega
      clear hown he
      go_wp2
      go_ret
      exact ⟨_, rfl, by rw [HE.out]; exact HO.out, hb⟩
end Go.Proofs.YtchebhdndkaheaaGreatDoor

/- Expressions: the tree that a value is, and how it lies in memory. -/
namespace Go.Proofs.YtchebhdndkaheaaGreatDoor
open Go.RowKit Go.Lib

inductive Ex where
  | mk (op : ByteArray) (x : Vl) (s : ByteArray) (l : List Ex)
def Ex.op : Ex → ByteArray | .mk op _ _ _ => op
def Ex.x : Ex → Vl | .mk _ x _ _ => x
def Ex.s : Ex → ByteArray | .mk _ _ s _ => s
def Ex.l : Ex → List Ex | .mk _ _ _ l => l

/-- The six cells of an expression. -/
structure ExC (W : World) (a : Addr) (t : Ex) (u : Value) : Prop where
  c0 : W.cell? a = some (.string t.op)
  c1 : W.cell? ⟨a.block, a.off + 1, none⟩ = some (.int .i64 t.x.k)
  c2 : W.cell? ⟨a.block, a.off + 2, none⟩ = some (.int .i64 t.x.i)
  c3 : W.cell? ⟨a.block, a.off + 3, none⟩ = some (.string t.x.s)
  c4 : W.cell? ⟨a.block, a.off + 4, none⟩ = some (.string t.s)
  c5 : W.cell? ⟨a.block, a.off + 5, none⟩ = some u
theorem ExC.lt {W : World} {a : Addr} {t : Ex} {u : Value} (h : ExC W a t u) : a.block < W.heap.size := World.block_lt_of_cell? W _ h.c0
theorem ExC.keep {W W' : World} {a : Addr} {t : Ex} {u : Value} (h : ExC W a t u) (hb : W'.heap[a.block]? = W.heap[a.block]?) : ExC W' a t u :=
  ⟨(World.cell?_of_block (w := W) (a := a) hb).trans h.c0, (World.cell?_of_block (w := W) (a := ⟨a.block, _, none⟩) hb).trans h.c1, (World.cell?_of_block (w := W) (a := ⟨a.block, _, none⟩) hb).trans h.c2,
   (World.cell?_of_block (w := W) (a := ⟨a.block, _, none⟩) hb).trans h.c3, (World.cell?_of_block (w := W) (a := ⟨a.block, _, none⟩) hb).trans h.c4, (World.cell?_of_block (w := W) (a := ⟨a.block, _, none⟩) hb).trans h.c5⟩

/-- A slice reads as these expressions, to a depth of n; its blocks are of P. -/
def Sl (w : World) (P : Nat → Prop) : Nat → List Ex → Value → Prop
  | 0, l, v => l = [] ∧ ∃ A cap, v = .slice A 0 cap
  | n + 1, l, v => ∃ A cap, v = .slice A l.length cap ∧ l.length ≤ maxLen ∧ ∀ j (h : j < l.length), ∃ a u, A = some a ∧ P a.block ∧ ExC w (a.add (j * 6)) l[j] u ∧ l[j].s.size ≤ 100000 ∧ Sl w P n l[j].l u

theorem Sl.form {w : World} {P : Nat → Prop} : ∀ {n : Nat} {l : List Ex} {v : Value}, Sl w P n l v → ∃ A cap, v = .slice A l.length cap ∧ l.length ≤ maxLen
  | 0, _, _, ⟨rfl, A, cap, h⟩ => ⟨A, cap, h, by simp [maxLen]⟩
  | _ + 1, _, _, ⟨A, cap, h, hl, _⟩ => ⟨A, cap, h, hl⟩

theorem Sl.keep {w w' : World} {P Q : Nat → Prop} (hk : ∀ b, P b → b < w.heap.size → w'.heap[b]? = w.heap[b]?) (hq : ∀ b, P b → b < w.heap.size → Q b) : ∀ {n : Nat} {l : List Ex} {v : Value}, Sl w P n l v → Sl w' Q n l v
  | 0, _, _, h => h
  | n + 1, _, _, ⟨A, cap, h, hl, hj⟩ => ⟨A, cap, h, hl, fun j hj' => by
    obtain ⟨a, u, e, hp, hc, hs, hr⟩ := hj j hj'
    have hlt := hc.lt
    rw [add_block] at hlt
    exact ⟨a, u, e, hq _ hp hlt, hc.keep (by rw [add_block]; exact hk _ hp hlt), hs, Sl.keep hk hq hr⟩⟩
theorem Sl.more {w : World} {P : Nat → Prop} : ∀ {n m : Nat} {l : List Ex} {v : Value}, Sl w P n l v → n ≤ m → Sl w P m l v
  | 0, 0, _, _, h, _ => h
  | 0, m + 1, _, _, ⟨rfl, A, cap, h⟩, _ => ⟨A, cap, h, by simp [maxLen], fun j hj => absurd hj (by simp)⟩
  | n + 1, 0, _, _, _, hm => absurd hm (by omega)
  | n + 1, m + 1, _, _, ⟨A, cap, h, hl, hj⟩, hm => ⟨A, cap, h, hl, fun j hj' => by
    obtain ⟨a, u, e, hp, hc, hs, hr⟩ := hj j hj'
    exact ⟨a, u, e, hp, hc, hs, Sl.more hr (by omega)⟩⟩

/-- A value is this expression, to a depth of n. -/
def Tr (w : World) (P : Nat → Prop) (n : Nat) (t : Ex) (u : Value) : Prop := t.s.size ≤ 100000 ∧ Sl w P n t.l u
theorem Tr.keep {w w' : World} {P Q : Nat → Prop} {n : Nat} {t : Ex} {u : Value} (h : Tr w P n t u) (hk : ∀ b, P b → b < w.heap.size → w'.heap[b]? = w.heap[b]?) (hq : ∀ b, P b → b < w.heap.size → Q b) : Tr w' Q n t u := ⟨h.1, h.2.keep hk hq⟩
theorem Tr.below {w w' : World} {P : Nat → Prop} {n : Nat} {t : Ex} {u : Value} (h : Tr w P n t u) (hb : Below w.heap.size w w') : Tr w' P n t u := h.keep (fun b _ hl => hb.block b hl) (fun _ h _ => h)
theorem Tr.grown {w w' : World} {P : Nat → Prop} {n : Nat} {t : Ex} {u : Value} {g : Nat} (h : Tr w P n t u) (hb : w.grownBy w' (some g)) (hg : ¬ P g) : Tr w' P n t u :=
  h.keep (fun b hp hl => hb.block b hl (fun e => hg (by injection e with e; rw [← e]; exact hp))) (fun _ h _ => h)
theorem Tr.form {w : World} {P : Nat → Prop} {n : Nat} {t : Ex} {u : Value} (h : Tr w P n t u) : ∃ A cap, u = .slice A t.l.length cap ∧ t.l.length ≤ maxLen := h.2.form
end Go.Proofs.YtchebhdndkaheaaGreatDoor
