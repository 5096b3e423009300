import Derived.Deep.Cut
import Derived.Lib.Bytealg
import Derived.Test.YtnahejljelbbgaaDoorVb
import Derived.Test.YtnahejljelbbgaaDoorVc
/- Order, Equal, Less, Plus, Minus, IsNull. -/
namespace Go.Proofs.YtnahejljelbbgaaDoor
open Go.RowKit Go.Lib

theorem fld0 (k i : Value) (s : Value) (w : World) : (Instr.field 23 (.agg #[k, i, s]) 0).run Tryd.prog w = .ok k w := by kernel_rfl
theorem fld1 (k i : Value) (s : Value) (w : World) : (Instr.field 23 (.agg #[k, i, s]) 1).run Tryd.prog w = .ok i w := by kernel_rfl

set_option maxHeartbeats 400000 in
theorem cmp64 (x y : Int) (w : World) :
    Calls Tryd.prog 67 #[.int .i64 x, .int .i64 y] w fun e w' => e = .returned (.int .i64 (Lib.compareInt x y)) ∧ w' = w := by
  go_enter Tryd.func67, Tryd.ntmps67
  go_wp2
  all_goals
    go_ret
    refine ⟨ret_int ?_, rfl⟩
    unfold Lib.compareInt
    repeat (split <;> try omega)

def or3 (x y z : Int) : Int := if x ≠ 0 then x else if y ≠ 0 then y else z
set_option maxHeartbeats 400000 in
theorem cmpOr (b : Nat) (x y z : Int) (w : World) (h0 : w.cell? ⟨b, 0, none⟩ = some (.int .i64 x)) (h1 : w.cell? ⟨b, 1, none⟩ = some (.int .i64 y)) (h2 : w.cell? ⟨b, 2, none⟩ = some (.int .i64 z)) :
    Calls Tryd.prog 65 #[.slice (some ⟨b, 0, none⟩) 3 3] w fun e w' => e = .returned (.int .i64 (or3 x y z)) ∧ w' = w := by
  go_enter Tryd.func65, Tryd.ntmps65
  go_wp2
  refine wp_loop_rounds 4 ?_
  all_goals (try (rw [rounds_succ]; go_wp2))
  all_goals (try (rw [rounds_succ]; go_wp2))
  all_goals (try (rw [rounds_succ]; go_wp2))
  all_goals (try (rw [rounds_succ]; go_wp2))
  go_ways
  all_goals go_ret
  all_goals refine ⟨ret_int ?_, rfl⟩
  all_goals unfold or3
  all_goals (simp_all; done)

def hK (k i : Int) (s : ByteArray) : Int := if mayB k i s then k else 0
def hI (k i : Int) (s : ByteArray) : Int := if mayB k i s then i else 0
def hS (k i : Int) (s : ByteArray) : ByteArray := if mayB k i s then s else ⟨#[]⟩

theorem held_any (k i : Int) (s : ByteArray) (w : World) :
    Calls Tryd.prog 64 #[.agg #[.int .i64 k, .int .i64 i, .string s]] w fun e w' => e = .returned (.agg #[.int .i64 (hK k i s), .int .i64 (hI k i s), .string (hS k i s)]) ∧ Below w.heap.size w w' := by
  cases h : mayB k i s with
  | true =>
    have := held_t k i s w h
    unfold hK hI hS
    simp only [h, if_true]
    exact this
  | false =>
    have := held_f k i s w h
    unfold hK hI hS
    simp only [h, Bool.false_eq_true, if_false]
    exact this

theorem wp_gen {P : Program} {Q : Exit → Act → World → Prop} {c : Code} {a : Act} {W : World} (p : World → Prop) (h : p W) (k : ∀ W', p W' → c.wp P Q a W') : c.wp P Q a W := k W h
theorem same_below {P : Program} {f : FuncId} {args : Array Value} {w : World} {r : Ending} (h : Calls P f args w fun e w' => e = r ∧ w' = w) : Calls P f args w fun e w' => e = r ∧ Below w.heap.size w w' :=
  h.mono fun _ _ h => ⟨h.1, h.2 ▸ Below.refl _ _⟩

/-- Two boxes, which hold what the two count as. -/
structure Boxes (w : World) (k i : Int) (s : ByteArray) (k' i' : Int) (s' : ByteArray) (W : World) : Prop where
  below : Below w.heap.size w W
  size : w.heap.size + 1 + 1 ≤ W.heap.size
  k : W.cell? ⟨w.heap.size, 0, none⟩ = some (.int .i64 k)
  i : W.cell? ⟨w.heap.size, 1, none⟩ = some (.int .i64 i)
  s : W.cell? ⟨w.heap.size, 2, none⟩ = some (.string s)
  k' : W.cell? ⟨w.heap.size + 1, 0, none⟩ = some (.int .i64 k')
  i' : W.cell? ⟨w.heap.size + 1, 1, none⟩ = some (.int .i64 i')
  s' : W.cell? ⟨w.heap.size + 1, 2, none⟩ = some (.string s')

theorem Boxes.later {w W W' : World} {k i : Int} {s : ByteArray} {k' i' : Int} {s' : ByteArray} (h : Boxes w k i s k' i' s' W) (hb : Below W.heap.size W W') : Boxes w k i s k' i' s' W' := by
  have hs := h.size
  exact ⟨h.below.trans (hb.mono h.below.size), Nat.le_trans hs hb.size,
    (hb.cell (p := ⟨_, _, none⟩) (by show w.heap.size < _; omega)).trans h.k, (hb.cell (p := ⟨_, _, none⟩) (by show w.heap.size < _; omega)).trans h.i, (hb.cell (p := ⟨_, _, none⟩) (by show w.heap.size < _; omega)).trans h.s,
    (hb.cell (p := ⟨_, _, none⟩) (by show w.heap.size + 1 < _; omega)).trans h.k', (hb.cell (p := ⟨_, _, none⟩) (by show w.heap.size + 1 < _; omega)).trans h.i', (hb.cell (p := ⟨_, _, none⟩) (by show w.heap.size + 1 < _; omega)).trans h.s'⟩

theorem Boxes.start (w : World) (k i : Int) (s : ByteArray) (k' i' : Int) (s' : ByteArray) (t t' : TypeId) :
    Boxes w k i s k' i' s' ((w.alloc (.cells #[.int .i64 k, .int .i64 i, .string s] t)).alloc (.cells #[.int .i64 k', .int .i64 i', .string s'] t')).drew :=
  ⟨(((Below.refl _ _).alloc (Nat.le_refl _) _).alloc (by simp) _).drew, by simp, by simp [go_sem], by simp [go_sem], by simp [go_sem], by simp [go_sem], by simp [go_sem], by simp [go_sem]⟩

theorem Boxes.store {w W : World} {k i : Int} {s : ByteArray} {k' i' : Int} {s' : ByteArray} (h : Boxes w k i s k' i' s' W) (K I : Int) (S : ByteArray) (K' I' : Int) (S' : ByteArray) :
    Boxes w K I S K' I' S' ((((((W.setCell ⟨w.heap.size, 0, none⟩ (.int .i64 K)).setCell ⟨w.heap.size, 1, none⟩ (.int .i64 I)).setCell ⟨w.heap.size, 2, none⟩ (.string S)).setCell ⟨w.heap.size + 1, 0, none⟩ (.int .i64 K')).setCell ⟨w.heap.size + 1, 1, none⟩ (.int .i64 I')).setCell ⟨w.heap.size + 1, 2, none⟩ (.string S')) := by
  have h1 := h.k
  have h2 := h.i
  have h3 := h.s
  have h4 := h.k'
  have h5 := h.i'
  have h6 := h.s'
  exact ⟨cSet3 (by omega) (cSet3 (Nat.le_refl _) h.below _ _ _) _ _ _, by simpa using h.size, by simp [go_sem, *], by simp [go_sem, *], by simp [go_sem, *], by simp [go_sem, *], by simp [go_sem, *], by simp [go_sem, *]⟩

def ordH (k i : Int) (s : ByteArray) (k' i' : Int) (s' : ByteArray) : Int := or3 (Lib.compareInt k k') (Lib.compareInt i i') (Lib.compareBytes s.data.toList s'.data.toList)
/-- Which is first. -/
def ordN (k i : Int) (s : ByteArray) (k' i' : Int) (s' : ByteArray) : Int := ordH (hK k i s) (hI k i s) (hS k i s) (hK k' i' s') (hI k' i' s') (hS k' i' s')
/-- Are both of one kind, and neither of them NULL? -/
def alikeB (k i : Int) (s : ByteArray) (k' i' : Int) (s' : ByteArray) : Bool := decide ((hK k i s) = (hK k' i' s')) && ((hK k i s) != 0)

set_option maxRecDepth 100000 in
set_option maxHeartbeats 800000 in
theorem order_any (k i : Int) (s : ByteArray) (k' i' : Int) (s' : ByteArray) (w : World) :
    Calls Tryd.prog 41 #[.agg #[.int .i64 k, .int .i64 i, .string s], .agg #[.int .i64 k', .int .i64 i', .string s']] w fun e w' => e = .returned (.int .i64 (ordN k i s k' i' s')) ∧ Below w.heap.size w w' := by
  go_enter Tryd.func41, Tryd.ntmps41
  go_wp2
  refine detL_begin [.val (.agg #[.int .i64 k, .int .i64 i, .string s]), .val (.agg #[.int .i64 (hK k i s), .int .i64 (hI k i s), .string (hS k i s)]), .val (.agg #[.int .i64 k', .int .i64 i', .string s']), .val (.agg #[.int .i64 (hK k' i' s'), .int .i64 (hI k' i' s'), .string (hS k' i' s')])] 4 (by kernel_rfl) ?_
  repeat
    (refine detL_val (by kernel_rfl) (yields_of rfl fun w1 hb1 => ?_) ?_
     · have hc1 := bcellD hb1
       clear hb1
       go_simp
       with_reducible first
         | exact Det1_same
         | exact Det1_enter (held_any _ _ _ _)
     simp only [Act.put, List.setIfInBounds_toArray, List.set_cons_zero, List.set_cons_succ])
  refine detL_tail rfl (by kernel_rfl) fun w1 hw1 => ?_
  have hb1 := hw1.below
  clear hw1
  have hc1 := (bcell hb1).1
  have hf1 := (bcell hb1).2
  have hy1 := hb1.size
  (try simp at hy1)
  have hz1_0 : w.heap.size < w1.heap.size := (by omega)
  have hz1_1 : w.heap.size + 1 < w1.heap.size := (by omega)
  go_upto_region 2 with (fail)
  refine wp_gen (Boxes w (hK k i s) (hI k i s) (hS k i s) (hK k' i' s') (hI k' i' s') (hS k' i' s')) (((Boxes.start w k i s k' i' s' 23 23).later hb1).store _ _ _ _ _ _) ?_
  intro W hW
  clear hc1 hf1 hb1 hy1 hz1_0 hz1_1
  have hk := hW.k
  have hi := hW.i
  have hs := hW.s
  have hk' := hW.k'
  have hi' := hW.i'
  have hs' := hW.s'
  have hn0 : w.heap.size < W.heap.size := by have := hW.size; omega
  have hn1 : w.heap.size + 1 < W.heap.size := by have := hW.size; omega
  refine detL_begin [.val (.pointer (some ⟨w.heap.size, 0, none⟩)), .val (.int .i64 (hK k i s)), .val (.pointer (some ⟨w.heap.size + 1, 0, none⟩)), .val (.int .i64 (hK k' i' s')), .val (.int .i64 (Lib.compareInt (hK k i s) (hK k' i' s'))), .val (.pointer (some ⟨w.heap.size, 1, none⟩)), .val (.int .i64 (hI k i s)), .val (.pointer (some ⟨w.heap.size + 1, 1, none⟩)), .val (.int .i64 (hI k' i' s')), .val (.int .i64 (Lib.compareInt (hI k i s) (hI k' i' s'))), .val (.pointer (some ⟨w.heap.size, 2, none⟩)), .val (.string (hS k i s)), .val (.pointer (some ⟨w.heap.size + 1, 2, none⟩)), .val (.string (hS k' i' s')), .val (.int .i64 (Lib.compareBytes (hS k i s).data.toList (hS k' i' s').data.toList))] 15 (by kernel_rfl) ?_
  repeat
    (refine detL_val (by kernel_rfl) (yields_of rfl fun w1 hb1 => ?_) ?_
     · have hc1 := bcellD hb1
       clear hb1
       go_simp
       with_reducible first
         | exact Det1_same
         | exact Det1_enter (same_below (Tryd.cmp_Compare_int _ _ _))
         | exact Det1_enter (same_below (cmp64 _ _ _))
         | exact Det1_enter (same_below (Tryd.strings_Compare _ _ _))
     simp only [Act.put, List.setIfInBounds_toArray, List.set_cons_zero, List.set_cons_succ])
  refine detL_tail rfl (by kernel_rfl) fun w1 hw1 => ?_
  have hb1 := hW.below.drew.trans (hw1.below.mono hW.below.size)
  clear hw1 hk hi hs hk' hi' hs' hn0 hn1
  go_wp2_with (first
    | (go_at_call 65; refine (cmpOr _ (Lib.compareInt (hK k i s) (hK k' i' s')) (Lib.compareInt (hI k i s) (hI k' i' s')) (Lib.compareBytes (hS k i s).data.toList (hS k' i' s').data.toList) _ (by simp) (by simp) (by simp)).mono ?_; rintro e w3 ⟨rfl, rfl⟩))
  go_ret
  refine ⟨rfl, hb1.trans ?_⟩
  exact ((Below.refl _ _).alloc hb1.size _)

set_option maxRecDepth 100000 in
set_option maxHeartbeats 800000 in
theorem alike_any (k i : Int) (s : ByteArray) (k' i' : Int) (s' : ByteArray) (w : World) :
    Calls Tryd.prog 40 #[.agg #[.int .i64 k, .int .i64 i, .string s], .agg #[.int .i64 k', .int .i64 i', .string s']] w fun e w' => e = .returned (.bool (alikeB k i s k' i' s')) ∧ Below w.heap.size w w' := by
  go_enter Tryd.func40, Tryd.ntmps40
  go_wp2
  refine detL_begin [.val (.agg #[.int .i64 k, .int .i64 i, .string s]), .val (.agg #[.int .i64 (hK k i s), .int .i64 (hI k i s), .string (hS k i s)]), .val (.agg #[.int .i64 k', .int .i64 i', .string s']), .val (.agg #[.int .i64 (hK k' i' s'), .int .i64 (hI k' i' s'), .string (hS k' i' s')])] 4 (by kernel_rfl) ?_
  repeat
    (refine detL_val (by kernel_rfl) (yields_of rfl fun w1 hb1 => ?_) ?_
     · have hc1 := bcellD hb1
       clear hb1
       go_simp
       with_reducible first
         | exact Det1_same
         | exact Det1_enter (held_any _ _ _ _)
     simp only [Act.put, List.setIfInBounds_toArray, List.set_cons_zero, List.set_cons_succ])
  refine detL_tail rfl (by kernel_rfl) fun w1 hw1 => ?_
  have hb1 := hw1.below
  clear hw1
  have hc1 := (bcell hb1).1
  have hf1 := (bcell hb1).2
  have hy1 := hb1.size
  (try simp at hy1)
  have hz1_0 : w.heap.size < w1.heap.size := (by omega)
  have hz1_1 : w.heap.size + 1 < w1.heap.size := (by omega)
  go_upto_region 2 with (fail)
  refine wp_gen (Boxes w (hK k i s) (hI k i s) (hS k i s) (hK k' i' s') (hI k' i' s') (hS k' i' s')) (((Boxes.start w k i s k' i' s' 23 23).later hb1).store _ _ _ _ _ _) ?_
  intro W hW
  clear hc1 hf1 hb1 hy1 hz1_0 hz1_1
  have hk := hW.k
  have hi := hW.i
  have hs := hW.s
  have hk' := hW.k'
  have hi' := hW.i'
  have hs' := hW.s'
  have hn0 : w.heap.size < W.heap.size := by have := hW.size; omega
  have hn1 : w.heap.size + 1 < W.heap.size := by have := hW.size; omega
  go_wp2
  all_goals
    go_ret
    refine ⟨ret_bool ?_, hW.below⟩
    unfold alikeB
    simp_all

def b2i (b : Bool) : Int := if b then 1 else 0
theorem truth_any (b : Bool) (w : World) :
    Calls Tryd.prog 21 #[.bool b] w fun e w' => e = .returned (.agg #[.int .i64 3, .int .i64 (b2i b), .string ⟨#[]⟩]) ∧ Below w.heap.size w w' := by
  cases b with
  | true => exact truth_t w
  | false => exact truth_f w

set_option maxRecDepth 100000 in
set_option maxHeartbeats 800000 in
theorem less_no (k i : Int) (s : ByteArray) (k' i' : Int) (s' : ByteArray) (w : World) (ha : alikeB k i s k' i' s' = false) :
    Calls Tryd.prog 25 #[.agg #[.int .i64 k, .int .i64 i, .string s], .agg #[.int .i64 k', .int .i64 i', .string s']] w fun e w' => e = .returned (.agg #[.int .i64 0, .int .i64 0, .string ⟨#[]⟩]) ∧ Below w.heap.size w w' := by
  have H := Lib.hid ha
  clear ha
  go_enter Tryd.func25, Tryd.ntmps25
  go_wp2_with (first
    | (go_at_call 40; refine ((alike_any _ _ _ _ _ _ _).mono (fun _ _ h => (H.out ▸ h : _ = Ending.returned (.bool false) ∧ _))).mono ?_; rintro e w1 ⟨rfl, hb1⟩; have hc1 := (bcell hb1).1; have hf1 := (bcell hb1).2; have hy1 := hb1.size; (try simp at hy1); have hz1_0 : w.heap.size < w1.heap.size := (by omega); have hz1_1 : w.heap.size + 1 < w1.heap.size := (by omega); have hz1_2 : w.heap.size + 1 + 1 < w1.heap.size := (by omega)))
  (refine bodyPost_ret (v := .agg #[.int .i64 0, .int .i64 0, .string ⟨#[]⟩]) ?_ rfl ⟨rfl, ?_⟩; (· (simp [results, Tryd.results25, go_sem, *]; done)))
  repeat (first | (with_reducible exact Below.refl _ _) | ((with_reducible refine cSet3 ?_ ?_ _ _ _); (· ((try simp) <;> omega))) | (with_reducible refine Below.drew ?_) | ((with_reducible refine cAlloc ?_ ?_ _); (· ((try simp) <;> omega))) | ((with_reducible refine cOn (by assumption) ?_ ?_); (· ((try simp) <;> omega))))

set_option maxRecDepth 100000 in
set_option maxHeartbeats 800000 in
theorem less_yes (k i : Int) (s : ByteArray) (k' i' : Int) (s' : ByteArray) (w : World) (ha : alikeB k i s k' i' s' = true) :
    Calls Tryd.prog 25 #[.agg #[.int .i64 k, .int .i64 i, .string s], .agg #[.int .i64 k', .int .i64 i', .string s']] w fun e w' => e = .returned (.agg #[.int .i64 3, .int .i64 (b2i (decide (ordN k i s k' i' s' < 0))), .string ⟨#[]⟩]) ∧ Below w.heap.size w w' := by
  have H := Lib.hid ha
  clear ha
  go_enter Tryd.func25, Tryd.ntmps25
  go_wp2_with (first
    | (go_at_call 40; refine ((alike_any _ _ _ _ _ _ _).mono (fun _ _ h => (H.out ▸ h : _ = Ending.returned (.bool true) ∧ _))).mono ?_; rintro e w1 ⟨rfl, hb1⟩; have hc1 := (bcell hb1).1; have hf1 := (bcell hb1).2; have hy1 := hb1.size; (try simp at hy1); have hz1_0 : w.heap.size < w1.heap.size := (by omega); have hz1_1 : w.heap.size + 1 < w1.heap.size := (by omega); have hz1_2 : w.heap.size + 1 + 1 < w1.heap.size := (by omega))
    | (go_at_call 41; refine (order_any _ _ _ _ _ _ _).mono ?_; rintro e w1 ⟨rfl, hb1⟩; have hc1 := (bcell hb1).1; have hf1 := (bcell hb1).2; have hy1 := hb1.size; (try simp at hy1); have hz1_0 : w.heap.size < w1.heap.size := (by omega); have hz1_1 : w.heap.size + 1 < w1.heap.size := (by omega); have hz1_2 : w.heap.size + 1 + 1 < w1.heap.size := (by omega))
    | (go_at_call 21; refine (truth_any _ _).mono ?_; rintro e w1 ⟨rfl, hb1⟩; have hc1 := (bcell hb1).1; have hf1 := (bcell hb1).2; have hy1 := hb1.size; (try simp at hy1); have hz1_0 : w.heap.size < w1.heap.size := (by omega); have hz1_1 : w.heap.size + 1 < w1.heap.size := (by omega); have hz1_2 : w.heap.size + 1 + 1 < w1.heap.size := (by omega)))
  (refine bodyPost_ret (v := .agg #[.int .i64 3, .int .i64 (b2i (decide (ordN k i s k' i' s' < 0))), .string ⟨#[]⟩]) ?_ rfl ⟨rfl, ?_⟩; (· (simp [results, Tryd.results25, go_sem, *]; done)))
  repeat (first | (with_reducible exact Below.refl _ _) | ((with_reducible refine cSet3 ?_ ?_ _ _ _); (· ((try simp) <;> omega))) | (with_reducible refine Below.drew ?_) | ((with_reducible refine cAlloc ?_ ?_ _); (· ((try simp) <;> omega))) | ((with_reducible refine cOn (by assumption) ?_ ?_); (· ((try simp) <;> omega))))

def numsB (k i : Int) (s : ByteArray) (k' i' : Int) (s' : ByteArray) : Bool := ((hK k i s) == 1) && ((hK k' i' s') == 1)

set_option maxRecDepth 100000 in
set_option maxHeartbeats 800000 in
theorem numbers_any (k i : Int) (s : ByteArray) (k' i' : Int) (s' : ByteArray) (w : World) :
    Calls Tryd.prog 42 #[.agg #[.int .i64 k, .int .i64 i, .string s], .agg #[.int .i64 k', .int .i64 i', .string s']] w fun e w' => e = .returned (.bool (numsB k i s k' i' s')) ∧ Below w.heap.size w w' := by
  unfold numsB
  have hfl := fld0
  cases h1 : (hK k i s == 1) with
  | true =>
    rw [Bool.true_and]
    go_enter Tryd.func42, Tryd.ntmps42
    go_wp2_with (first
    | (go_at_call 64; refine (held_any _ _ _ _).mono ?_; rintro e w1 ⟨rfl, hb1⟩; have hc1 := (bcell hb1).1; have hf1 := (bcell hb1).2; have hy1 := hb1.size; (try simp at hy1); have hz1_0 : w.heap.size < w1.heap.size := (by omega); have hz1_1 : w.heap.size + 1 < w1.heap.size := (by omega)))
    all_goals
      go_ret
      refine ⟨rfl, ?_⟩
      repeat (first | (with_reducible exact Below.refl _ _) | ((with_reducible refine cSet3 ?_ ?_ _ _ _); (· ((try simp) <;> omega))) | (with_reducible refine Below.drew ?_) | ((with_reducible refine cAlloc ?_ ?_ _); (· ((try simp) <;> omega))) | ((with_reducible refine cOn (by assumption) ?_ ?_); (· ((try simp) <;> omega))))
  | false =>
    rw [Bool.false_and]
    go_enter Tryd.func42, Tryd.ntmps42
    go_wp2_with (first
    | (go_at_call 64; refine (held_any _ _ _ _).mono ?_; rintro e w1 ⟨rfl, hb1⟩; have hc1 := (bcell hb1).1; have hf1 := (bcell hb1).2; have hy1 := hb1.size; (try simp at hy1); have hz1_0 : w.heap.size < w1.heap.size := (by omega); have hz1_1 : w.heap.size + 1 < w1.heap.size := (by omega)))
    all_goals
      go_ret
      refine ⟨rfl, ?_⟩
      repeat (first | (with_reducible exact Below.refl _ _) | ((with_reducible refine cSet3 ?_ ?_ _ _ _); (· ((try simp) <;> omega))) | (with_reducible refine Below.drew ?_) | ((with_reducible refine cAlloc ?_ ?_ _); (· ((try simp) <;> omega))) | ((with_reducible refine cOn (by assumption) ?_ ?_); (· ((try simp) <;> omega))))

def badPlus (i i' : Int) : Bool := !(decide (i < wrap64 (i + i')) == decide (0 < i'))
def badMinus (i i' : Int) : Bool := !(decide (wrap64 (i - i') < i) == decide (0 < i'))

set_option maxRecDepth 100000 in
set_option maxHeartbeats 800000 in
theorem plus_no (k i : Int) (s : ByteArray) (k' i' : Int) (s' : ByteArray) (w : World) (ha : numsB k i s k' i' s' = false) :
    Calls Tryd.prog 26 #[.agg #[.int .i64 k, .int .i64 i, .string s], .agg #[.int .i64 k', .int .i64 i', .string s']] w fun e w' => e = .returned (.agg #[.int .i64 0, .int .i64 0, .string ⟨#[]⟩]) ∧ Below w.heap.size w w' := by
  have H := Lib.hid ha
  clear ha
  go_enter Tryd.func26, Tryd.ntmps26
  go_wp2_with (first
    | (go_at_call 42; refine ((numbers_any _ _ _ _ _ _ _).mono (fun _ _ h => (H.out ▸ h : _ = Ending.returned (.bool false) ∧ _))).mono ?_; rintro e w1 ⟨rfl, hb1⟩; have hc1 := (bcell hb1).1; have hf1 := (bcell hb1).2; have hy1 := hb1.size; (try simp at hy1); have hz1_0 : w.heap.size < w1.heap.size := (by omega); have hz1_1 : w.heap.size + 1 < w1.heap.size := (by omega); have hz1_2 : w.heap.size + 1 + 1 < w1.heap.size := (by omega)))
  (refine bodyPost_ret (v := .agg #[.int .i64 0, .int .i64 0, .string ⟨#[]⟩]) ?_ rfl ⟨rfl, ?_⟩; (· (simp [results, Tryd.results26, go_sem, *]; done)))
  repeat (first | (with_reducible exact Below.refl _ _) | ((with_reducible refine cSet3 ?_ ?_ _ _ _); (· ((try simp) <;> omega))) | (with_reducible refine Below.drew ?_) | ((with_reducible refine cAlloc ?_ ?_ _); (· ((try simp) <;> omega))) | ((with_reducible refine cOn (by assumption) ?_ ?_); (· ((try simp) <;> omega))))

set_option maxRecDepth 100000 in
set_option maxHeartbeats 800000 in
theorem plus_bad (k i : Int) (s : ByteArray) (k' i' : Int) (s' : ByteArray) (w : World) (ha : numsB k i s k' i' s' = true) (hb : badPlus i i' = true) :
    Calls Tryd.prog 26 #[.agg #[.int .i64 k, .int .i64 i, .string s], .agg #[.int .i64 k', .int .i64 i', .string s']] w fun e w' => e = .returned (.agg #[.int .i64 0, .int .i64 0, .string ⟨#[]⟩]) ∧ Below w.heap.size w w' := by
  have H := Lib.hid ha
  have HB := Lib.hid hb
  clear ha hb
  go_enter Tryd.func26, Tryd.ntmps26
  go_wp2_with (first
    | (go_at_call 42; refine ((numbers_any _ _ _ _ _ _ _).mono (fun _ _ h => (H.out ▸ h : _ = Ending.returned (.bool true) ∧ _))).mono ?_; rintro e w1 ⟨rfl, hb1⟩; have hc1 := (bcell hb1).1; have hf1 := (bcell hb1).2; have hy1 := hb1.size; (try simp at hy1); have hz1_0 : w.heap.size < w1.heap.size := (by omega); have hz1_1 : w.heap.size + 1 < w1.heap.size := (by omega); have hz1_2 : w.heap.size + 1 + 1 < w1.heap.size := (by omega)))
  all_goals first
    | (exfalso
       have h1 : (!(decide (i < wrap64 (i + i')) == decide (0 < i'))) = false := by assumption
       have h2 := HB.out
       unfold badPlus at h2
       rw [h1] at h2
       cases h2)
    | ((refine bodyPost_ret (v := .agg #[.int .i64 0, .int .i64 0, .string ⟨#[]⟩]) ?_ rfl ⟨rfl, ?_⟩; (· (simp [results, Tryd.results26, go_sem, *]; done)))
       repeat (first | (with_reducible exact Below.refl _ _) | ((with_reducible refine cSet3 ?_ ?_ _ _ _); (· ((try simp) <;> omega))) | (with_reducible refine Below.drew ?_) | ((with_reducible refine cAlloc ?_ ?_ _); (· ((try simp) <;> omega))) | ((with_reducible refine cOn (by assumption) ?_ ?_); (· ((try simp) <;> omega)))))

set_option maxRecDepth 100000 in
set_option maxHeartbeats 800000 in
theorem plus_yes (k i : Int) (s : ByteArray) (k' i' : Int) (s' : ByteArray) (w : World) (ha : numsB k i s k' i' s' = true) (hb : badPlus i i' = false) :
    Calls Tryd.prog 26 #[.agg #[.int .i64 k, .int .i64 i, .string s], .agg #[.int .i64 k', .int .i64 i', .string s']] w fun e w' => e = .returned (.agg #[.int .i64 1, .int .i64 (wrap64 (i + i')), .string ⟨#[]⟩]) ∧ Below w.heap.size w w' := by
  have H := Lib.hid ha
  have HB := Lib.hid hb
  clear ha hb
  go_enter Tryd.func26, Tryd.ntmps26
  go_wp2_with (first
    | (go_at_call 42; refine ((numbers_any _ _ _ _ _ _ _).mono (fun _ _ h => (H.out ▸ h : _ = Ending.returned (.bool true) ∧ _))).mono ?_; rintro e w1 ⟨rfl, hb1⟩; have hc1 := (bcell hb1).1; have hf1 := (bcell hb1).2; have hy1 := hb1.size; (try simp at hy1); have hz1_0 : w.heap.size < w1.heap.size := (by omega); have hz1_1 : w.heap.size + 1 < w1.heap.size := (by omega); have hz1_2 : w.heap.size + 1 + 1 < w1.heap.size := (by omega)))
  all_goals first
    | (exfalso
       have h1 : (!(decide (i < wrap64 (i + i')) == decide (0 < i'))) = true := by assumption
       have h2 := HB.out
       unfold badPlus at h2
       rw [h1] at h2
       cases h2)
    | ((refine bodyPost_ret (v := .agg #[.int .i64 1, .int .i64 (wrap64 (i + i')), .string ⟨#[]⟩]) ?_ rfl ⟨rfl, ?_⟩; (· (simp [results, Tryd.results26, go_sem, *]; done)))
       repeat (first | (with_reducible exact Below.refl _ _) | ((with_reducible refine cSet3 ?_ ?_ _ _ _); (· ((try simp) <;> omega))) | (with_reducible refine Below.drew ?_) | ((with_reducible refine cAlloc ?_ ?_ _); (· ((try simp) <;> omega))) | ((with_reducible refine cOn (by assumption) ?_ ?_); (· ((try simp) <;> omega)))))

end Go.Proofs.YtnahejljelbbgaaDoor
