import Derived.Test.YtljcdebaoceimaaDoorVo
/- The law ValueLess: of two values that can be held against each other just one holds. -/
namespace Go.Proofs.YtljcdebaoceimaaDoor
open Go.RowKit Go.Lib

set_option maxRecDepth 100000 in
set_option maxHeartbeats 40000000 in
theorem law_less_no (k i : Int) (s : ByteArray) (k' i' : Int) (s' : ByteArray) (w : World) (hs : s.size ≤ maxLen) (hs' : s'.size ≤ maxLen) (m : Int) (hm : w.cell? ⟨0, 0, none⟩ = some (.int .i64 m)) (hal : alikeB k i (fewS s) k' i' (fewS s') = false) :
    Calls Tryd.prog 9 #[.agg #[.int .i64 k, .int .i64 i, .string s], .agg #[.int .i64 k', .int .i64 i', .string s']] w fun e w' => e = .returned (.bool true) ∧ Below w.heap.size w w' := by
  have hlt : 0 < w.heap.size := World.block_lt_of_cell? w _ hm
  have HAL := Lib.hid hal
  clear hal
  go_enter Tryd.func9, Tryd.ntmps9
  go_wp2
  refine detL_begin [.val (.agg #[.int .i64 k, .int .i64 i, .string s]), .val (.agg #[.int .i64 k, .int .i64 i, .string (fewS s)]), .val (.agg #[.int .i64 k', .int .i64 i', .string s']), .val (.agg #[.int .i64 k', .int .i64 i', .string (fewS s')])] 4 (by kernel_rfl) ?_
  refine detL_val (by kernel_rfl) (yields_of rfl fun w1 hb1 => ?_) ?_
  · have hc1 := bcellD hb1
    clear hb1
    go_simp
    exact Det1_same
  simp only [Act.put, List.setIfInBounds_toArray, List.set_cons_zero, List.set_cons_succ]
  refine detL_val (by kernel_rfl) (yields_of rfl fun w1 hb1 => ?_) ?_
  · have hc1 := bcellD hb1
    clear hb1
    go_simp
    exact Det1_enter (few_any _ _ _ _ hs)
  simp only [Act.put, List.setIfInBounds_toArray, List.set_cons_zero, List.set_cons_succ]
  refine detL_val (by kernel_rfl) (yields_of rfl fun w1 hb1 => ?_) ?_
  · have hc1 := bcellD hb1
    clear hb1
    go_simp
    exact Det1_same
  simp only [Act.put, List.setIfInBounds_toArray, List.set_cons_zero, List.set_cons_succ]
  refine detL_val (by kernel_rfl) (yields_of rfl fun w1 hb1 => ?_) ?_
  · have hc1 := bcellD hb1
    clear hb1
    go_simp
    exact Det1_enter (few_any _ _ _ _ hs')
  simp only [Act.put, List.setIfInBounds_toArray, List.set_cons_zero, List.set_cons_succ]
  refine detL_tail rfl (by kernel_rfl) fun w1 hw1 => ?_
  have hb1 := hw1.below
  clear hw1
  have hc1 := (bcell hb1).1
  have hf1 := (bcell hb1).2
  have hy1 := hb1.size
  (try simp at hy1)
  have hz1_0 : w.heap.size < w1.heap.size := (by omega)
  have hz1_1 : w.heap.size + 1 < w1.heap.size := (by omega)
  have a0 : At3 w1 w.heap.size k i s := At3.later (by repeat (first | (with_reducible assumption) | (with_reducible exact Box.of (by assumption)) | ((with_reducible refine At3.new ?_); simp) | (with_reducible refine At3.drew ?_) | (with_reducible refine At3.alloc ?_ _) | (with_reducible refine Box.drew ?_) | (with_reducible refine Box.alloc ?_ _) | (with_reducible refine Box.set ?_ _ _ _) | ((with_reducible refine At3.set_other' ?_ ?_ _ _ _); (· omega)) | ((with_reducible refine Box.set_other ?_ ?_ _ _ _); (· omega)))) hb1
  have a1 : At3 w1 (w.heap.size + 1) k' i' s' := At3.later (by repeat (first | (with_reducible assumption) | (with_reducible exact Box.of (by assumption)) | ((with_reducible refine At3.new ?_); simp) | (with_reducible refine At3.drew ?_) | (with_reducible refine At3.alloc ?_ _) | (with_reducible refine Box.drew ?_) | (with_reducible refine Box.alloc ?_ _) | (with_reducible refine Box.set ?_ _ _ _) | ((with_reducible refine At3.set_other' ?_ ?_ _ _ _); (· omega)) | ((with_reducible refine Box.set_other ?_ ?_ _ _ _); (· omega)))) hb1
  have HH := Lib.hid (And.intro a0 a1)
  clear a0 a1
  go_upto_region 2 with (fail)
  have a0 := HH.out.1
  have a1 := HH.out.2
  refine wp_gen (fun W => Below w.heap.size w W ∧ At3 W w.heap.size k i (fewS s) ∧ At3 W (w.heap.size + 1) k' i' (fewS s')) ⟨?_, ?_, ?_⟩ ?_
  · repeat (first | (with_reducible exact Below.refl _ _) | ((with_reducible refine cSet3 ?_ ?_ _ _ _); (· ((try simp) <;> omega))) | (with_reducible refine Below.drew ?_) | ((with_reducible refine cAlloc ?_ ?_ _); (· ((try simp) <;> omega))) | ((with_reducible refine cOn (by assumption) ?_ ?_); (· ((try simp) <;> omega))))
  · repeat (first | (with_reducible assumption) | (with_reducible exact Box.of (by assumption)) | ((with_reducible refine At3.new ?_); simp) | (with_reducible refine At3.drew ?_) | (with_reducible refine At3.alloc ?_ _) | (with_reducible refine Box.drew ?_) | (with_reducible refine Box.alloc ?_ _) | (with_reducible refine Box.set ?_ _ _ _) | ((with_reducible refine At3.set_other' ?_ ?_ _ _ _); (· omega)) | ((with_reducible refine Box.set_other ?_ ?_ _ _ _); (· omega)))
  · repeat (first | (with_reducible assumption) | (with_reducible exact Box.of (by assumption)) | ((with_reducible refine At3.new ?_); simp) | (with_reducible refine At3.drew ?_) | (with_reducible refine At3.alloc ?_ _) | (with_reducible refine Box.drew ?_) | (with_reducible refine Box.alloc ?_ _) | (with_reducible refine Box.set ?_ _ _ _) | ((with_reducible refine At3.set_other' ?_ ?_ _ _ _); (· omega)) | ((with_reducible refine Box.set_other ?_ ?_ _ _ _); (· omega)))
  clear hc1 hf1 hb1 hy1 hz1_0 hz1_1 a0 a1 HH
  rintro W ⟨hB, A0, A1⟩
  have c0k := A0.k
  have c0i := A0.i
  have c0s := A0.s
  have l0 := A0.lt
  have c1k := A1.k
  have c1i := A1.i
  have c1s := A1.s
  have l1 := A1.lt
  have hmW : W.cell? ⟨0, 0, none⟩ = some (.int .i64 m) := (hB.cell (p := ⟨0, 0, none⟩) hlt).trans hm
  refine detL_begin [.val (.agg #[.int .i64 k, .int .i64 i, .string (fewS s)]), .val (.agg #[.int .i64 k', .int .i64 i', .string (fewS s')]), .val (.agg #[.int .i64 0, .int .i64 0, .string ⟨#[]⟩]), .val (.agg #[.int .i64 k', .int .i64 i', .string (fewS s')]), .val (.agg #[.int .i64 k, .int .i64 i, .string (fewS s)]), .val (.agg #[.int .i64 0, .int .i64 0, .string ⟨#[]⟩]), .val (.agg #[.int .i64 k, .int .i64 i, .string (fewS s)]), .val (.agg #[.int .i64 k', .int .i64 i', .string (fewS s')]), .val (.agg #[.int .i64 0, .int .i64 0, .string ⟨#[]⟩]), .rel newR, .rel newR, .rel newR] 12 (by kernel_rfl) ?_
  refine detL_val (by kernel_rfl) (yields_of rfl fun w1 hb1 => ?_) ?_
  · have hc1 := bcellD hb1
    clear hb1
    go_simp
    exact Det1_same
  simp only [Act.put, List.setIfInBounds_toArray, List.set_cons_zero, List.set_cons_succ]
  refine detL_val (by kernel_rfl) (yields_of rfl fun w1 hb1 => ?_) ?_
  · have hc1 := bcellD hb1
    clear hb1
    go_simp
    exact Det1_same
  simp only [Act.put, List.setIfInBounds_toArray, List.set_cons_zero, List.set_cons_succ]
  refine detL_val (by kernel_rfl) (yields_of rfl fun w1 hb1 => ?_) ?_
  · have hc1 := bcellD hb1
    clear hb1
    go_simp
    exact Det1_enter (less_no _ _ _ _ _ _ _ HAL.out)
  simp only [Act.put, List.setIfInBounds_toArray, List.set_cons_zero, List.set_cons_succ]
  refine detL_val (by kernel_rfl) (yields_of rfl fun w1 hb1 => ?_) ?_
  · have hc1 := bcellD hb1
    clear hb1
    go_simp
    exact Det1_same
  simp only [Act.put, List.setIfInBounds_toArray, List.set_cons_zero, List.set_cons_succ]
  refine detL_val (by kernel_rfl) (yields_of rfl fun w1 hb1 => ?_) ?_
  · have hc1 := bcellD hb1
    clear hb1
    go_simp
    exact Det1_same
  simp only [Act.put, List.setIfInBounds_toArray, List.set_cons_zero, List.set_cons_succ]
  refine detL_val (by kernel_rfl) (yields_of rfl fun w1 hb1 => ?_) ?_
  · have hc1 := bcellD hb1
    clear hb1
    go_simp
    exact Det1_enter (less_no _ _ _ _ _ _ _ ((alike_comm _ _ _ _ _ _).trans HAL.out))
  simp only [Act.put, List.setIfInBounds_toArray, List.set_cons_zero, List.set_cons_succ]
  refine detL_val (by kernel_rfl) (yields_of rfl fun w1 hb1 => ?_) ?_
  · have hc1 := bcellD hb1
    clear hb1
    go_simp
    exact Det1_same
  simp only [Act.put, List.setIfInBounds_toArray, List.set_cons_zero, List.set_cons_succ]
  refine detL_val (by kernel_rfl) (yields_of rfl fun w1 hb1 => ?_) ?_
  · have hc1 := bcellD hb1
    clear hb1
    go_simp
    exact Det1_same
  simp only [Act.put, List.setIfInBounds_toArray, List.set_cons_zero, List.set_cons_succ]
  refine detL_val (by kernel_rfl) (yields_of rfl fun w1 hb1 => ?_) ?_
  · have hc1 := bcellD hb1
    clear hb1
    go_simp
    exact Det1_enter (equal_no _ _ _ _ _ _ _ HAL.out)
  simp only [Act.put, List.setIfInBounds_toArray, List.set_cons_zero, List.set_cons_succ]
  refine detL_rel (by kernel_rfl) (yields_rel (by rfl) newR_lasting fun w1 hw1 => ?_) ?_
  · clear hw1
    go_simp
    exact newR_made
  rintro v F w1 hw1
  obtain ⟨b0, rfl, rfl, -⟩ := (hw1.ents _ List.mem_cons_self).1
  clear hw1
  simp only [Act.put, List.setIfInBounds_toArray, List.set_cons_zero, List.set_cons_succ]
  refine detL_rel (by kernel_rfl) (yields_rel (by rfl) newR_lasting fun w1 hw1 => ?_) ?_
  · clear hw1
    go_simp
    exact newR_made
  rintro v F w1 hw1
  obtain ⟨b1, rfl, rfl, -⟩ := (hw1.ents _ List.mem_cons_self).1
  clear hw1
  simp only [Act.put, List.setIfInBounds_toArray, List.set_cons_zero, List.set_cons_succ]
  refine detL_rel (by kernel_rfl) (yields_rel (by rfl) newR_lasting fun w1 hw1 => ?_) ?_
  · clear hw1
    go_simp
    exact newR_made
  rintro v F w1 hw1
  obtain ⟨b2, rfl, rfl, -⟩ := (hw1.ents _ List.mem_cons_self).1
  clear hw1
  simp only [Act.put, List.setIfInBounds_toArray, List.set_cons_zero, List.set_cons_succ]
  refine detL_tail rfl (by kernel_rfl) fun w1 hw1 => ?_
  have e2 := hw1.ents _ List.mem_cons_self
  have e1 := hw1.ents _ (List.mem_cons_of_mem _ List.mem_cons_self)
  have e0 := hw1.ents _ (List.mem_cons_of_mem _ (List.mem_cons_of_mem _ List.mem_cons_self))
  have B2 : At3 w1 b2 0 0 ⟨#[]⟩ := (newR_at e2.1).1
  have B1 : At3 w1 b1 0 0 ⟨#[]⟩ := (newR_at e1.1).1
  have B0 : At3 w1 b0 0 0 ⟨#[]⟩ := (newR_at e0.1).1
  have z2 := (newR_at e2.1).2
  have z1 := (newR_at e1.1).2
  have z0 := (newR_at e0.1).2
  have n0 : w.heap.size ≤ b0 := Nat.le_trans hB.size (e0.2.2 b0 List.mem_cons_self).1
  have n1 : w.heap.size ≤ b1 := Nat.le_trans hB.size (e1.2.2 b1 List.mem_cons_self).1
  have n2 : w.heap.size ≤ b2 := Nat.le_trans hB.size (e2.2.2 b2 List.mem_cons_self).1
  have ap := hw1.apart
  simp only [List.pairwise_cons, List.mem_cons, List.not_mem_nil, or_false, forall_eq_or_imp, forall_eq] at ap
  have d21 : b2 ≠ b1 := ap.1.1
  have d20 : b2 ≠ b0 := ap.1.2
  have d10 : b1 ≠ b0 := ap.2.1
  have hb1 := hB.drew.trans (hw1.below.mono hB.size)
  clear hw1 e0 e1 e2 ap hB A0 A1 hmW c0k c0i c0s l0 c1k c1i c1s l1
  have HH := Lib.hid (And.intro B0 (And.intro B1 (And.intro B2 hb1)))
  have k0 := B0.k
  have i0 := B0.i
  have s0 := B0.s
  have k1 := B1.k
  have i1 := B1.i
  have s1 := B1.s
  have k2 := B2.k
  have i2 := B2.i
  have s2 := B2.s
  clear B0 B1 B2 hb1
  go_upto_region 3 with (fail)
  have B0 := HH.out.1
  have B1 := HH.out.2.1
  have B2 := HH.out.2.2.1
  have hb1 := HH.out.2.2.2
  refine wp_gen (fun W => Below w.heap.size w W ∧ At3 W b0 0 0 ⟨#[]⟩ ∧ At3 W b1 0 0 ⟨#[]⟩ ∧ At3 W b2 0 0 ⟨#[]⟩) ⟨?_, ?_, ?_, ?_⟩ ?_
  · repeat (first | (with_reducible exact Below.refl _ _) | ((with_reducible refine cSet3 ?_ ?_ _ _ _); (· ((try simp) <;> omega))) | (with_reducible refine Below.drew ?_) | ((with_reducible refine cAlloc ?_ ?_ _); (· ((try simp) <;> omega))) | ((with_reducible refine cOn (by assumption) ?_ ?_); (· ((try simp) <;> omega))))
  · repeat (first | (with_reducible assumption) | (with_reducible exact Box.of (by assumption)) | ((with_reducible refine At3.new ?_); simp) | (with_reducible refine At3.drew ?_) | (with_reducible refine At3.alloc ?_ _) | (with_reducible refine Box.drew ?_) | (with_reducible refine Box.alloc ?_ _) | (with_reducible refine Box.set ?_ _ _ _) | ((with_reducible refine At3.set_other' ?_ ?_ _ _ _); (· omega)) | ((with_reducible refine Box.set_other ?_ ?_ _ _ _); (· omega)))
  · repeat (first | (with_reducible assumption) | (with_reducible exact Box.of (by assumption)) | ((with_reducible refine At3.new ?_); simp) | (with_reducible refine At3.drew ?_) | (with_reducible refine At3.alloc ?_ _) | (with_reducible refine Box.drew ?_) | (with_reducible refine Box.alloc ?_ _) | (with_reducible refine Box.set ?_ _ _ _) | ((with_reducible refine At3.set_other' ?_ ?_ _ _ _); (· omega)) | ((with_reducible refine Box.set_other ?_ ?_ _ _ _); (· omega)))
  · repeat (first | (with_reducible assumption) | (with_reducible exact Box.of (by assumption)) | ((with_reducible refine At3.new ?_); simp) | (with_reducible refine At3.drew ?_) | (with_reducible refine At3.alloc ?_ _) | (with_reducible refine Box.drew ?_) | (with_reducible refine Box.alloc ?_ _) | (with_reducible refine Box.set ?_ _ _ _) | ((with_reducible refine At3.set_other' ?_ ?_ _ _ _); (· omega)) | ((with_reducible refine Box.set_other ?_ ?_ _ _ _); (· omega)))
  clear k0 i0 s0 k1 i1 s1 k2 i2 s2 z0 z1 z2 B0 B1 B2 hb1 HH n0 n1 n2 d21 d20 d10
  rintro W ⟨hB, A0, A1, A2⟩
  have c0k := A0.k
  have c0i := A0.i
  have c0s := A0.s
  have l0 := A0.lt
  have c1k := A1.k
  have c1i := A1.i
  have c1s := A1.s
  have l1 := A1.lt
  have c2k := A2.k
  have c2i := A2.i
  have c2s := A2.s
  have l2 := A2.lt
  have hW0 : 0 < W.heap.size := wlt hB hlt
  have hmW : W.cell? ⟨0, 0, none⟩ = some (.int .i64 m) := (hB.cell (p := ⟨0, 0, none⟩) hlt).trans hm
  go_wp2_with (go_at_call 20; refine (awake_any _ m hmW).mono ?_; rintro e w3 ⟨rfl, hb3⟩)
  go_ret
  exact ⟨rfl, hB.trans (hb3.mono hB.size)⟩

set_option maxRecDepth 100000 in
set_option maxHeartbeats 40000000 in
theorem law_less_yes (k i : Int) (s : ByteArray) (k' i' : Int) (s' : ByteArray) (w : World) (hs : s.size ≤ maxLen) (hs' : s'.size ≤ maxLen) (m : Int) (hm : w.cell? ⟨0, 0, none⟩ = some (.int .i64 m)) (hal : alikeB k i (fewS s) k' i' (fewS s') = true) :
    Calls Tryd.prog 9 #[.agg #[.int .i64 k, .int .i64 i, .string s], .agg #[.int .i64 k', .int .i64 i', .string s']] w fun e w' => e = .returned (.bool true) ∧ Below w.heap.size w w' := by
  have hlt : 0 < w.heap.size := World.block_lt_of_cell? w _ hm
  have HAL := Lib.hid hal
  clear hal
  go_enter Tryd.func9, Tryd.ntmps9
  go_wp2
  refine detL_begin [.val (.agg #[.int .i64 k, .int .i64 i, .string s]), .val (.agg #[.int .i64 k, .int .i64 i, .string (fewS s)]), .val (.agg #[.int .i64 k', .int .i64 i', .string s']), .val (.agg #[.int .i64 k', .int .i64 i', .string (fewS s')])] 4 (by kernel_rfl) ?_
  refine detL_val (by kernel_rfl) (yields_of rfl fun w1 hb1 => ?_) ?_
  · have hc1 := bcellD hb1
    clear hb1
    go_simp
    exact Det1_same
  simp only [Act.put, List.setIfInBounds_toArray, List.set_cons_zero, List.set_cons_succ]
  refine detL_val (by kernel_rfl) (yields_of rfl fun w1 hb1 => ?_) ?_
  · have hc1 := bcellD hb1
    clear hb1
    go_simp
    exact Det1_enter (few_any _ _ _ _ hs)
  simp only [Act.put, List.setIfInBounds_toArray, List.set_cons_zero, List.set_cons_succ]
  refine detL_val (by kernel_rfl) (yields_of rfl fun w1 hb1 => ?_) ?_
  · have hc1 := bcellD hb1
    clear hb1
    go_simp
    exact Det1_same
  simp only [Act.put, List.setIfInBounds_toArray, List.set_cons_zero, List.set_cons_succ]
  refine detL_val (by kernel_rfl) (yields_of rfl fun w1 hb1 => ?_) ?_
  · have hc1 := bcellD hb1
    clear hb1
    go_simp
    exact Det1_enter (few_any _ _ _ _ hs')
  simp only [Act.put, List.setIfInBounds_toArray, List.set_cons_zero, List.set_cons_succ]
  refine detL_tail rfl (by kernel_rfl) fun w1 hw1 => ?_
  have hb1 := hw1.below
  clear hw1
  have hc1 := (bcell hb1).1
  have hf1 := (bcell hb1).2
  have hy1 := hb1.size
  (try simp at hy1)
  have hz1_0 : w.heap.size < w1.heap.size := (by omega)
  have hz1_1 : w.heap.size + 1 < w1.heap.size := (by omega)
  have a0 : At3 w1 w.heap.size k i s := At3.later (by repeat (first | (with_reducible assumption) | (with_reducible exact Box.of (by assumption)) | ((with_reducible refine At3.new ?_); simp) | (with_reducible refine At3.drew ?_) | (with_reducible refine At3.alloc ?_ _) | (with_reducible refine Box.drew ?_) | (with_reducible refine Box.alloc ?_ _) | (with_reducible refine Box.set ?_ _ _ _) | ((with_reducible refine At3.set_other' ?_ ?_ _ _ _); (· omega)) | ((with_reducible refine Box.set_other ?_ ?_ _ _ _); (· omega)))) hb1
  have a1 : At3 w1 (w.heap.size + 1) k' i' s' := At3.later (by repeat (first | (with_reducible assumption) | (with_reducible exact Box.of (by assumption)) | ((with_reducible refine At3.new ?_); simp) | (with_reducible refine At3.drew ?_) | (with_reducible refine At3.alloc ?_ _) | (with_reducible refine Box.drew ?_) | (with_reducible refine Box.alloc ?_ _) | (with_reducible refine Box.set ?_ _ _ _) | ((with_reducible refine At3.set_other' ?_ ?_ _ _ _); (· omega)) | ((with_reducible refine Box.set_other ?_ ?_ _ _ _); (· omega)))) hb1
  have HH := Lib.hid (And.intro a0 a1)
  clear a0 a1
  go_upto_region 2 with (fail)
  have a0 := HH.out.1
  have a1 := HH.out.2
  refine wp_gen (fun W => Below w.heap.size w W ∧ At3 W w.heap.size k i (fewS s) ∧ At3 W (w.heap.size + 1) k' i' (fewS s')) ⟨?_, ?_, ?_⟩ ?_
  · repeat (first | (with_reducible exact Below.refl _ _) | ((with_reducible refine cSet3 ?_ ?_ _ _ _); (· ((try simp) <;> omega))) | (with_reducible refine Below.drew ?_) | ((with_reducible refine cAlloc ?_ ?_ _); (· ((try simp) <;> omega))) | ((with_reducible refine cOn (by assumption) ?_ ?_); (· ((try simp) <;> omega))))
  · repeat (first | (with_reducible assumption) | (with_reducible exact Box.of (by assumption)) | ((with_reducible refine At3.new ?_); simp) | (with_reducible refine At3.drew ?_) | (with_reducible refine At3.alloc ?_ _) | (with_reducible refine Box.drew ?_) | (with_reducible refine Box.alloc ?_ _) | (with_reducible refine Box.set ?_ _ _ _) | ((with_reducible refine At3.set_other' ?_ ?_ _ _ _); (· omega)) | ((with_reducible refine Box.set_other ?_ ?_ _ _ _); (· omega)))
  · repeat (first | (with_reducible assumption) | (with_reducible exact Box.of (by assumption)) | ((with_reducible refine At3.new ?_); simp) | (with_reducible refine At3.drew ?_) | (with_reducible refine At3.alloc ?_ _) | (with_reducible refine Box.drew ?_) | (with_reducible refine Box.alloc ?_ _) | (with_reducible refine Box.set ?_ _ _ _) | ((with_reducible refine At3.set_other' ?_ ?_ _ _ _); (· omega)) | ((with_reducible refine Box.set_other ?_ ?_ _ _ _); (· omega)))
  clear hc1 hf1 hb1 hy1 hz1_0 hz1_1 a0 a1 HH
  rintro W ⟨hB, A0, A1⟩
  have c0k := A0.k
  have c0i := A0.i
  have c0s := A0.s
  have l0 := A0.lt
  have c1k := A1.k
  have c1i := A1.i
  have c1s := A1.s
  have l1 := A1.lt
  have hmW : W.cell? ⟨0, 0, none⟩ = some (.int .i64 m) := (hB.cell (p := ⟨0, 0, none⟩) hlt).trans hm
  refine detL_begin [.val (.agg #[.int .i64 k, .int .i64 i, .string (fewS s)]), .val (.agg #[.int .i64 k', .int .i64 i', .string (fewS s')]), .val (.agg #[.int .i64 3, .int .i64 (b2i (decide (ordN k i (fewS s) k' i' (fewS s') < 0))), .string ⟨#[]⟩]), .val (.agg #[.int .i64 k', .int .i64 i', .string (fewS s')]), .val (.agg #[.int .i64 k, .int .i64 i, .string (fewS s)]), .val (.agg #[.int .i64 3, .int .i64 (b2i (decide (ordN k' i' (fewS s') k i (fewS s) < 0))), .string ⟨#[]⟩]), .val (.agg #[.int .i64 k, .int .i64 i, .string (fewS s)]), .val (.agg #[.int .i64 k', .int .i64 i', .string (fewS s')]), .val (.agg #[.int .i64 3, .int .i64 (b2i (ordN k i (fewS s) k' i' (fewS s') == 0)), .string ⟨#[]⟩]), .rel newR, .rel newR, .rel newR] 12 (by kernel_rfl) ?_
  refine detL_val (by kernel_rfl) (yields_of rfl fun w1 hb1 => ?_) ?_
  · have hc1 := bcellD hb1
    clear hb1
    go_simp
    exact Det1_same
  simp only [Act.put, List.setIfInBounds_toArray, List.set_cons_zero, List.set_cons_succ]
  refine detL_val (by kernel_rfl) (yields_of rfl fun w1 hb1 => ?_) ?_
  · have hc1 := bcellD hb1
    clear hb1
    go_simp
    exact Det1_same
  simp only [Act.put, List.setIfInBounds_toArray, List.set_cons_zero, List.set_cons_succ]
  refine detL_val (by kernel_rfl) (yields_of rfl fun w1 hb1 => ?_) ?_
  · have hc1 := bcellD hb1
    clear hb1
    go_simp
    exact Det1_enter (less_yes _ _ _ _ _ _ _ HAL.out)
  simp only [Act.put, List.setIfInBounds_toArray, List.set_cons_zero, List.set_cons_succ]
  refine detL_val (by kernel_rfl) (yields_of rfl fun w1 hb1 => ?_) ?_
  · have hc1 := bcellD hb1
    clear hb1
    go_simp
    exact Det1_same
  simp only [Act.put, List.setIfInBounds_toArray, List.set_cons_zero, List.set_cons_succ]
  refine detL_val (by kernel_rfl) (yields_of rfl fun w1 hb1 => ?_) ?_
  · have hc1 := bcellD hb1
    clear hb1
    go_simp
    exact Det1_same
  simp only [Act.put, List.setIfInBounds_toArray, List.set_cons_zero, List.set_cons_succ]
  refine detL_val (by kernel_rfl) (yields_of rfl fun w1 hb1 => ?_) ?_
  · have hc1 := bcellD hb1
    clear hb1
    go_simp
    exact Det1_enter (less_yes _ _ _ _ _ _ _ ((alike_comm _ _ _ _ _ _).trans HAL.out))
  simp only [Act.put, List.setIfInBounds_toArray, List.set_cons_zero, List.set_cons_succ]
  refine detL_val (by kernel_rfl) (yields_of rfl fun w1 hb1 => ?_) ?_
  · have hc1 := bcellD hb1
    clear hb1
    go_simp
    exact Det1_same
  simp only [Act.put, List.setIfInBounds_toArray, List.set_cons_zero, List.set_cons_succ]
  refine detL_val (by kernel_rfl) (yields_of rfl fun w1 hb1 => ?_) ?_
  · have hc1 := bcellD hb1
    clear hb1
    go_simp
    exact Det1_same
  simp only [Act.put, List.setIfInBounds_toArray, List.set_cons_zero, List.set_cons_succ]
  refine detL_val (by kernel_rfl) (yields_of rfl fun w1 hb1 => ?_) ?_
  · have hc1 := bcellD hb1
    clear hb1
    go_simp
    exact Det1_enter (equal_yes _ _ _ _ _ _ _ HAL.out)
  simp only [Act.put, List.setIfInBounds_toArray, List.set_cons_zero, List.set_cons_succ]
  refine detL_rel (by kernel_rfl) (yields_rel (by rfl) newR_lasting fun w1 hw1 => ?_) ?_
  · clear hw1
    go_simp
    exact newR_made
  rintro v F w1 hw1
  obtain ⟨b0, rfl, rfl, -⟩ := (hw1.ents _ List.mem_cons_self).1
  clear hw1
  simp only [Act.put, List.setIfInBounds_toArray, List.set_cons_zero, List.set_cons_succ]
  refine detL_rel (by kernel_rfl) (yields_rel (by rfl) newR_lasting fun w1 hw1 => ?_) ?_
  · clear hw1
    go_simp
    exact newR_made
  rintro v F w1 hw1
  obtain ⟨b1, rfl, rfl, -⟩ := (hw1.ents _ List.mem_cons_self).1
  clear hw1
  simp only [Act.put, List.setIfInBounds_toArray, List.set_cons_zero, List.set_cons_succ]
  refine detL_rel (by kernel_rfl) (yields_rel (by rfl) newR_lasting fun w1 hw1 => ?_) ?_
  · clear hw1
    go_simp
    exact newR_made
  rintro v F w1 hw1
  obtain ⟨b2, rfl, rfl, -⟩ := (hw1.ents _ List.mem_cons_self).1
  clear hw1
  simp only [Act.put, List.setIfInBounds_toArray, List.set_cons_zero, List.set_cons_succ]
  refine detL_tail rfl (by kernel_rfl) fun w1 hw1 => ?_
  have e2 := hw1.ents _ List.mem_cons_self
  have e1 := hw1.ents _ (List.mem_cons_of_mem _ List.mem_cons_self)
  have e0 := hw1.ents _ (List.mem_cons_of_mem _ (List.mem_cons_of_mem _ List.mem_cons_self))
  have B2 : At3 w1 b2 0 0 ⟨#[]⟩ := (newR_at e2.1).1
  have B1 : At3 w1 b1 0 0 ⟨#[]⟩ := (newR_at e1.1).1
  have B0 : At3 w1 b0 0 0 ⟨#[]⟩ := (newR_at e0.1).1
  have z2 := (newR_at e2.1).2
  have z1 := (newR_at e1.1).2
  have z0 := (newR_at e0.1).2
  have n0 : w.heap.size ≤ b0 := Nat.le_trans hB.size (e0.2.2 b0 List.mem_cons_self).1
  have n1 : w.heap.size ≤ b1 := Nat.le_trans hB.size (e1.2.2 b1 List.mem_cons_self).1
  have n2 : w.heap.size ≤ b2 := Nat.le_trans hB.size (e2.2.2 b2 List.mem_cons_self).1
  have ap := hw1.apart
  simp only [List.pairwise_cons, List.mem_cons, List.not_mem_nil, or_false, forall_eq_or_imp, forall_eq] at ap
  have d21 : b2 ≠ b1 := ap.1.1
  have d20 : b2 ≠ b0 := ap.1.2
  have d10 : b1 ≠ b0 := ap.2.1
  have hb1 := hB.drew.trans (hw1.below.mono hB.size)
  clear hw1 e0 e1 e2 ap hB A0 A1 hmW c0k c0i c0s l0 c1k c1i c1s l1
  have HH := Lib.hid (And.intro B0 (And.intro B1 (And.intro B2 hb1)))
  have k0 := B0.k
  have i0 := B0.i
  have s0 := B0.s
  have k1 := B1.k
  have i1 := B1.i
  have s1 := B1.s
  have k2 := B2.k
  have i2 := B2.i
  have s2 := B2.s
  clear B0 B1 B2 hb1
  go_upto_region 3 with (fail)
  have B0 := HH.out.1
  have B1 := HH.out.2.1
  have B2 := HH.out.2.2.1
  have hb1 := HH.out.2.2.2
  refine wp_gen (fun W => Below w.heap.size w W ∧ At3 W b0 3 (b2i (decide (ordN k i (fewS s) k' i' (fewS s') < 0))) ⟨#[]⟩ ∧ At3 W b1 3 (b2i (decide (ordN k' i' (fewS s') k i (fewS s) < 0))) ⟨#[]⟩ ∧ At3 W b2 3 (b2i (ordN k i (fewS s) k' i' (fewS s') == 0)) ⟨#[]⟩) ⟨?_, ?_, ?_, ?_⟩ ?_
  · repeat (first | (with_reducible exact Below.refl _ _) | ((with_reducible refine cSet3 ?_ ?_ _ _ _); (· ((try simp) <;> omega))) | (with_reducible refine Below.drew ?_) | ((with_reducible refine cAlloc ?_ ?_ _); (· ((try simp) <;> omega))) | ((with_reducible refine cOn (by assumption) ?_ ?_); (· ((try simp) <;> omega))))
  · repeat (first | (with_reducible assumption) | (with_reducible exact Box.of (by assumption)) | ((with_reducible refine At3.new ?_); simp) | (with_reducible refine At3.drew ?_) | (with_reducible refine At3.alloc ?_ _) | (with_reducible refine Box.drew ?_) | (with_reducible refine Box.alloc ?_ _) | (with_reducible refine Box.set ?_ _ _ _) | ((with_reducible refine At3.set_other' ?_ ?_ _ _ _); (· omega)) | ((with_reducible refine Box.set_other ?_ ?_ _ _ _); (· omega)))
  · repeat (first | (with_reducible assumption) | (with_reducible exact Box.of (by assumption)) | ((with_reducible refine At3.new ?_); simp) | (with_reducible refine At3.drew ?_) | (with_reducible refine At3.alloc ?_ _) | (with_reducible refine Box.drew ?_) | (with_reducible refine Box.alloc ?_ _) | (with_reducible refine Box.set ?_ _ _ _) | ((with_reducible refine At3.set_other' ?_ ?_ _ _ _); (· omega)) | ((with_reducible refine Box.set_other ?_ ?_ _ _ _); (· omega)))
  · repeat (first | (with_reducible assumption) | (with_reducible exact Box.of (by assumption)) | ((with_reducible refine At3.new ?_); simp) | (with_reducible refine At3.drew ?_) | (with_reducible refine At3.alloc ?_ _) | (with_reducible refine Box.drew ?_) | (with_reducible refine Box.alloc ?_ _) | (with_reducible refine Box.set ?_ _ _ _) | ((with_reducible refine At3.set_other' ?_ ?_ _ _ _); (· omega)) | ((with_reducible refine Box.set_other ?_ ?_ _ _ _); (· omega)))
  clear k0 i0 s0 k1 i1 s1 k2 i2 s2 z0 z1 z2 B0 B1 B2 hb1 HH n0 n1 n2 d21 d20 d10
  rintro W ⟨hB, A0, A1, A2⟩
  have c0k := A0.k
  have c0i := A0.i
  have c0s := A0.s
  have l0 := A0.lt
  have c1k := A1.k
  have c1i := A1.i
  have c1s := A1.s
  have l1 := A1.lt
  have c2k := A2.k
  have c2i := A2.i
  have c2s := A2.s
  have l2 := A2.lt
  have hW0 : 0 < W.heap.size := wlt hB hlt
  have hmW : W.cell? ⟨0, 0, none⟩ = some (.int .i64 m) := (hB.cell (p := ⟨0, 0, none⟩) hlt).trans hm
  have hone := one_of_three k i (fewS s) k' i' (fewS s')
  have h1 := b2i_bd (decide (ordN k i (fewS s) k' i' (fewS s') < 0))
  have h2 := b2i_bd (decide (ordN k' i' (fewS s') k i (fewS s) < 0))
  have h3 := b2i_bd (ordN k i (fewS s) k' i' (fewS s') == 0)
  generalize (b2i (decide (ordN k i (fewS s) k' i' (fewS s') < 0))) = x at *
  generalize (b2i (decide (ordN k' i' (fewS s') k i (fewS s) < 0))) = y at *
  generalize (b2i (ordN k i (fewS s) k' i' (fewS s') == 0)) = z at *
  have e1 : (x + y + z == 1) = true := beq_iff_eq.2 hone
  clear hone
  go_wp2_with (go_at_call 20; refine (awake_any _ m hmW).mono ?_; rintro e w3 ⟨rfl, hb3⟩)
  go_ret
  exact ⟨rfl, hB.trans (hb3.mono hB.size)⟩

theorem law_less (k i : Int) (s : ByteArray) (k' i' : Int) (s' : ByteArray) (w : World) (hs : s.size ≤ maxLen) (hs' : s'.size ≤ maxLen) (m : Int) (hm : w.cell? ⟨0, 0, none⟩ = some (.int .i64 m)) :
    Calls Tryd.prog 9 #[.agg #[.int .i64 k, .int .i64 i, .string s], .agg #[.int .i64 k', .int .i64 i', .string s']] w fun e w' => e = .returned (.bool true) ∧ Below w.heap.size w w' := by
  cases h : alikeB k i (fewS s) k' i' (fewS s') with
  | true => exact law_less_yes k i s k' i' s' w hs hs' m hm h
  | false => exact law_less_no k i s k' i' s' w hs hs' m hm h
end Go.Proofs.YtljcdebaoceimaaDoor
