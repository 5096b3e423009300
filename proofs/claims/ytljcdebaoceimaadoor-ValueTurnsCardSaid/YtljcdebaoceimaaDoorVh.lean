import Derived.Test.YtljcdebaoceimaaDoorVg
/- The law ValueTurns: And and Or in whatever order, Not of both. -/
namespace Go.Proofs.YtljcdebaoceimaaDoor
open Go.RowKit Go.Lib

theorem minN_comm (x y : Int) : minN x y = minN y x := by unfold minN; split <;> split <;> omega
theorem maxN_comm (x y : Int) : maxN x y = maxN y x := by unfold maxN; split <;> split <;> omega
theorem minN_assoc (x y z : Int) : minN (minN x y) z = minN x (minN y z) := by
  unfold minN; by_cases h1 : x ≤ y <;> by_cases h2 : y ≤ z <;> by_cases h3 : x ≤ z <;> simp [h1, h2, h3] <;> omega
theorem maxN_assoc (x y z : Int) : maxN (maxN x y) z = maxN x (maxN y z) := by
  unfold maxN; by_cases h1 : x ≤ y <;> by_cases h2 : y ≤ z <;> by_cases h3 : x ≤ z <;> simp [h1, h2, h3] <;> omega
theorem two_min (x y : Int) : maxN (2 - x) (2 - y) = 2 - minN x y := by unfold maxN minN; split <;> split <;> omega
theorem minN_self (x : Int) : minN x x = x := by unfold minN; split <;> rfl

theorem and_sw (k i : Int) (s : ByteArray) (k' i' : Int) (s' : ByteArray) (w : World) :
    Calls Tryd.prog 14 #[.agg #[.int .i64 k, .int .i64 i, .string s], .agg #[.int .i64 k', .int .i64 i', .string s']] w fun e w' => e = .returned (.agg #[.int .i64 (triK (minN (saysN k' i' s') (saysN k i s))), .int .i64 (triI (minN (saysN k' i' s') (saysN k i s))), .string ⟨#[]⟩]) ∧ Below w.heap.size w w' := by
  rw [minN_comm (saysN k' i' s') (saysN k i s)]
  exact and_any k i s k' i' s' w
theorem and_l (k i : Int) (s : ByteArray) (m : Int) (w : World) (hm : 0 ≤ m ∧ m ≤ 2) :
    Calls Tryd.prog 14 #[.agg #[.int .i64 (triK (m)), .int .i64 (triI (m)), .string ⟨#[]⟩], .agg #[.int .i64 k, .int .i64 i, .string s]] w fun e w' => e = .returned (.agg #[.int .i64 (triK (minN m (saysN k i s))), .int .i64 (triI (minN m (saysN k i s))), .string ⟨#[]⟩]) ∧ Below w.heap.size w w' := by
  have h := and_any (triK m) (triI m) ⟨#[]⟩ k i s w
  rw [says_tri m hm.1 hm.2] at h
  exact h
theorem and_ra (k i : Int) (s : ByteArray) (y z : Int) (w : World) (hm : 0 ≤ minN y z ∧ minN y z ≤ 2) :
    Calls Tryd.prog 14 #[.agg #[.int .i64 k, .int .i64 i, .string s], .agg #[.int .i64 (triK (minN y z)), .int .i64 (triI (minN y z)), .string ⟨#[]⟩]] w fun e w' => e = .returned (.agg #[.int .i64 (triK (minN (minN (saysN k i s) y) z)), .int .i64 (triI (minN (minN (saysN k i s) y) z)), .string ⟨#[]⟩]) ∧ Below w.heap.size w w' := by
  have h := and_any k i s (triK (minN y z)) (triI (minN y z)) ⟨#[]⟩ w
  rw [says_tri _ hm.1 hm.2, ← minN_assoc] at h
  exact h
theorem or_sw (k i : Int) (s : ByteArray) (k' i' : Int) (s' : ByteArray) (w : World) :
    Calls Tryd.prog 16 #[.agg #[.int .i64 k, .int .i64 i, .string s], .agg #[.int .i64 k', .int .i64 i', .string s']] w fun e w' => e = .returned (.agg #[.int .i64 (triK (maxN (saysN k' i' s') (saysN k i s))), .int .i64 (triI (maxN (saysN k' i' s') (saysN k i s))), .string ⟨#[]⟩]) ∧ Below w.heap.size w w' := by
  rw [maxN_comm (saysN k' i' s') (saysN k i s)]
  exact or_any k i s k' i' s' w
theorem or_l (k i : Int) (s : ByteArray) (m : Int) (w : World) (hm : 0 ≤ m ∧ m ≤ 2) :
    Calls Tryd.prog 16 #[.agg #[.int .i64 (triK (m)), .int .i64 (triI (m)), .string ⟨#[]⟩], .agg #[.int .i64 k, .int .i64 i, .string s]] w fun e w' => e = .returned (.agg #[.int .i64 (triK (maxN m (saysN k i s))), .int .i64 (triI (maxN m (saysN k i s))), .string ⟨#[]⟩]) ∧ Below w.heap.size w w' := by
  have h := or_any (triK m) (triI m) ⟨#[]⟩ k i s w
  rw [says_tri m hm.1 hm.2] at h
  exact h
theorem or_ra (k i : Int) (s : ByteArray) (y z : Int) (w : World) (hm : 0 ≤ maxN y z ∧ maxN y z ≤ 2) :
    Calls Tryd.prog 16 #[.agg #[.int .i64 k, .int .i64 i, .string s], .agg #[.int .i64 (triK (maxN y z)), .int .i64 (triI (maxN y z)), .string ⟨#[]⟩]] w fun e w' => e = .returned (.agg #[.int .i64 (triK (maxN (maxN (saysN k i s) y) z)), .int .i64 (triI (maxN (maxN (saysN k i s) y) z)), .string ⟨#[]⟩]) ∧ Below w.heap.size w w' := by
  have h := or_any k i s (triK (maxN y z)) (triI (maxN y z)) ⟨#[]⟩ w
  rw [says_tri _ hm.1 hm.2, ← maxN_assoc] at h
  exact h
theorem not_t (m : Int) (w : World) (hm : 0 ≤ m ∧ m ≤ 2) :
    Calls Tryd.prog 18 #[.agg #[.int .i64 (triK (m)), .int .i64 (triI (m)), .string ⟨#[]⟩]] w fun e w' => e = .returned (.agg #[.int .i64 (triK (2 - m)), .int .i64 (triI (2 - m)), .string ⟨#[]⟩]) ∧ Below w.heap.size w w' := by
  have h := not_any (triK m) (triI m) ⟨#[]⟩ w
  rw [says_tri m hm.1 hm.2] at h
  exact h
theorem not_nn (m : Int) (w : World) (hm : 0 ≤ m ∧ m ≤ 2) :
    Calls Tryd.prog 18 #[.agg #[.int .i64 (triK (2 - m)), .int .i64 (triI (2 - m)), .string ⟨#[]⟩]] w fun e w' => e = .returned (.agg #[.int .i64 (triK (m)), .int .i64 (triI (m)), .string ⟨#[]⟩]) ∧ Below w.heap.size w w' := by
  have h := not_t (2 - m) w (by omega)
  rw [show 2 - (2 - m) = m by omega] at h
  exact h
theorem or_nn (x y : Int) (w : World) (hx : 0 ≤ x ∧ x ≤ 2) (hy : 0 ≤ y ∧ y ≤ 2) :
    Calls Tryd.prog 16 #[.agg #[.int .i64 (triK (2 - x)), .int .i64 (triI (2 - x)), .string ⟨#[]⟩], .agg #[.int .i64 (triK (2 - y)), .int .i64 (triI (2 - y)), .string ⟨#[]⟩]] w fun e w' => e = .returned (.agg #[.int .i64 (triK (2 - minN x y)), .int .i64 (triI (2 - minN x y)), .string ⟨#[]⟩]) ∧ Below w.heap.size w w' := by
  have h := or_any (triK (2 - x)) (triI (2 - x)) ⟨#[]⟩ (triK (2 - y)) (triI (2 - y)) ⟨#[]⟩ w
  rw [says_tri _ (by omega) (by omega), says_tri _ (by omega) (by omega), two_min] at h
  exact h
theorem and_aa (k i : Int) (s : ByteArray) (w : World) :
    Calls Tryd.prog 14 #[.agg #[.int .i64 k, .int .i64 i, .string s], .agg #[.int .i64 k, .int .i64 i, .string s]] w fun e w' => e = .returned (.agg #[.int .i64 (triK (saysN k i s)), .int .i64 (triI (saysN k i s)), .string ⟨#[]⟩]) ∧ Below w.heap.size w w' := by
  have h := and_any k i s k i s w
  rw [minN_self] at h
  exact h

set_option maxRecDepth 100000 in
set_option maxHeartbeats 40000000 in
theorem law_turns (k i : Int) (s : ByteArray) (k' i' : Int) (s' : ByteArray) (k'' i'' : Int) (s'' : ByteArray) (w : World) (hs : s.size ≤ maxLen) (hs' : s'.size ≤ maxLen) (hs'' : s''.size ≤ maxLen) (m : Int) (hm : w.cell? ⟨0, 0, none⟩ = some (.int .i64 m)) :
    Calls Tryd.prog 6 #[.agg #[.int .i64 k, .int .i64 i, .string s], .agg #[.int .i64 k', .int .i64 i', .string s'], .agg #[.int .i64 k'', .int .i64 i'', .string s'']] w fun e w' => e = .returned (.bool true) ∧ Below w.heap.size w w' := by
  have hlt : 0 < w.heap.size := World.block_lt_of_cell? w _ hm
  go_enter Tryd.func6, Tryd.ntmps6
  go_wp2
  refine detL_begin [.val (.agg #[.int .i64 k, .int .i64 i, .string s]), .val (.agg #[.int .i64 k, .int .i64 i, .string (fewS s)]), .val (.agg #[.int .i64 k', .int .i64 i', .string s']), .val (.agg #[.int .i64 k', .int .i64 i', .string (fewS s')]), .val (.agg #[.int .i64 k'', .int .i64 i'', .string s'']), .val (.agg #[.int .i64 k'', .int .i64 i'', .string (fewS s'')])] 6 (by kernel_rfl) ?_
  repeat
    (refine detL_val (by kernel_rfl) (yields_of rfl fun w1 hb1 => ?_) ?_
     · have hc1 := bcellD hb1
       clear hb1
       go_simp
       with_reducible first
         | exact Det1_same
         | exact Det1_enter (few_any _ _ _ _ hs)
         | exact Det1_enter (few_any _ _ _ _ hs')
         | exact Det1_enter (few_any _ _ _ _ hs'')
     simp only [Act.put, List.setIfInBounds_toArray, List.set_cons_zero, List.set_cons_succ])
  refine detL_tail rfl (by kernel_rfl) fun w1 hw1 => ?_
  have hb1 := hw1.below
  clear hw1
  have hc1 := (bcell hb1).1
  have hf1 := (bcell hb1).2
  have hy1 := hb1.size
  (try simp at hy1)
  have hz1_0 : w.heap.size < w1.heap.size := (by omega)
  have hz1_1 : w.heap.size + 1 < w1.heap.size := (by omega)
  have hz1_2 : w.heap.size + 1 + 1 < w1.heap.size := (by omega)
  have a0 : At3 w1 w.heap.size k i s := At3.later (by repeat (first | (with_reducible assumption) | (with_reducible exact Box.of (by assumption)) | ((with_reducible refine At3.new ?_); simp) | (with_reducible refine At3.drew ?_) | (with_reducible refine At3.alloc ?_ _) | (with_reducible refine Box.drew ?_) | (with_reducible refine Box.alloc ?_ _) | (with_reducible refine Box.set ?_ _ _ _) | ((with_reducible refine At3.set_other' ?_ ?_ _ _ _); (· omega)) | ((with_reducible refine Box.set_other ?_ ?_ _ _ _); (· omega)))) hb1
  have a1 : At3 w1 (w.heap.size + 1) k' i' s' := At3.later (by repeat (first | (with_reducible assumption) | (with_reducible exact Box.of (by assumption)) | ((with_reducible refine At3.new ?_); simp) | (with_reducible refine At3.drew ?_) | (with_reducible refine At3.alloc ?_ _) | (with_reducible refine Box.drew ?_) | (with_reducible refine Box.alloc ?_ _) | (with_reducible refine Box.set ?_ _ _ _) | ((with_reducible refine At3.set_other' ?_ ?_ _ _ _); (· omega)) | ((with_reducible refine Box.set_other ?_ ?_ _ _ _); (· omega)))) hb1
  have a2 : At3 w1 (w.heap.size + 1 + 1) k'' i'' s'' := At3.later (by repeat (first | (with_reducible assumption) | (with_reducible exact Box.of (by assumption)) | ((with_reducible refine At3.new ?_); simp) | (with_reducible refine At3.drew ?_) | (with_reducible refine At3.alloc ?_ _) | (with_reducible refine Box.drew ?_) | (with_reducible refine Box.alloc ?_ _) | (with_reducible refine Box.set ?_ _ _ _) | ((with_reducible refine At3.set_other' ?_ ?_ _ _ _); (· omega)) | ((with_reducible refine Box.set_other ?_ ?_ _ _ _); (· omega)))) hb1
  have HH := Lib.hid (And.intro a0 (And.intro a1 a2))
  clear a0 a1 a2
  go_upto_region 2 with (fail)
  have a0 := HH.out.1
  have a1 := HH.out.2.1
  have a2 := HH.out.2.2
  refine wp_gen (fun W => Below w.heap.size w W ∧ At3 W w.heap.size k i (fewS s) ∧ At3 W (w.heap.size + 1) k' i' (fewS s') ∧ At3 W (w.heap.size + 1 + 1) k'' i'' (fewS s'')) ⟨?_, ?_, ?_, ?_⟩ ?_
  · repeat (first | (with_reducible exact Below.refl _ _) | ((with_reducible refine cSet3 ?_ ?_ _ _ _); (· ((try simp) <;> omega))) | (with_reducible refine Below.drew ?_) | ((with_reducible refine cAlloc ?_ ?_ _); (· ((try simp) <;> omega))) | ((with_reducible refine cOn (by assumption) ?_ ?_); (· ((try simp) <;> omega))))
  · repeat (first | (with_reducible assumption) | (with_reducible exact Box.of (by assumption)) | ((with_reducible refine At3.new ?_); simp) | (with_reducible refine At3.drew ?_) | (with_reducible refine At3.alloc ?_ _) | (with_reducible refine Box.drew ?_) | (with_reducible refine Box.alloc ?_ _) | (with_reducible refine Box.set ?_ _ _ _) | ((with_reducible refine At3.set_other' ?_ ?_ _ _ _); (· omega)) | ((with_reducible refine Box.set_other ?_ ?_ _ _ _); (· omega)))
  · repeat (first | (with_reducible assumption) | (with_reducible exact Box.of (by assumption)) | ((with_reducible refine At3.new ?_); simp) | (with_reducible refine At3.drew ?_) | (with_reducible refine At3.alloc ?_ _) | (with_reducible refine Box.drew ?_) | (with_reducible refine Box.alloc ?_ _) | (with_reducible refine Box.set ?_ _ _ _) | ((with_reducible refine At3.set_other' ?_ ?_ _ _ _); (· omega)) | ((with_reducible refine Box.set_other ?_ ?_ _ _ _); (· omega)))
  · repeat (first | (with_reducible assumption) | (with_reducible exact Box.of (by assumption)) | ((with_reducible refine At3.new ?_); simp) | (with_reducible refine At3.drew ?_) | (with_reducible refine At3.alloc ?_ _) | (with_reducible refine Box.drew ?_) | (with_reducible refine Box.alloc ?_ _) | (with_reducible refine Box.set ?_ _ _ _) | ((with_reducible refine At3.set_other' ?_ ?_ _ _ _); (· omega)) | ((with_reducible refine Box.set_other ?_ ?_ _ _ _); (· omega)))
  clear hc1 hf1 hb1 hy1 hz1_0 hz1_1 hz1_2 a0 a1 a2 HH
  rintro W ⟨hB, A0, A1, A2⟩
  have c0k := A0.k
  have c0i := A0.i
  have c0s := A0.s
  have l0 := A0.lt
  have c1k := A1.k
  have c1i := A1.i
  have c1s := A1.s
  have l1 := A1.lt
  have c2k := A2.k
  have c2i := A2.i
  have c2s := A2.s
  have l2 := A2.lt
  have hW0 : 0 < W.heap.size := wlt hB hlt
  have hmW : W.cell? ⟨0, 0, none⟩ = some (.int .i64 m) := (hB.cell (p := ⟨0, 0, none⟩) hlt).trans hm
  refine detL_begin [.val (.agg #[.int .i64 k, .int .i64 i, .string (fewS s)]), .val (.agg #[.int .i64 k', .int .i64 i', .string (fewS s')]), .val (.agg #[.int .i64 (triK (minN (saysN k i (fewS s)) (saysN k' i' (fewS s')))), .int .i64 (triI (minN (saysN k i (fewS s)) (saysN k' i' (fewS s')))), .string ⟨#[]⟩]), .val (.agg #[.int .i64 k', .int .i64 i', .string (fewS s')]), .val (.agg #[.int .i64 k, .int .i64 i, .string (fewS s)]), .val (.agg #[.int .i64 (triK (minN (saysN k i (fewS s)) (saysN k' i' (fewS s')))), .int .i64 (triI (minN (saysN k i (fewS s)) (saysN k' i' (fewS s')))), .string ⟨#[]⟩]), .val (.bool false), .val (.bool false), .val (.agg #[.int .i64 k, .int .i64 i, .string (fewS s)]), .val (.agg #[.int .i64 k', .int .i64 i', .string (fewS s')]), .val (.agg #[.int .i64 (triK (maxN (saysN k i (fewS s)) (saysN k' i' (fewS s')))), .int .i64 (triI (maxN (saysN k i (fewS s)) (saysN k' i' (fewS s')))), .string ⟨#[]⟩]), .val (.agg #[.int .i64 k', .int .i64 i', .string (fewS s')]), .val (.agg #[.int .i64 k, .int .i64 i, .string (fewS s)]), .val (.agg #[.int .i64 (triK (maxN (saysN k i (fewS s)) (saysN k' i' (fewS s')))), .int .i64 (triI (maxN (saysN k i (fewS s)) (saysN k' i' (fewS s')))), .string ⟨#[]⟩]), .val (.bool false), .val (.bool false), .val (.bool false), .val (.agg #[.int .i64 k, .int .i64 i, .string (fewS s)]), .val (.agg #[.int .i64 k', .int .i64 i', .string (fewS s')]), .val (.agg #[.int .i64 (triK (minN (saysN k i (fewS s)) (saysN k' i' (fewS s')))), .int .i64 (triI (minN (saysN k i (fewS s)) (saysN k' i' (fewS s')))), .string ⟨#[]⟩]), .val (.agg #[.int .i64 k'', .int .i64 i'', .string (fewS s'')]), .val (.agg #[.int .i64 (triK (minN (minN (saysN k i (fewS s)) (saysN k' i' (fewS s'))) (saysN k'' i'' (fewS s'')))), .int .i64 (triI (minN (minN (saysN k i (fewS s)) (saysN k' i' (fewS s'))) (saysN k'' i'' (fewS s'')))), .string ⟨#[]⟩]), .val (.agg #[.int .i64 k, .int .i64 i, .string (fewS s)]), .val (.agg #[.int .i64 k', .int .i64 i', .string (fewS s')]), .val (.agg #[.int .i64 k'', .int .i64 i'', .string (fewS s'')]), .val (.agg #[.int .i64 (triK (minN (saysN k' i' (fewS s')) (saysN k'' i'' (fewS s'')))), .int .i64 (triI (minN (saysN k' i' (fewS s')) (saysN k'' i'' (fewS s'')))), .string ⟨#[]⟩]), .val (.agg #[.int .i64 (triK (minN (minN (saysN k i (fewS s)) (saysN k' i' (fewS s'))) (saysN k'' i'' (fewS s'')))), .int .i64 (triI (minN (minN (saysN k i (fewS s)) (saysN k' i' (fewS s'))) (saysN k'' i'' (fewS s'')))), .string ⟨#[]⟩]), .val (.bool false), .val (.bool false), .val (.bool false), .val (.agg #[.int .i64 k, .int .i64 i, .string (fewS s)]), .val (.agg #[.int .i64 k', .int .i64 i', .string (fewS s')]), .val (.agg #[.int .i64 (triK (maxN (saysN k i (fewS s)) (saysN k' i' (fewS s')))), .int .i64 (triI (maxN (saysN k i (fewS s)) (saysN k' i' (fewS s')))), .string ⟨#[]⟩]), .val (.agg #[.int .i64 k'', .int .i64 i'', .string (fewS s'')]), .val (.agg #[.int .i64 (triK (maxN (maxN (saysN k i (fewS s)) (saysN k' i' (fewS s'))) (saysN k'' i'' (fewS s'')))), .int .i64 (triI (maxN (maxN (saysN k i (fewS s)) (saysN k' i' (fewS s'))) (saysN k'' i'' (fewS s'')))), .string ⟨#[]⟩]), .val (.agg #[.int .i64 k, .int .i64 i, .string (fewS s)]), .val (.agg #[.int .i64 k', .int .i64 i', .string (fewS s')]), .val (.agg #[.int .i64 k'', .int .i64 i'', .string (fewS s'')]), .val (.agg #[.int .i64 (triK (maxN (saysN k' i' (fewS s')) (saysN k'' i'' (fewS s'')))), .int .i64 (triI (maxN (saysN k' i' (fewS s')) (saysN k'' i'' (fewS s'')))), .string ⟨#[]⟩]), .val (.agg #[.int .i64 (triK (maxN (maxN (saysN k i (fewS s)) (saysN k' i' (fewS s'))) (saysN k'' i'' (fewS s'')))), .int .i64 (triI (maxN (maxN (saysN k i (fewS s)) (saysN k' i' (fewS s'))) (saysN k'' i'' (fewS s'')))), .string ⟨#[]⟩]), .val (.bool false), .val (.bool false)] 42 (by kernel_rfl) ?_
  refine detL_val (by kernel_rfl) (yields_of rfl fun w1 hb1 => ?_) ?_
  · have hc1 := bcellD hb1
    clear hb1
    go_simp
    exact Det1_same
  simp only [Act.put, List.setIfInBounds_toArray, List.set_cons_zero, List.set_cons_succ]
  refine detL_val (by kernel_rfl) (yields_of rfl fun w1 hb1 => ?_) ?_
  · have hc1 := bcellD hb1
    clear hb1
    go_simp
    exact Det1_same
  simp only [Act.put, List.setIfInBounds_toArray, List.set_cons_zero, List.set_cons_succ]
  refine detL_val (by kernel_rfl) (yields_of rfl fun w1 hb1 => ?_) ?_
  · have hc1 := bcellD hb1
    clear hb1
    go_simp
    exact Det1_enter (and_any _ _ _ _ _ _ _)
  simp only [Act.put, List.setIfInBounds_toArray, List.set_cons_zero, List.set_cons_succ]
  refine detL_val (by kernel_rfl) (yields_of rfl fun w1 hb1 => ?_) ?_
  · have hc1 := bcellD hb1
    clear hb1
    go_simp
    exact Det1_same
  simp only [Act.put, List.setIfInBounds_toArray, List.set_cons_zero, List.set_cons_succ]
  refine detL_val (by kernel_rfl) (yields_of rfl fun w1 hb1 => ?_) ?_
  · have hc1 := bcellD hb1
    clear hb1
    go_simp
    exact Det1_same
  simp only [Act.put, List.setIfInBounds_toArray, List.set_cons_zero, List.set_cons_succ]
  refine detL_val (by kernel_rfl) (yields_of rfl fun w1 hb1 => ?_) ?_
  · have hc1 := bcellD hb1
    clear hb1
    go_simp
    exact Det1_enter (and_sw _ _ _ _ _ _ _)
  simp only [Act.put, List.setIfInBounds_toArray, List.set_cons_zero, List.set_cons_succ]
  refine detL_val (by kernel_rfl) (yields_of rfl fun w1 hb1 => ?_) ?_
  · have hc1 := bcellD hb1
    clear hb1
    go_simp
    exact Det1_same
  simp only [Act.put, List.setIfInBounds_toArray, List.set_cons_zero, List.set_cons_succ]
  refine detL_val (by kernel_rfl) (yields_of rfl fun w1 hb1 => ?_) ?_
  · have hc1 := bcellD hb1
    clear hb1
    go_simp
    exact Det1_same
  simp only [Act.put, List.setIfInBounds_toArray, List.set_cons_zero, List.set_cons_succ]
  refine detL_val (by kernel_rfl) (yields_of rfl fun w1 hb1 => ?_) ?_
  · have hc1 := bcellD hb1
    clear hb1
    go_simp
    exact Det1_same
  simp only [Act.put, List.setIfInBounds_toArray, List.set_cons_zero, List.set_cons_succ]
  refine detL_val (by kernel_rfl) (yields_of rfl fun w1 hb1 => ?_) ?_
  · have hc1 := bcellD hb1
    clear hb1
    go_simp
    exact Det1_same
  simp only [Act.put, List.setIfInBounds_toArray, List.set_cons_zero, List.set_cons_succ]
  refine detL_val (by kernel_rfl) (yields_of rfl fun w1 hb1 => ?_) ?_
  · have hc1 := bcellD hb1
    clear hb1
    go_simp
    exact Det1_enter (or_any _ _ _ _ _ _ _)
  simp only [Act.put, List.setIfInBounds_toArray, List.set_cons_zero, List.set_cons_succ]
  refine detL_val (by kernel_rfl) (yields_of rfl fun w1 hb1 => ?_) ?_
  · have hc1 := bcellD hb1
    clear hb1
    go_simp
    exact Det1_same
  simp only [Act.put, List.setIfInBounds_toArray, List.set_cons_zero, List.set_cons_succ]
  refine detL_val (by kernel_rfl) (yields_of rfl fun w1 hb1 => ?_) ?_
  · have hc1 := bcellD hb1
    clear hb1
    go_simp
    exact Det1_same
  simp only [Act.put, List.setIfInBounds_toArray, List.set_cons_zero, List.set_cons_succ]
  refine detL_val (by kernel_rfl) (yields_of rfl fun w1 hb1 => ?_) ?_
  · have hc1 := bcellD hb1
    clear hb1
    go_simp
    exact Det1_enter (or_sw _ _ _ _ _ _ _)
  simp only [Act.put, List.setIfInBounds_toArray, List.set_cons_zero, List.set_cons_succ]
  refine detL_val (by kernel_rfl) (yields_of rfl fun w1 hb1 => ?_) ?_
  · have hc1 := bcellD hb1
    clear hb1
    go_simp
    exact Det1_same
  simp only [Act.put, List.setIfInBounds_toArray, List.set_cons_zero, List.set_cons_succ]
  refine detL_val (by kernel_rfl) (yields_of rfl fun w1 hb1 => ?_) ?_
  · have hc1 := bcellD hb1
    clear hb1
    go_simp
    exact Det1_same
  simp only [Act.put, List.setIfInBounds_toArray, List.set_cons_zero, List.set_cons_succ]
  refine detL_val (by kernel_rfl) (yields_of rfl fun w1 hb1 => ?_) ?_
  · have hc1 := bcellD hb1
    clear hb1
    go_simp
    exact Det1_same
  simp only [Act.put, List.setIfInBounds_toArray, List.set_cons_zero, List.set_cons_succ]
  refine detL_val (by kernel_rfl) (yields_of rfl fun w1 hb1 => ?_) ?_
  · have hc1 := bcellD hb1
    clear hb1
    go_simp
    exact Det1_same
  simp only [Act.put, List.setIfInBounds_toArray, List.set_cons_zero, List.set_cons_succ]
  refine detL_val (by kernel_rfl) (yields_of rfl fun w1 hb1 => ?_) ?_
  · have hc1 := bcellD hb1
    clear hb1
    go_simp
    exact Det1_same
  simp only [Act.put, List.setIfInBounds_toArray, List.set_cons_zero, List.set_cons_succ]
  refine detL_val (by kernel_rfl) (yields_of rfl fun w1 hb1 => ?_) ?_
  · have hc1 := bcellD hb1
    clear hb1
    go_simp
    exact Det1_enter (and_any _ _ _ _ _ _ _)
  simp only [Act.put, List.setIfInBounds_toArray, List.set_cons_zero, List.set_cons_succ]
  refine detL_val (by kernel_rfl) (yields_of rfl fun w1 hb1 => ?_) ?_
  · have hc1 := bcellD hb1
    clear hb1
    go_simp
    exact Det1_same
  simp only [Act.put, List.setIfInBounds_toArray, List.set_cons_zero, List.set_cons_succ]
  refine detL_val (by kernel_rfl) (yields_of rfl fun w1 hb1 => ?_) ?_
  · have hc1 := bcellD hb1
    clear hb1
    go_simp
    exact Det1_enter (and_l _ _ _ _ _ (min_bd (saysN_bd _ _ _) (saysN_bd _ _ _)))
  simp only [Act.put, List.setIfInBounds_toArray, List.set_cons_zero, List.set_cons_succ]
  refine detL_val (by kernel_rfl) (yields_of rfl fun w1 hb1 => ?_) ?_
  · have hc1 := bcellD hb1
    clear hb1
    go_simp
    exact Det1_same
  simp only [Act.put, List.setIfInBounds_toArray, List.set_cons_zero, List.set_cons_succ]
  refine detL_val (by kernel_rfl) (yields_of rfl fun w1 hb1 => ?_) ?_
  · have hc1 := bcellD hb1
    clear hb1
    go_simp
    exact Det1_same
  simp only [Act.put, List.setIfInBounds_toArray, List.set_cons_zero, List.set_cons_succ]
  refine detL_val (by kernel_rfl) (yields_of rfl fun w1 hb1 => ?_) ?_
  · have hc1 := bcellD hb1
    clear hb1
    go_simp
    exact Det1_same
  simp only [Act.put, List.setIfInBounds_toArray, List.set_cons_zero, List.set_cons_succ]
  refine detL_val (by kernel_rfl) (yields_of rfl fun w1 hb1 => ?_) ?_
  · have hc1 := bcellD hb1
    clear hb1
    go_simp
    exact Det1_enter (and_any _ _ _ _ _ _ _)
  simp only [Act.put, List.setIfInBounds_toArray, List.set_cons_zero, List.set_cons_succ]
  refine detL_val (by kernel_rfl) (yields_of rfl fun w1 hb1 => ?_) ?_
  · have hc1 := bcellD hb1
    clear hb1
    go_simp
    exact Det1_enter (and_ra _ _ _ _ _ _ (min_bd (saysN_bd _ _ _) (saysN_bd _ _ _)))
  simp only [Act.put, List.setIfInBounds_toArray, List.set_cons_zero, List.set_cons_succ]
  refine detL_val (by kernel_rfl) (yields_of rfl fun w1 hb1 => ?_) ?_
  · have hc1 := bcellD hb1
    clear hb1
    go_simp
    exact Det1_same
  simp only [Act.put, List.setIfInBounds_toArray, List.set_cons_zero, List.set_cons_succ]
  refine detL_val (by kernel_rfl) (yields_of rfl fun w1 hb1 => ?_) ?_
  · have hc1 := bcellD hb1
    clear hb1
    go_simp
    exact Det1_same
  simp only [Act.put, List.setIfInBounds_toArray, List.set_cons_zero, List.set_cons_succ]
  refine detL_val (by kernel_rfl) (yields_of rfl fun w1 hb1 => ?_) ?_
  · have hc1 := bcellD hb1
    clear hb1
    go_simp
    exact Det1_same
  simp only [Act.put, List.setIfInBounds_toArray, List.set_cons_zero, List.set_cons_succ]
  refine detL_val (by kernel_rfl) (yields_of rfl fun w1 hb1 => ?_) ?_
  · have hc1 := bcellD hb1
    clear hb1
    go_simp
    exact Det1_same
  simp only [Act.put, List.setIfInBounds_toArray, List.set_cons_zero, List.set_cons_succ]
  refine detL_val (by kernel_rfl) (yields_of rfl fun w1 hb1 => ?_) ?_
  · have hc1 := bcellD hb1
    clear hb1
    go_simp
    exact Det1_same
  simp only [Act.put, List.setIfInBounds_toArray, List.set_cons_zero, List.set_cons_succ]
  refine detL_val (by kernel_rfl) (yields_of rfl fun w1 hb1 => ?_) ?_
  · have hc1 := bcellD hb1
    clear hb1
    go_simp
    exact Det1_enter (or_any _ _ _ _ _ _ _)
  simp only [Act.put, List.setIfInBounds_toArray, List.set_cons_zero, List.set_cons_succ]
  refine detL_val (by kernel_rfl) (yields_of rfl fun w1 hb1 => ?_) ?_
  · have hc1 := bcellD hb1
    clear hb1
    go_simp
    exact Det1_same
  simp only [Act.put, List.setIfInBounds_toArray, List.set_cons_zero, List.set_cons_succ]
  refine detL_val (by kernel_rfl) (yields_of rfl fun w1 hb1 => ?_) ?_
  · have hc1 := bcellD hb1
    clear hb1
    go_simp
    exact Det1_enter (or_l _ _ _ _ _ (max_bd (saysN_bd _ _ _) (saysN_bd _ _ _)))
  simp only [Act.put, List.setIfInBounds_toArray, List.set_cons_zero, List.set_cons_succ]
  refine detL_val (by kernel_rfl) (yields_of rfl fun w1 hb1 => ?_) ?_
  · have hc1 := bcellD hb1
    clear hb1
    go_simp
    exact Det1_same
  simp only [Act.put, List.setIfInBounds_toArray, List.set_cons_zero, List.set_cons_succ]
  refine detL_val (by kernel_rfl) (yields_of rfl fun w1 hb1 => ?_) ?_
  · have hc1 := bcellD hb1
    clear hb1
    go_simp
    exact Det1_same
  simp only [Act.put, List.setIfInBounds_toArray, List.set_cons_zero, List.set_cons_succ]
  refine detL_val (by kernel_rfl) (yields_of rfl fun w1 hb1 => ?_) ?_
  · have hc1 := bcellD hb1
    clear hb1
    go_simp
    exact Det1_same
  simp only [Act.put, List.setIfInBounds_toArray, List.set_cons_zero, List.set_cons_succ]
  refine detL_val (by kernel_rfl) (yields_of rfl fun w1 hb1 => ?_) ?_
  · have hc1 := bcellD hb1
    clear hb1
    go_simp
    exact Det1_enter (or_any _ _ _ _ _ _ _)
  simp only [Act.put, List.setIfInBounds_toArray, List.set_cons_zero, List.set_cons_succ]
  refine detL_val (by kernel_rfl) (yields_of rfl fun w1 hb1 => ?_) ?_
  · have hc1 := bcellD hb1
    clear hb1
    go_simp
    exact Det1_enter (or_ra _ _ _ _ _ _ (max_bd (saysN_bd _ _ _) (saysN_bd _ _ _)))
  simp only [Act.put, List.setIfInBounds_toArray, List.set_cons_zero, List.set_cons_succ]
  refine detL_val (by kernel_rfl) (yields_of rfl fun w1 hb1 => ?_) ?_
  · have hc1 := bcellD hb1
    clear hb1
    go_simp
    exact Det1_same
  simp only [Act.put, List.setIfInBounds_toArray, List.set_cons_zero, List.set_cons_succ]
  refine detL_val (by kernel_rfl) (yields_of rfl fun w1 hb1 => ?_) ?_
  · have hc1 := bcellD hb1
    clear hb1
    go_simp
    exact Det1_same
  simp only [Act.put, List.setIfInBounds_toArray, List.set_cons_zero, List.set_cons_succ]
  refine detL_done (by kernel_rfl) fun w1 hw1 => ?_
  have hb1 := hw1.below
  clear hw1 c0k c0i c0s l0 c1k c1i c1s l1 c2k c2i c2s l2 hW0 hmW
  go_wp2
  refine wp_gen (fun W => Below w.heap.size w W ∧ At3 W w.heap.size k i (fewS s) ∧ At3 W (w.heap.size + 1) k' i' (fewS s') ∧ At3 W (w.heap.size + 1 + 1) k'' i'' (fewS s'')) ⟨hB.drew.trans (hb1.mono hB.size), A0.drew.later hb1, A1.drew.later hb1, A2.drew.later hb1⟩ ?_
  clear hb1 hB A0 A1 A2
  rintro W ⟨hB, A0, A1, A2⟩
  have c0k := A0.k
  have c0i := A0.i
  have c0s := A0.s
  have l0 := A0.lt
  have c1k := A1.k
  have c1i := A1.i
  have c1s := A1.s
  have l1 := A1.lt
  have c2k := A2.k
  have c2i := A2.i
  have c2s := A2.s
  have l2 := A2.lt
  have hW0 : 0 < W.heap.size := wlt hB hlt
  have hmW : W.cell? ⟨0, 0, none⟩ = some (.int .i64 m) := (hB.cell (p := ⟨0, 0, none⟩) hlt).trans hm
  refine detL_begin [.val (.agg #[.int .i64 k, .int .i64 i, .string (fewS s)]), .val (.agg #[.int .i64 k', .int .i64 i', .string (fewS s')]), .val (.agg #[.int .i64 (triK (minN (saysN k i (fewS s)) (saysN k' i' (fewS s')))), .int .i64 (triI (minN (saysN k i (fewS s)) (saysN k' i' (fewS s')))), .string ⟨#[]⟩]), .val (.agg #[.int .i64 (triK (2 - minN (saysN k i (fewS s)) (saysN k' i' (fewS s')))), .int .i64 (triI (2 - minN (saysN k i (fewS s)) (saysN k' i' (fewS s')))), .string ⟨#[]⟩]), .val (.agg #[.int .i64 k, .int .i64 i, .string (fewS s)]), .val (.agg #[.int .i64 (triK (2 - saysN k i (fewS s))), .int .i64 (triI (2 - saysN k i (fewS s))), .string ⟨#[]⟩]), .val (.agg #[.int .i64 k', .int .i64 i', .string (fewS s')]), .val (.agg #[.int .i64 (triK (2 - saysN k' i' (fewS s'))), .int .i64 (triI (2 - saysN k' i' (fewS s'))), .string ⟨#[]⟩]), .val (.agg #[.int .i64 (triK (2 - minN (saysN k i (fewS s)) (saysN k' i' (fewS s')))), .int .i64 (triI (2 - minN (saysN k i (fewS s)) (saysN k' i' (fewS s')))), .string ⟨#[]⟩]), .val (.bool true), .val (.bool true), .val (.agg #[.int .i64 k, .int .i64 i, .string (fewS s)]), .val (.agg #[.int .i64 (triK (2 - saysN k i (fewS s))), .int .i64 (triI (2 - saysN k i (fewS s))), .string ⟨#[]⟩]), .val (.agg #[.int .i64 (triK (saysN k i (fewS s))), .int .i64 (triI (saysN k i (fewS s))), .string ⟨#[]⟩]), .val (.agg #[.int .i64 k, .int .i64 i, .string (fewS s)]), .val (.agg #[.int .i64 k, .int .i64 i, .string (fewS s)]), .val (.agg #[.int .i64 (triK (saysN k i (fewS s))), .int .i64 (triI (saysN k i (fewS s))), .string ⟨#[]⟩]), .val (.bool true), .val (.bool true), .val (.bool true), .val (.bool true), .val (.bool true), .val (.bool true)] 23 (by kernel_rfl) ?_
  refine detL_val (by kernel_rfl) (yields_of rfl fun w1 hb1 => ?_) ?_
  · have hc1 := bcellD hb1
    clear hb1
    go_simp
    exact Det1_same
  simp only [Act.put, List.setIfInBounds_toArray, List.set_cons_zero, List.set_cons_succ]
  refine detL_val (by kernel_rfl) (yields_of rfl fun w1 hb1 => ?_) ?_
  · have hc1 := bcellD hb1
    clear hb1
    go_simp
    exact Det1_same
  simp only [Act.put, List.setIfInBounds_toArray, List.set_cons_zero, List.set_cons_succ]
  refine detL_val (by kernel_rfl) (yields_of rfl fun w1 hb1 => ?_) ?_
  · have hc1 := bcellD hb1
    clear hb1
    go_simp
    exact Det1_enter (and_any _ _ _ _ _ _ _)
  simp only [Act.put, List.setIfInBounds_toArray, List.set_cons_zero, List.set_cons_succ]
  refine detL_val (by kernel_rfl) (yields_of rfl fun w1 hb1 => ?_) ?_
  · have hc1 := bcellD hb1
    clear hb1
    go_simp
    exact Det1_enter (not_t _ _ (min_bd (saysN_bd _ _ _) (saysN_bd _ _ _)))
  simp only [Act.put, List.setIfInBounds_toArray, List.set_cons_zero, List.set_cons_succ]
  refine detL_val (by kernel_rfl) (yields_of rfl fun w1 hb1 => ?_) ?_
  · have hc1 := bcellD hb1
    clear hb1
    go_simp
    exact Det1_same
  simp only [Act.put, List.setIfInBounds_toArray, List.set_cons_zero, List.set_cons_succ]
  refine detL_val (by kernel_rfl) (yields_of rfl fun w1 hb1 => ?_) ?_
  · have hc1 := bcellD hb1
    clear hb1
    go_simp
    exact Det1_enter (not_any _ _ _ _)
  simp only [Act.put, List.setIfInBounds_toArray, List.set_cons_zero, List.set_cons_succ]
  refine detL_val (by kernel_rfl) (yields_of rfl fun w1 hb1 => ?_) ?_
  · have hc1 := bcellD hb1
    clear hb1
    go_simp
    exact Det1_same
  simp only [Act.put, List.setIfInBounds_toArray, List.set_cons_zero, List.set_cons_succ]
  refine detL_val (by kernel_rfl) (yields_of rfl fun w1 hb1 => ?_) ?_
  · have hc1 := bcellD hb1
    clear hb1
    go_simp
    exact Det1_enter (not_any _ _ _ _)
  simp only [Act.put, List.setIfInBounds_toArray, List.set_cons_zero, List.set_cons_succ]
  refine detL_val (by kernel_rfl) (yields_of rfl fun w1 hb1 => ?_) ?_
  · have hc1 := bcellD hb1
    clear hb1
    go_simp
    exact Det1_enter (or_nn _ _ _ (saysN_bd _ _ _) (saysN_bd _ _ _))
  simp only [Act.put, List.setIfInBounds_toArray, List.set_cons_zero, List.set_cons_succ]
  refine detL_val (by kernel_rfl) (yields_of rfl fun w1 hb1 => ?_) ?_
  · have hc1 := bcellD hb1
    clear hb1
    go_simp
    exact Det1_same
  simp only [Act.put, List.setIfInBounds_toArray, List.set_cons_zero, List.set_cons_succ]
  refine detL_val (by kernel_rfl) (yields_of rfl fun w1 hb1 => ?_) ?_
  · have hc1 := bcellD hb1
    clear hb1
    go_simp
    exact Det1_same
  simp only [Act.put, List.setIfInBounds_toArray, List.set_cons_zero, List.set_cons_succ]
  refine detL_val (by kernel_rfl) (yields_of rfl fun w1 hb1 => ?_) ?_
  · have hc1 := bcellD hb1
    clear hb1
    go_simp
    exact Det1_same
  simp only [Act.put, List.setIfInBounds_toArray, List.set_cons_zero, List.set_cons_succ]
  refine detL_val (by kernel_rfl) (yields_of rfl fun w1 hb1 => ?_) ?_
  · have hc1 := bcellD hb1
    clear hb1
    go_simp
    exact Det1_enter (not_any _ _ _ _)
  simp only [Act.put, List.setIfInBounds_toArray, List.set_cons_zero, List.set_cons_succ]
  refine detL_val (by kernel_rfl) (yields_of rfl fun w1 hb1 => ?_) ?_
  · have hc1 := bcellD hb1
    clear hb1
    go_simp
    exact Det1_enter (not_nn _ _ (saysN_bd _ _ _))
  simp only [Act.put, List.setIfInBounds_toArray, List.set_cons_zero, List.set_cons_succ]
  refine detL_val (by kernel_rfl) (yields_of rfl fun w1 hb1 => ?_) ?_
  · have hc1 := bcellD hb1
    clear hb1
    go_simp
    exact Det1_same
  simp only [Act.put, List.setIfInBounds_toArray, List.set_cons_zero, List.set_cons_succ]
  refine detL_val (by kernel_rfl) (yields_of rfl fun w1 hb1 => ?_) ?_
  · have hc1 := bcellD hb1
    clear hb1
    go_simp
    exact Det1_same
  simp only [Act.put, List.setIfInBounds_toArray, List.set_cons_zero, List.set_cons_succ]
  refine detL_val (by kernel_rfl) (yields_of rfl fun w1 hb1 => ?_) ?_
  · have hc1 := bcellD hb1
    clear hb1
    go_simp
    exact Det1_enter (and_aa _ _ _ _)
  simp only [Act.put, List.setIfInBounds_toArray, List.set_cons_zero, List.set_cons_succ]
  refine detL_val (by kernel_rfl) (yields_of rfl fun w1 hb1 => ?_) ?_
  · have hc1 := bcellD hb1
    clear hb1
    go_simp
    exact Det1_same
  simp only [Act.put, List.setIfInBounds_toArray, List.set_cons_zero, List.set_cons_succ]
  refine detL_val (by kernel_rfl) (yields_of rfl fun w1 hb1 => ?_) ?_
  · have hc1 := bcellD hb1
    clear hb1
    go_simp
    exact Det1_same
  simp only [Act.put, List.setIfInBounds_toArray, List.set_cons_zero, List.set_cons_succ]
  refine detL_val (by kernel_rfl) (yields_of rfl fun w1 hb1 => ?_) ?_
  · have hc1 := bcellD hb1
    clear hb1
    go_simp
    exact Det1_same
  simp only [Act.put, List.setIfInBounds_toArray, List.set_cons_zero, List.set_cons_succ]
  refine detL_val (by kernel_rfl) (yields_of rfl fun w1 hb1 => ?_) ?_
  · have hc1 := bcellD hb1
    clear hb1
    go_simp
    exact Det1_enter (awake_any _ m ((hc1 0 0 hW0).trans hmW))
  simp only [Act.put, List.setIfInBounds_toArray, List.set_cons_zero, List.set_cons_succ]
  refine detL_val (by kernel_rfl) (yields_of rfl fun w1 hb1 => ?_) ?_
  · have hc1 := bcellD hb1
    clear hb1
    go_simp
    exact Det1_same
  simp only [Act.put, List.setIfInBounds_toArray, List.set_cons_zero, List.set_cons_succ]
  refine detL_val (by kernel_rfl) (yields_of rfl fun w1 hb1 => ?_) ?_
  · have hc1 := bcellD hb1
    clear hb1
    go_simp
    exact Det1_same
  simp only [Act.put, List.setIfInBounds_toArray, List.set_cons_zero, List.set_cons_succ]
  refine detL_done (by kernel_rfl) fun w1 hw1 => ?_
  have hb1 := hw1.below
  go_wp2
  go_ret
  exact ⟨rfl, hB.drew.trans (hb1.mono hB.size)⟩

end Go.Proofs.YtljcdebaoceimaaDoor
