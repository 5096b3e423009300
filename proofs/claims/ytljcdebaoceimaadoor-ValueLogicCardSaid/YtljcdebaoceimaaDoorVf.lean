import Derived.Test.YtljcdebaoceimaaDoorVe
import Derived.Deep.Cut
/- The law ValueLogic: And, Or and Not of any two values are the document's. -/
namespace Go.Proofs.YtljcdebaoceimaaDoor
open Go.RowKit Go.Lib

set_option maxRecDepth 100000 in
set_option maxHeartbeats 1600000 in
theorem law_logic (k i : Int) (s : ByteArray) (k' i' : Int) (s' : ByteArray) (w : World) (hs : s.size ≤ maxLen) (hs' : s'.size ≤ maxLen) (m : Int) (hm : w.cell? ⟨0, 0, none⟩ = some (.int .i64 m)) :
    Calls Tryd.prog 3 #[.agg #[.int .i64 k, .int .i64 i, .string s], .agg #[.int .i64 k', .int .i64 i', .string s']] w fun e w' => e = .returned (.bool true) ∧ Below w.heap.size w w' := by
  have hlt : 0 < w.heap.size := World.block_lt_of_cell? w _ hm
  go_enter Tryd.func3, Tryd.ntmps3
  go_wp2
  refine detL_begin [.val (.agg #[.int .i64 k, .int .i64 i, .string s]), .val (.agg #[.int .i64 k, .int .i64 i, .string (fewS s)]), .val (.agg #[.int .i64 k', .int .i64 i', .string s']), .val (.agg #[.int .i64 k', .int .i64 i', .string (fewS s')])] 4 (by kernel_rfl) ?_
  repeat
    (refine detL_val (by kernel_rfl) (yields_of rfl fun w1 hb1 => ?_) ?_
     · have hc1 := bcellD hb1
       clear hb1
       go_simp
       with_reducible first
         | exact Det1_same
         | exact Det1_enter (few_any _ _ _ _ hs)
         | exact Det1_enter (few_any _ _ _ _ hs')
     simp only [Act.put, List.setIfInBounds_toArray, List.set_cons_zero, List.set_cons_succ])
  refine detL_tail rfl (by kernel_rfl) fun w1 hw1 => ?_
  have hb1 := hw1.below
  clear hw1
  have hc1 := (bcell hb1).1
  have hf1 := (bcell hb1).2
  have hy1 := hb1.size
  (try simp at hy1)
  have hz1_0 : w.heap.size < w1.heap.size := (by omega)
  have hz1_1 : w.heap.size + 1 < w1.heap.size := (by omega)
  go_upto_region 2 with (fail)
  refine wp_gen (Boxes w k i (fewS s) k' i' (fewS s')) (((Boxes.start w k i s k' i' s' 23 23).later hb1).store _ _ _ _ _ _) ?_
  intro W hW
  clear hc1 hf1 hb1 hy1 hz1_0 hz1_1
  have hk := hW.k
  have hi := hW.i
  have hss := hW.s
  have hk' := hW.k'
  have hi' := hW.i'
  have hss' := hW.s'
  have hn0 : w.heap.size < W.heap.size := by have := hW.size; omega
  have hn1 : w.heap.size + 1 < W.heap.size := by have := hW.size; omega
  have hW0 : 0 < W.heap.size := by omega
  have hmW : W.cell? ⟨0, 0, none⟩ = some (.int .i64 m) := (hW.below.cell (p := ⟨0, 0, none⟩) hlt).trans hm
  refine detL_begin [.val (.agg #[.int .i64 k, .int .i64 i, .string (fewS s)]), .val (.agg #[.int .i64 k', .int .i64 i', .string (fewS s')]), .val (.agg #[.int .i64 (triK (minN (saysN k i (fewS s)) (saysN k' i' (fewS s')))), .int .i64 (triI (minN (saysN k i (fewS s)) (saysN k' i' (fewS s')))), .string ⟨#[]⟩]), .val (.agg #[.int .i64 k, .int .i64 i, .string (fewS s)]), .val (.agg #[.int .i64 k', .int .i64 i', .string (fewS s')]), .val (.agg #[.int .i64 (triK (minN (saysN k i (fewS s)) (saysN k' i' (fewS s')))), .int .i64 (triI (minN (saysN k i (fewS s)) (saysN k' i' (fewS s')))), .string ⟨#[]⟩]), .val (.bool true), .val (.bool true), .val (.agg #[.int .i64 k, .int .i64 i, .string (fewS s)]), .val (.agg #[.int .i64 k', .int .i64 i', .string (fewS s')]), .val (.agg #[.int .i64 (triK (maxN (saysN k i (fewS s)) (saysN k' i' (fewS s')))), .int .i64 (triI (maxN (saysN k i (fewS s)) (saysN k' i' (fewS s')))), .string ⟨#[]⟩]), .val (.agg #[.int .i64 k, .int .i64 i, .string (fewS s)]), .val (.agg #[.int .i64 k', .int .i64 i', .string (fewS s')]), .val (.agg #[.int .i64 (triK (maxN (saysN k i (fewS s)) (saysN k' i' (fewS s')))), .int .i64 (triI (maxN (saysN k i (fewS s)) (saysN k' i' (fewS s')))), .string ⟨#[]⟩]), .val (.bool true), .val (.bool true), .val (.bool true), .val (.agg #[.int .i64 k, .int .i64 i, .string (fewS s)]), .val (.agg #[.int .i64 (triK (2 - saysN k i (fewS s))), .int .i64 (triI (2 - saysN k i (fewS s))), .string ⟨#[]⟩]), .val (.agg #[.int .i64 k, .int .i64 i, .string (fewS s)]), .val (.agg #[.int .i64 (triK (2 - saysN k i (fewS s))), .int .i64 (triI (2 - saysN k i (fewS s))), .string ⟨#[]⟩]), .val (.bool true), .val (.bool true), .val (.bool true), .val (.bool true), .val (.bool true), .val (.bool true)] 27 (by kernel_rfl) ?_
  repeat
    (refine detL_val (by kernel_rfl) (yields_of rfl fun w1 hb1 => ?_) ?_
     · have hc1 := bcellD hb1
       clear hb1
       go_simp
       with_reducible first
         | exact Det1_same
         | exact Det1_enter (and_any _ _ _ _ _ _ _)
         | exact Det1_enter (rand_any _ _ _ _ _ _ _)
         | exact Det1_enter (or_any _ _ _ _ _ _ _)
         | exact Det1_enter (ror_any _ _ _ _ _ _ _)
         | exact Det1_enter (not_any _ _ _ _)
         | exact Det1_enter (rnot_any _ _ _ _)
         | exact Det1_enter (awake_any _ m ((hc1 0 0 hW0).trans hmW))
     simp only [Act.put, List.setIfInBounds_toArray, List.set_cons_zero, List.set_cons_succ])
  refine detL_done (by kernel_rfl) fun w1 hw1 => ?_
  have hb1 := hw1.below
  go_wp2
  go_ret
  refine ⟨rfl, hW.below.trans ?_⟩
  exact (Below.refl _ _).drew.trans (hb1.mono hW.below.size)

end Go.Proofs.YtljcdebaoceimaaDoor
