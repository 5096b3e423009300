import Derived.Test.YtljcdebaoceimaaDoorVz
/- The law ValueOrders, where the first two come to 1. -/
namespace Go.Proofs.YtljcdebaoceimaaDoor
open Go.RowKit Go.Lib

set_option maxRecDepth 100000 in
set_option maxHeartbeats 40000000 in
theorem orders_1o_f (k i : Int) (s S : ByteArray) (k' : Int) (i' : Int) (s' : ByteArray) (S' : ByteArray) (k'' i'' : Int) (s'' S'' : ByteArray) (w : World) (hs : s.size ≤ maxLen) (hs' : s'.size ≤ maxLen) (hs'' : s''.size ≤ maxLen) (hS : fewS s = S) (hS' : fewS s' = S') (hS'' : fewS s'' = S'') (m : Int) (hm : w.cell? ⟨0, 0, none⟩ = some (.int .i64 m))
    (y z : Int) (hx : ordN k i S k' i' S' = 1) (hy : ordN k' i' S' k'' i'' S'' = y) (hz : ordN k i S k'' i'' S'' = z)  (ha : mayB k i S = false) :
    Calls Tryd.prog 7 #[.agg #[.int .i64 k, .int .i64 i, .string s], .agg #[.int .i64 k', .int .i64 i', .string s'], .agg #[.int .i64 k'', .int .i64 i'', .string s'']] w fun e w' => e = .returned (.bool true) ∧ Below w.heap.size w w' := by
  have hlt : 0 < w.heap.size := World.block_lt_of_cell? w _ hm
  have HX := Lib.hid hx
  have hx' : ordN k' i' S' k i S = -(1) := (ord_anti k i S k' i' S').trans (congrArg (fun v => -v) hx)
  have HX' : Hid (ordN k' i' S' k i S = -1) := Lib.hid (hx'.trans (by decide))
  clear hx'
  have HY := Lib.hid hy
  have HZ := Lib.hid hz
  clear hx hy hz
  go_enter Tryd.func7, Tryd.ntmps7
  go_wp2
  refine detL_begin [.val (.agg #[.int .i64 k, .int .i64 i, .string s]), .val (.agg #[.int .i64 k, .int .i64 i, .string S]), .val (.agg #[.int .i64 k', .int .i64 i', .string s']), .val (.agg #[.int .i64 k', .int .i64 i', .string S']), .val (.agg #[.int .i64 k'', .int .i64 i'', .string s'']), .val (.agg #[.int .i64 k'', .int .i64 i'', .string S''])] 6 (by kernel_rfl) ?_
  repeat
    (refine detL_val (by kernel_rfl) (yields_of rfl fun w1 hb1 => ?_) ?_
     · have hc1 := bcellD hb1
       clear hb1
       go_simp
       with_reducible first
         | exact Det1_same
         | exact Det1_enter (few_is _ _ _ _ _ hs hS)
         | exact Det1_enter (few_is _ _ _ _ _ hs' hS')
         | exact Det1_enter (few_is _ _ _ _ _ hs'' hS'')
     simp only [Act.put, List.setIfInBounds_toArray, List.set_cons_zero, List.set_cons_succ])
  refine detL_tail rfl (by kernel_rfl) fun w1 hw1 => ?_
  have hb1 := hw1.below
  clear hw1
  have hc1 := (bcell hb1).1
  have hf1 := (bcell hb1).2
  have hy1 := hb1.size
  (try simp at hy1)
  have hz1_0 : w.heap.size < w1.heap.size := (by omega)
  have hz1_1 : w.heap.size + 1 < w1.heap.size := (by omega)
  have hz1_2 : w.heap.size + 1 + 1 < w1.heap.size := (by omega)
  have a0 : At3 w1 w.heap.size k i s := At3.later (by repeat (first | (with_reducible assumption) | (with_reducible exact Box.of (by assumption)) | ((with_reducible refine At3.new ?_); simp) | (with_reducible refine At3.drew ?_) | (with_reducible refine At3.alloc ?_ _) | (with_reducible refine Box.drew ?_) | (with_reducible refine Box.alloc ?_ _) | (with_reducible refine Box.set ?_ _ _ _) | ((with_reducible refine At3.set_other' ?_ ?_ _ _ _); (· omega)) | ((with_reducible refine Box.set_other ?_ ?_ _ _ _); (· omega)))) hb1
  have a1 : At3 w1 (w.heap.size + 1) k' i' s' := At3.later (by repeat (first | (with_reducible assumption) | (with_reducible exact Box.of (by assumption)) | ((with_reducible refine At3.new ?_); simp) | (with_reducible refine At3.drew ?_) | (with_reducible refine At3.alloc ?_ _) | (with_reducible refine Box.drew ?_) | (with_reducible refine Box.alloc ?_ _) | (with_reducible refine Box.set ?_ _ _ _) | ((with_reducible refine At3.set_other' ?_ ?_ _ _ _); (· omega)) | ((with_reducible refine Box.set_other ?_ ?_ _ _ _); (· omega)))) hb1
  have a2 : At3 w1 (w.heap.size + 1 + 1) k'' i'' s'' := At3.later (by repeat (first | (with_reducible assumption) | (with_reducible exact Box.of (by assumption)) | ((with_reducible refine At3.new ?_); simp) | (with_reducible refine At3.drew ?_) | (with_reducible refine At3.alloc ?_ _) | (with_reducible refine Box.drew ?_) | (with_reducible refine Box.alloc ?_ _) | (with_reducible refine Box.set ?_ _ _ _) | ((with_reducible refine At3.set_other' ?_ ?_ _ _ _); (· omega)) | ((with_reducible refine Box.set_other ?_ ?_ _ _ _); (· omega)))) hb1
  have HH := Lib.hid (And.intro a0 (And.intro a1 a2))
  clear a0 a1 a2
  go_upto_region 2 with (fail)
  have a0 := HH.out.1
  have a1 := HH.out.2.1
  have a2 := HH.out.2.2
  refine wp_gen (fun W => Below w.heap.size w W ∧ At3 W w.heap.size k i S ∧ At3 W (w.heap.size + 1) k' i' S' ∧ At3 W (w.heap.size + 1 + 1) k'' i'' S'') ⟨?_, ?_, ?_, ?_⟩ ?_
  · repeat (first | (with_reducible exact Below.refl _ _) | ((with_reducible refine cSet3 ?_ ?_ _ _ _); (· ((try simp) <;> omega))) | (with_reducible refine Below.drew ?_) | ((with_reducible refine cAlloc ?_ ?_ _); (· ((try simp) <;> omega))) | ((with_reducible refine cOn (by assumption) ?_ ?_); (· ((try simp) <;> omega))))
  · repeat (first | (with_reducible assumption) | (with_reducible exact Box.of (by assumption)) | ((with_reducible refine At3.new ?_); simp) | (with_reducible refine At3.drew ?_) | (with_reducible refine At3.alloc ?_ _) | (with_reducible refine Box.drew ?_) | (with_reducible refine Box.alloc ?_ _) | (with_reducible refine Box.set ?_ _ _ _) | ((with_reducible refine At3.set_other' ?_ ?_ _ _ _); (· omega)) | ((with_reducible refine Box.set_other ?_ ?_ _ _ _); (· omega)))
  · repeat (first | (with_reducible assumption) | (with_reducible exact Box.of (by assumption)) | ((with_reducible refine At3.new ?_); simp) | (with_reducible refine At3.drew ?_) | (with_reducible refine At3.alloc ?_ _) | (with_reducible refine Box.drew ?_) | (with_reducible refine Box.alloc ?_ _) | (with_reducible refine Box.set ?_ _ _ _) | ((with_reducible refine At3.set_other' ?_ ?_ _ _ _); (· omega)) | ((with_reducible refine Box.set_other ?_ ?_ _ _ _); (· omega)))
  · repeat (first | (with_reducible assumption) | (with_reducible exact Box.of (by assumption)) | ((with_reducible refine At3.new ?_); simp) | (with_reducible refine At3.drew ?_) | (with_reducible refine At3.alloc ?_ _) | (with_reducible refine Box.drew ?_) | (with_reducible refine Box.alloc ?_ _) | (with_reducible refine Box.set ?_ _ _ _) | ((with_reducible refine At3.set_other' ?_ ?_ _ _ _); (· omega)) | ((with_reducible refine Box.set_other ?_ ?_ _ _ _); (· omega)))
  clear hc1 hf1 hb1 hy1 hz1_0 hz1_1 hz1_2 a0 a1 a2 HH
  rintro W ⟨hB, A0, A1, A2⟩
  have c0k := A0.k
  have c0i := A0.i
  have c0s := A0.s
  have l0 := A0.lt
  have c1k := A1.k
  have c1i := A1.i
  have c1s := A1.s
  have l1 := A1.lt
  have c2k := A2.k
  have c2i := A2.i
  have c2s := A2.s
  have l2 := A2.lt
  refine detL_begin [.val (.agg #[.int .i64 k, .int .i64 i, .string S]), .val (.agg #[.int .i64 k', .int .i64 i', .string S']), .val (.int .i64 (1)), .val (.agg #[.int .i64 k', .int .i64 i', .string S']), .val (.agg #[.int .i64 k'', .int .i64 i'', .string S'']), .val (.int .i64 y), .val (.agg #[.int .i64 k, .int .i64 i, .string S]), .val (.agg #[.int .i64 k'', .int .i64 i'', .string S'']), .val (.int .i64 z), .val (.int .i64 (1)), .val (.int .i64 y), .val (.int .i64 z)] 12 (by kernel_rfl) ?_
  refine detL_val (by kernel_rfl) (yields_of rfl fun w1 hb1 => ?_) ?_
  · have hc1 := bcellD hb1
    clear hb1
    go_simp
    exact Det1_same
  simp only [Act.put, List.setIfInBounds_toArray, List.set_cons_zero, List.set_cons_succ]
  refine detL_val (by kernel_rfl) (yields_of rfl fun w1 hb1 => ?_) ?_
  · have hc1 := bcellD hb1
    clear hb1
    go_simp
    exact Det1_same
  simp only [Act.put, List.setIfInBounds_toArray, List.set_cons_zero, List.set_cons_succ]
  refine detL_val (by kernel_rfl) (yields_of rfl fun w1 hb1 => ?_) ?_
  · have hc1 := bcellD hb1
    clear hb1
    go_simp
    exact Det1_enter (order_is _ _ _ _ _ _ _ _ HX.out)
  simp only [Act.put, List.setIfInBounds_toArray, List.set_cons_zero, List.set_cons_succ]
  refine detL_val (by kernel_rfl) (yields_of rfl fun w1 hb1 => ?_) ?_
  · have hc1 := bcellD hb1
    clear hb1
    go_simp
    exact Det1_same
  simp only [Act.put, List.setIfInBounds_toArray, List.set_cons_zero, List.set_cons_succ]
  refine detL_val (by kernel_rfl) (yields_of rfl fun w1 hb1 => ?_) ?_
  · have hc1 := bcellD hb1
    clear hb1
    go_simp
    exact Det1_same
  simp only [Act.put, List.setIfInBounds_toArray, List.set_cons_zero, List.set_cons_succ]
  refine detL_val (by kernel_rfl) (yields_of rfl fun w1 hb1 => ?_) ?_
  · have hc1 := bcellD hb1
    clear hb1
    go_simp
    exact Det1_enter (order_is _ _ _ _ _ _ _ _ HY.out)
  simp only [Act.put, List.setIfInBounds_toArray, List.set_cons_zero, List.set_cons_succ]
  refine detL_val (by kernel_rfl) (yields_of rfl fun w1 hb1 => ?_) ?_
  · have hc1 := bcellD hb1
    clear hb1
    go_simp
    exact Det1_same
  simp only [Act.put, List.setIfInBounds_toArray, List.set_cons_zero, List.set_cons_succ]
  refine detL_val (by kernel_rfl) (yields_of rfl fun w1 hb1 => ?_) ?_
  · have hc1 := bcellD hb1
    clear hb1
    go_simp
    exact Det1_same
  simp only [Act.put, List.setIfInBounds_toArray, List.set_cons_zero, List.set_cons_succ]
  refine detL_val (by kernel_rfl) (yields_of rfl fun w1 hb1 => ?_) ?_
  · have hc1 := bcellD hb1
    clear hb1
    go_simp
    exact Det1_enter (order_is _ _ _ _ _ _ _ _ HZ.out)
  simp only [Act.put, List.setIfInBounds_toArray, List.set_cons_zero, List.set_cons_succ]
  refine detL_val (by kernel_rfl) (yields_of rfl fun w1 hb1 => ?_) ?_
  · have hc1 := bcellD hb1
    clear hb1
    go_simp
    exact Det1_same
  simp only [Act.put, List.setIfInBounds_toArray, List.set_cons_zero, List.set_cons_succ]
  refine detL_val (by kernel_rfl) (yields_of rfl fun w1 hb1 => ?_) ?_
  · have hc1 := bcellD hb1
    clear hb1
    go_simp
    exact Det1_same
  simp only [Act.put, List.setIfInBounds_toArray, List.set_cons_zero, List.set_cons_succ]
  refine detL_val (by kernel_rfl) (yields_of rfl fun w1 hb1 => ?_) ?_
  · have hc1 := bcellD hb1
    clear hb1
    go_simp
    exact Det1_same
  simp only [Act.put, List.setIfInBounds_toArray, List.set_cons_zero, List.set_cons_succ]
  refine detL_tail rfl (by kernel_rfl) fun w1 hw1 => ?_
  have hb1 := hB.drew.trans (hw1.below.mono hB.size)
  have C0 := A0.drew.later hw1.below
  have C1 := A1.drew.later hw1.below
  have C2 := A2.drew.later hw1.below
  clear hw1 hB A0 A1 A2 c0k c0i c0s l0 c1k c1i c1s l1 c2k c2i c2s l2
  have HH := Lib.hid (And.intro hb1 (And.intro C0 (And.intro C1 C2)))
  have k0 := C0.k
  have i0 := C0.i
  have s0 := C0.s
  have k1 := C1.k
  have i1 := C1.i
  have s1 := C1.s
  clear C0 C1 C2 hb1
  go_upto_region 3 with (fail)
  go_upto_region 4 with (first
    | (go_at_call 29; refine (order_is _ _ _ _ _ _ _ _ HX'.out).mono ?_; rintro e w2 ⟨rfl, hb2⟩; have C0 := HH.out.2.1.later hb2; have C1 := HH.out.2.2.1.later hb2; have k2 := C0.k; have i2 := C0.i; have s2 := C0.s; have k3 := C1.k; have i3 := C1.i; have s3 := C1.s)
    | (go_at_call_of 31 (Value.agg #[.int .i64 k, .int .i64 i, .string S]); refine (may_is _ _ _ _ _ ha).mono ?_; rintro e w3 ⟨rfl, hb3⟩; have E0 := C0.later hb3; have E1 := C1.later hb3; have k4 := E0.k; have i4 := E0.i; have s4 := E0.s; have k5 := E1.k; have i5 := E1.i; have s5 := E1.s)
    | (go_at_call_of 31 (Value.agg #[.int .i64 k', .int .i64 i', .string S']); refine (may_is _ _ _ _ _ hb).mono ?_; rintro e w4 ⟨rfl, hb4⟩; have G0 := E0.later hb4; have G1 := E1.later hb4; have k6 := G0.k; have i6 := G0.i; have s6 := G0.s; have k7 := G1.k; have i7 := G1.i; have s7 := G1.s))
  clear k0 i0 s0 k1 i1 s1 k2 i2 s2 k3 i3 s3 k4 i4 s4 k5 i5 s5
  have q2 := HH.out.1.trans (hb2.mono HH.out.1.size)
  have q3 := q2.trans (hb3.mono q2.size)
  
  refine wp_gen (fun W => Below w.heap.size w W ∧ At3 W w.heap.size k i S ∧ At3 W (w.heap.size + 1) k' i' S') ⟨q3, E0, E1⟩ ?_
  clear HH
  rintro W ⟨hB, A0, A1⟩
  have c0k := A0.k
  have c0i := A0.i
  have c0s := A0.s
  have l0 := A0.lt
  have c1k := A1.k
  have c1i := A1.i
  have c1s := A1.s
  have l1 := A1.lt
  have hmW : W.cell? ⟨0, 0, none⟩ = some (.int .i64 m) := (hB.cell (p := ⟨0, 0, none⟩) hlt).trans hm
  cases HA : alikeB k i S k' i' S' with
  | false =>
    refine detL_begin [.val (.agg #[.int .i64 k, .int .i64 i, .string S]), .val (.agg #[.int .i64 k', .int .i64 i', .string S']), .val (.agg #[.int .i64 0, .int .i64 0, .string ⟨#[]⟩]), .val (.agg #[.int .i64 k, .int .i64 i, .string S]), .val (.agg #[.int .i64 k', .int .i64 i', .string S']), .val (.agg #[.int .i64 0, .int .i64 0, .string ⟨#[]⟩]), .rel newR, .rel newR] 8 (by kernel_rfl) ?_
    refine detL_val (by kernel_rfl) (yields_of rfl fun w1 hb1 => ?_) ?_
    · have hc1 := bcellD hb1
      clear hb1
      go_simp
      exact Det1_same
    simp only [Act.put, List.setIfInBounds_toArray, List.set_cons_zero, List.set_cons_succ]
    refine detL_val (by kernel_rfl) (yields_of rfl fun w1 hb1 => ?_) ?_
    · have hc1 := bcellD hb1
      clear hb1
      go_simp
      exact Det1_same
    simp only [Act.put, List.setIfInBounds_toArray, List.set_cons_zero, List.set_cons_succ]
    refine detL_val (by kernel_rfl) (yields_of rfl fun w1 hb1 => ?_) ?_
    · have hc1 := bcellD hb1
      clear hb1
      go_simp
      exact Det1_enter (equal_no _ _ _ _ _ _ _ HA)
    simp only [Act.put, List.setIfInBounds_toArray, List.set_cons_zero, List.set_cons_succ]
    refine detL_val (by kernel_rfl) (yields_of rfl fun w1 hb1 => ?_) ?_
    · have hc1 := bcellD hb1
      clear hb1
      go_simp
      exact Det1_same
    simp only [Act.put, List.setIfInBounds_toArray, List.set_cons_zero, List.set_cons_succ]
    refine detL_val (by kernel_rfl) (yields_of rfl fun w1 hb1 => ?_) ?_
    · have hc1 := bcellD hb1
      clear hb1
      go_simp
      exact Det1_same
    simp only [Act.put, List.setIfInBounds_toArray, List.set_cons_zero, List.set_cons_succ]
    refine detL_val (by kernel_rfl) (yields_of rfl fun w1 hb1 => ?_) ?_
    · have hc1 := bcellD hb1
      clear hb1
      go_simp
      exact Det1_enter (less_no _ _ _ _ _ _ _ HA)
    simp only [Act.put, List.setIfInBounds_toArray, List.set_cons_zero, List.set_cons_succ]
    refine detL_rel (by kernel_rfl) (yields_rel (by rfl) newR_lasting fun w1 hw1 => ?_) ?_
    · clear hw1
      go_simp
      exact newR_made
    rintro v F w1 hw1
    obtain ⟨b0, rfl, rfl, -⟩ := (hw1.ents _ List.mem_cons_self).1
    clear hw1
    simp only [Act.put, List.setIfInBounds_toArray, List.set_cons_zero, List.set_cons_succ]
    refine detL_rel (by kernel_rfl) (yields_rel (by rfl) newR_lasting fun w1 hw1 => ?_) ?_
    · clear hw1
      go_simp
      exact newR_made
    rintro v F w1 hw1
    obtain ⟨b1, rfl, rfl, -⟩ := (hw1.ents _ List.mem_cons_self).1
    clear hw1
    simp only [Act.put, List.setIfInBounds_toArray, List.set_cons_zero, List.set_cons_succ]
    refine detL_tail rfl (by kernel_rfl) fun w1 hw1 => ?_
    have e1 := hw1.ents _ List.mem_cons_self
    have e0 := hw1.ents _ (List.mem_cons_of_mem _ List.mem_cons_self)
    have B1 : At3 w1 b1 0 0 ⟨#[]⟩ := (newR_at e1.1).1
    have B0 : At3 w1 b0 0 0 ⟨#[]⟩ := (newR_at e0.1).1
    have z1 := (newR_at e1.1).2
    have z0 := (newR_at e0.1).2
    have n0 : w.heap.size ≤ b0 := Nat.le_trans hB.size (e0.2.2 b0 List.mem_cons_self).1
    have n1 : w.heap.size ≤ b1 := Nat.le_trans hB.size (e1.2.2 b1 List.mem_cons_self).1
    have ap := hw1.apart
    simp only [List.pairwise_cons, List.mem_cons, List.not_mem_nil, or_false, forall_eq] at ap
    have d10 : b1 ≠ b0 := ap.1
    have hb1 := hB.drew.trans (hw1.below.mono hB.size)
    clear hw1 e0 e1 ap hB A0 A1 hmW c0k c0i c0s l0 c1k c1i c1s l1
    have HH := Lib.hid (And.intro B0 (And.intro B1 hb1))
    have k0 := B0.k
    have i0 := B0.i
    have s0 := B0.s
    have k1 := B1.k
    have i1 := B1.i
    have s1 := B1.s
    clear B0 B1 hb1
    go_upto_region 6 with (fail)
    have B0 := HH.out.1
    have B1 := HH.out.2.1
    have hb1 := HH.out.2.2
    refine wp_gen (fun W => Below w.heap.size w W ∧ At3 W b0 0 0 ⟨#[]⟩ ∧ At3 W b1 0 0 ⟨#[]⟩) ⟨?_, ?_, ?_⟩ ?_
    · repeat (first | (with_reducible exact Below.refl _ _) | ((with_reducible refine cSet3 ?_ ?_ _ _ _); (· ((try simp) <;> omega))) | (with_reducible refine Below.drew ?_) | ((with_reducible refine cAlloc ?_ ?_ _); (· ((try simp) <;> omega))) | ((with_reducible refine cOn (by assumption) ?_ ?_); (· ((try simp) <;> omega))))
    · repeat (first | (with_reducible assumption) | (with_reducible exact Box.of (by assumption)) | ((with_reducible refine At3.new ?_); simp) | (with_reducible refine At3.drew ?_) | (with_reducible refine At3.alloc ?_ _) | (with_reducible refine Box.drew ?_) | (with_reducible refine Box.alloc ?_ _) | (with_reducible refine Box.set ?_ _ _ _) | ((with_reducible refine At3.set_other' ?_ ?_ _ _ _); (· omega)) | ((with_reducible refine Box.set_other ?_ ?_ _ _ _); (· omega)))
    · repeat (first | (with_reducible assumption) | (with_reducible exact Box.of (by assumption)) | ((with_reducible refine At3.new ?_); simp) | (with_reducible refine At3.drew ?_) | (with_reducible refine At3.alloc ?_ _) | (with_reducible refine Box.drew ?_) | (with_reducible refine Box.alloc ?_ _) | (with_reducible refine Box.set ?_ _ _ _) | ((with_reducible refine At3.set_other' ?_ ?_ _ _ _); (· omega)) | ((with_reducible refine Box.set_other ?_ ?_ _ _ _); (· omega)))
    clear k0 i0 s0 k1 i1 s1 z0 z1 B0 B1 hb1 HH n0 n1 d10
    rintro W ⟨hB, A0, A1⟩
    have c0k := A0.k
    have c0i := A0.i
    have c0s := A0.s
    have l0 := A0.lt
    have c1k := A1.k
    have c1i := A1.i
    have c1s := A1.s
    have l1 := A1.lt
    have hmW : W.cell? ⟨0, 0, none⟩ = some (.int .i64 m) := (hB.cell (p := ⟨0, 0, none⟩) hlt).trans hm
    go_wp2_with (go_at_call 20; refine (awake_any _ m hmW).mono ?_; rintro e w3 ⟨rfl, hb3⟩)
    go_ret
    exact ⟨rfl, hB.trans (hb3.mono hB.size)⟩
  | true =>
    have he : b2i (ordN k i S k' i' S' == 0) = 0 := by rw [HX.out]; rfl
    have hl : b2i (decide (ordN k i S k' i' S' < 0)) = 0 := by rw [HX.out]; rfl
    refine detL_begin [.val (.agg #[.int .i64 k, .int .i64 i, .string S]), .val (.agg #[.int .i64 k', .int .i64 i', .string S']), .val (.agg #[.int .i64 3, .int .i64 0, .string ⟨#[]⟩]), .val (.agg #[.int .i64 k, .int .i64 i, .string S]), .val (.agg #[.int .i64 k', .int .i64 i', .string S']), .val (.agg #[.int .i64 3, .int .i64 0, .string ⟨#[]⟩]), .rel newR, .rel newR] 8 (by kernel_rfl) ?_
    refine detL_val (by kernel_rfl) (yields_of rfl fun w1 hb1 => ?_) ?_
    · have hc1 := bcellD hb1
      clear hb1
      go_simp
      exact Det1_same
    simp only [Act.put, List.setIfInBounds_toArray, List.set_cons_zero, List.set_cons_succ]
    refine detL_val (by kernel_rfl) (yields_of rfl fun w1 hb1 => ?_) ?_
    · have hc1 := bcellD hb1
      clear hb1
      go_simp
      exact Det1_same
    simp only [Act.put, List.setIfInBounds_toArray, List.set_cons_zero, List.set_cons_succ]
    refine detL_val (by kernel_rfl) (yields_of rfl fun w1 hb1 => ?_) ?_
    · have hc1 := bcellD hb1
      clear hb1
      go_simp
      exact Det1_enter (equal_is _ _ _ _ _ _ _ HA _ he)
    simp only [Act.put, List.setIfInBounds_toArray, List.set_cons_zero, List.set_cons_succ]
    refine detL_val (by kernel_rfl) (yields_of rfl fun w1 hb1 => ?_) ?_
    · have hc1 := bcellD hb1
      clear hb1
      go_simp
      exact Det1_same
    simp only [Act.put, List.setIfInBounds_toArray, List.set_cons_zero, List.set_cons_succ]
    refine detL_val (by kernel_rfl) (yields_of rfl fun w1 hb1 => ?_) ?_
    · have hc1 := bcellD hb1
      clear hb1
      go_simp
      exact Det1_same
    simp only [Act.put, List.setIfInBounds_toArray, List.set_cons_zero, List.set_cons_succ]
    refine detL_val (by kernel_rfl) (yields_of rfl fun w1 hb1 => ?_) ?_
    · have hc1 := bcellD hb1
      clear hb1
      go_simp
      exact Det1_enter (less_is _ _ _ _ _ _ _ HA _ hl)
    simp only [Act.put, List.setIfInBounds_toArray, List.set_cons_zero, List.set_cons_succ]
    refine detL_rel (by kernel_rfl) (yields_rel (by rfl) newR_lasting fun w1 hw1 => ?_) ?_
    · clear hw1
      go_simp
      exact newR_made
    rintro v F w1 hw1
    obtain ⟨b0, rfl, rfl, -⟩ := (hw1.ents _ List.mem_cons_self).1
    clear hw1
    simp only [Act.put, List.setIfInBounds_toArray, List.set_cons_zero, List.set_cons_succ]
    refine detL_rel (by kernel_rfl) (yields_rel (by rfl) newR_lasting fun w1 hw1 => ?_) ?_
    · clear hw1
      go_simp
      exact newR_made
    rintro v F w1 hw1
    obtain ⟨b1, rfl, rfl, -⟩ := (hw1.ents _ List.mem_cons_self).1
    clear hw1
    simp only [Act.put, List.setIfInBounds_toArray, List.set_cons_zero, List.set_cons_succ]
    refine detL_tail rfl (by kernel_rfl) fun w1 hw1 => ?_
    have e1 := hw1.ents _ List.mem_cons_self
    have e0 := hw1.ents _ (List.mem_cons_of_mem _ List.mem_cons_self)
    have B1 : At3 w1 b1 0 0 ⟨#[]⟩ := (newR_at e1.1).1
    have B0 : At3 w1 b0 0 0 ⟨#[]⟩ := (newR_at e0.1).1
    have z1 := (newR_at e1.1).2
    have z0 := (newR_at e0.1).2
    have n0 : w.heap.size ≤ b0 := Nat.le_trans hB.size (e0.2.2 b0 List.mem_cons_self).1
    have n1 : w.heap.size ≤ b1 := Nat.le_trans hB.size (e1.2.2 b1 List.mem_cons_self).1
    have ap := hw1.apart
    simp only [List.pairwise_cons, List.mem_cons, List.not_mem_nil, or_false, forall_eq] at ap
    have d10 : b1 ≠ b0 := ap.1
    have hb1 := hB.drew.trans (hw1.below.mono hB.size)
    clear hw1 e0 e1 ap hB A0 A1 hmW c0k c0i c0s l0 c1k c1i c1s l1
    have HH := Lib.hid (And.intro B0 (And.intro B1 hb1))
    have k0 := B0.k
    have i0 := B0.i
    have s0 := B0.s
    have k1 := B1.k
    have i1 := B1.i
    have s1 := B1.s
    clear B0 B1 hb1
    go_upto_region 6 with (fail)
    have B0 := HH.out.1
    have B1 := HH.out.2.1
    have hb1 := HH.out.2.2
    refine wp_gen (fun W => Below w.heap.size w W ∧ At3 W b0 3 0 ⟨#[]⟩ ∧ At3 W b1 3 0 ⟨#[]⟩) ⟨?_, ?_, ?_⟩ ?_
    · repeat (first | (with_reducible exact Below.refl _ _) | ((with_reducible refine cSet3 ?_ ?_ _ _ _); (· ((try simp) <;> omega))) | (with_reducible refine Below.drew ?_) | ((with_reducible refine cAlloc ?_ ?_ _); (· ((try simp) <;> omega))) | ((with_reducible refine cOn (by assumption) ?_ ?_); (· ((try simp) <;> omega))))
    · repeat (first | (with_reducible assumption) | (with_reducible exact Box.of (by assumption)) | ((with_reducible refine At3.new ?_); simp) | (with_reducible refine At3.drew ?_) | (with_reducible refine At3.alloc ?_ _) | (with_reducible refine Box.drew ?_) | (with_reducible refine Box.alloc ?_ _) | (with_reducible refine Box.set ?_ _ _ _) | ((with_reducible refine At3.set_other' ?_ ?_ _ _ _); (· omega)) | ((with_reducible refine Box.set_other ?_ ?_ _ _ _); (· omega)))
    · repeat (first | (with_reducible assumption) | (with_reducible exact Box.of (by assumption)) | ((with_reducible refine At3.new ?_); simp) | (with_reducible refine At3.drew ?_) | (with_reducible refine At3.alloc ?_ _) | (with_reducible refine Box.drew ?_) | (with_reducible refine Box.alloc ?_ _) | (with_reducible refine Box.set ?_ _ _ _) | ((with_reducible refine At3.set_other' ?_ ?_ _ _ _); (· omega)) | ((with_reducible refine Box.set_other ?_ ?_ _ _ _); (· omega)))
    clear k0 i0 s0 k1 i1 s1 z0 z1 B0 B1 hb1 HH n0 n1 d10
    rintro W ⟨hB, A0, A1⟩
    have c0k := A0.k
    have c0i := A0.i
    have c0s := A0.s
    have l0 := A0.lt
    have c1k := A1.k
    have c1i := A1.i
    have c1s := A1.s
    have l1 := A1.lt
    have hmW : W.cell? ⟨0, 0, none⟩ = some (.int .i64 m) := (hB.cell (p := ⟨0, 0, none⟩) hlt).trans hm
    go_wp2_with (go_at_call 20; refine (awake_any _ m hmW).mono ?_; rintro e w3 ⟨rfl, hb3⟩)
    go_ret
    exact ⟨rfl, hB.trans (hb3.mono hB.size)⟩

set_option maxRecDepth 100000 in
set_option maxHeartbeats 40000000 in
theorem orders_1o_tf (k i : Int) (s S : ByteArray) (k' : Int) (i' : Int) (s' : ByteArray) (S' : ByteArray) (k'' i'' : Int) (s'' S'' : ByteArray) (w : World) (hs : s.size ≤ maxLen) (hs' : s'.size ≤ maxLen) (hs'' : s''.size ≤ maxLen) (hS : fewS s = S) (hS' : fewS s' = S') (hS'' : fewS s'' = S'') (m : Int) (hm : w.cell? ⟨0, 0, none⟩ = some (.int .i64 m))
    (y z : Int) (hx : ordN k i S k' i' S' = 1) (hy : ordN k' i' S' k'' i'' S'' = y) (hz : ordN k i S k'' i'' S'' = z)  (ha : mayB k i S = true) (hb : mayB k' i' S' = false) :
    Calls Tryd.prog 7 #[.agg #[.int .i64 k, .int .i64 i, .string s], .agg #[.int .i64 k', .int .i64 i', .string s'], .agg #[.int .i64 k'', .int .i64 i'', .string s'']] w fun e w' => e = .returned (.bool true) ∧ Below w.heap.size w w' := by
  have hlt : 0 < w.heap.size := World.block_lt_of_cell? w _ hm
  have HX := Lib.hid hx
  have hx' : ordN k' i' S' k i S = -(1) := (ord_anti k i S k' i' S').trans (congrArg (fun v => -v) hx)
  have HX' : Hid (ordN k' i' S' k i S = -1) := Lib.hid (hx'.trans (by decide))
  clear hx'
  have HY := Lib.hid hy
  have HZ := Lib.hid hz
  clear hx hy hz
  go_enter Tryd.func7, Tryd.ntmps7
  go_wp2
  refine detL_begin [.val (.agg #[.int .i64 k, .int .i64 i, .string s]), .val (.agg #[.int .i64 k, .int .i64 i, .string S]), .val (.agg #[.int .i64 k', .int .i64 i', .string s']), .val (.agg #[.int .i64 k', .int .i64 i', .string S']), .val (.agg #[.int .i64 k'', .int .i64 i'', .string s'']), .val (.agg #[.int .i64 k'', .int .i64 i'', .string S''])] 6 (by kernel_rfl) ?_
  repeat
    (refine detL_val (by kernel_rfl) (yields_of rfl fun w1 hb1 => ?_) ?_
     · have hc1 := bcellD hb1
       clear hb1
       go_simp
       with_reducible first
         | exact Det1_same
         | exact Det1_enter (few_is _ _ _ _ _ hs hS)
         | exact Det1_enter (few_is _ _ _ _ _ hs' hS')
         | exact Det1_enter (few_is _ _ _ _ _ hs'' hS'')
     simp only [Act.put, List.setIfInBounds_toArray, List.set_cons_zero, List.set_cons_succ])
  refine detL_tail rfl (by kernel_rfl) fun w1 hw1 => ?_
  have hb1 := hw1.below
  clear hw1
  have hc1 := (bcell hb1).1
  have hf1 := (bcell hb1).2
  have hy1 := hb1.size
  (try simp at hy1)
  have hz1_0 : w.heap.size < w1.heap.size := (by omega)
  have hz1_1 : w.heap.size + 1 < w1.heap.size := (by omega)
  have hz1_2 : w.heap.size + 1 + 1 < w1.heap.size := (by omega)
  have a0 : At3 w1 w.heap.size k i s := At3.later (by repeat (first | (with_reducible assumption) | (with_reducible exact Box.of (by assumption)) | ((with_reducible refine At3.new ?_); simp) | (with_reducible refine At3.drew ?_) | (with_reducible refine At3.alloc ?_ _) | (with_reducible refine Box.drew ?_) | (with_reducible refine Box.alloc ?_ _) | (with_reducible refine Box.set ?_ _ _ _) | ((with_reducible refine At3.set_other' ?_ ?_ _ _ _); (· omega)) | ((with_reducible refine Box.set_other ?_ ?_ _ _ _); (· omega)))) hb1
  have a1 : At3 w1 (w.heap.size + 1) k' i' s' := At3.later (by repeat (first | (with_reducible assumption) | (with_reducible exact Box.of (by assumption)) | ((with_reducible refine At3.new ?_); simp) | (with_reducible refine At3.drew ?_) | (with_reducible refine At3.alloc ?_ _) | (with_reducible refine Box.drew ?_) | (with_reducible refine Box.alloc ?_ _) | (with_reducible refine Box.set ?_ _ _ _) | ((with_reducible refine At3.set_other' ?_ ?_ _ _ _); (· omega)) | ((with_reducible refine Box.set_other ?_ ?_ _ _ _); (· omega)))) hb1
  have a2 : At3 w1 (w.heap.size + 1 + 1) k'' i'' s'' := At3.later (by repeat (first | (with_reducible assumption) | (with_reducible exact Box.of (by assumption)) | ((with_reducible refine At3.new ?_); simp) | (with_reducible refine At3.drew ?_) | (with_reducible refine At3.alloc ?_ _) | (with_reducible refine Box.drew ?_) | (with_reducible refine Box.alloc ?_ _) | (with_reducible refine Box.set ?_ _ _ _) | ((with_reducible refine At3.set_other' ?_ ?_ _ _ _); (· omega)) | ((with_reducible refine Box.set_other ?_ ?_ _ _ _); (· omega)))) hb1
  have HH := Lib.hid (And.intro a0 (And.intro a1 a2))
  clear a0 a1 a2
  go_upto_region 2 with (fail)
  have a0 := HH.out.1
  have a1 := HH.out.2.1
  have a2 := HH.out.2.2
  refine wp_gen (fun W => Below w.heap.size w W ∧ At3 W w.heap.size k i S ∧ At3 W (w.heap.size + 1) k' i' S' ∧ At3 W (w.heap.size + 1 + 1) k'' i'' S'') ⟨?_, ?_, ?_, ?_⟩ ?_
  · repeat (first | (with_reducible exact Below.refl _ _) | ((with_reducible refine cSet3 ?_ ?_ _ _ _); (· ((try simp) <;> omega))) | (with_reducible refine Below.drew ?_) | ((with_reducible refine cAlloc ?_ ?_ _); (· ((try simp) <;> omega))) | ((with_reducible refine cOn (by assumption) ?_ ?_); (· ((try simp) <;> omega))))
  · repeat (first | (with_reducible assumption) | (with_reducible exact Box.of (by assumption)) | ((with_reducible refine At3.new ?_); simp) | (with_reducible refine At3.drew ?_) | (with_reducible refine At3.alloc ?_ _) | (with_reducible refine Box.drew ?_) | (with_reducible refine Box.alloc ?_ _) | (with_reducible refine Box.set ?_ _ _ _) | ((with_reducible refine At3.set_other' ?_ ?_ _ _ _); (· omega)) | ((with_reducible refine Box.set_other ?_ ?_ _ _ _); (· omega)))
  · repeat (first | (with_reducible assumption) | (with_reducible exact Box.of (by assumption)) | ((with_reducible refine At3.new ?_); simp) | (with_reducible refine At3.drew ?_) | (with_reducible refine At3.alloc ?_ _) | (with_reducible refine Box.drew ?_) | (with_reducible refine Box.alloc ?_ _) | (with_reducible refine Box.set ?_ _ _ _) | ((with_reducible refine At3.set_other' ?_ ?_ _ _ _); (· omega)) | ((with_reducible refine Box.set_other ?_ ?_ _ _ _); (· omega)))
  · repeat (first | (with_reducible assumption) | (with_reducible exact Box.of (by assumption)) | ((with_reducible refine At3.new ?_); simp) | (with_reducible refine At3.drew ?_) | (with_reducible refine At3.alloc ?_ _) | (with_reducible refine Box.drew ?_) | (with_reducible refine Box.alloc ?_ _) | (with_reducible refine Box.set ?_ _ _ _) | ((with_reducible refine At3.set_other' ?_ ?_ _ _ _); (· omega)) | ((with_reducible refine Box.set_other ?_ ?_ _ _ _); (· omega)))
  clear hc1 hf1 hb1 hy1 hz1_0 hz1_1 hz1_2 a0 a1 a2 HH
  rintro W ⟨hB, A0, A1, A2⟩
  have c0k := A0.k
  have c0i := A0.i
  have c0s := A0.s
  have l0 := A0.lt
  have c1k := A1.k
  have c1i := A1.i
  have c1s := A1.s
  have l1 := A1.lt
  have c2k := A2.k
  have c2i := A2.i
  have c2s := A2.s
  have l2 := A2.lt
  refine detL_begin [.val (.agg #[.int .i64 k, .int .i64 i, .string S]), .val (.agg #[.int .i64 k', .int .i64 i', .string S']), .val (.int .i64 (1)), .val (.agg #[.int .i64 k', .int .i64 i', .string S']), .val (.agg #[.int .i64 k'', .int .i64 i'', .string S'']), .val (.int .i64 y), .val (.agg #[.int .i64 k, .int .i64 i, .string S]), .val (.agg #[.int .i64 k'', .int .i64 i'', .string S'']), .val (.int .i64 z), .val (.int .i64 (1)), .val (.int .i64 y), .val (.int .i64 z)] 12 (by kernel_rfl) ?_
  refine detL_val (by kernel_rfl) (yields_of rfl fun w1 hb1 => ?_) ?_
  · have hc1 := bcellD hb1
    clear hb1
    go_simp
    exact Det1_same
  simp only [Act.put, List.setIfInBounds_toArray, List.set_cons_zero, List.set_cons_succ]
  refine detL_val (by kernel_rfl) (yields_of rfl fun w1 hb1 => ?_) ?_
  · have hc1 := bcellD hb1
    clear hb1
    go_simp
    exact Det1_same
  simp only [Act.put, List.setIfInBounds_toArray, List.set_cons_zero, List.set_cons_succ]
  refine detL_val (by kernel_rfl) (yields_of rfl fun w1 hb1 => ?_) ?_
  · have hc1 := bcellD hb1
    clear hb1
    go_simp
    exact Det1_enter (order_is _ _ _ _ _ _ _ _ HX.out)
  simp only [Act.put, List.setIfInBounds_toArray, List.set_cons_zero, List.set_cons_succ]
  refine detL_val (by kernel_rfl) (yields_of rfl fun w1 hb1 => ?_) ?_
  · have hc1 := bcellD hb1
    clear hb1
    go_simp
    exact Det1_same
  simp only [Act.put, List.setIfInBounds_toArray, List.set_cons_zero, List.set_cons_succ]
  refine detL_val (by kernel_rfl) (yields_of rfl fun w1 hb1 => ?_) ?_
  · have hc1 := bcellD hb1
    clear hb1
    go_simp
    exact Det1_same
  simp only [Act.put, List.setIfInBounds_toArray, List.set_cons_zero, List.set_cons_succ]
  refine detL_val (by kernel_rfl) (yields_of rfl fun w1 hb1 => ?_) ?_
  · have hc1 := bcellD hb1
    clear hb1
    go_simp
    exact Det1_enter (order_is _ _ _ _ _ _ _ _ HY.out)
  simp only [Act.put, List.setIfInBounds_toArray, List.set_cons_zero, List.set_cons_succ]
  refine detL_val (by kernel_rfl) (yields_of rfl fun w1 hb1 => ?_) ?_
  · have hc1 := bcellD hb1
    clear hb1
    go_simp
    exact Det1_same
  simp only [Act.put, List.setIfInBounds_toArray, List.set_cons_zero, List.set_cons_succ]
  refine detL_val (by kernel_rfl) (yields_of rfl fun w1 hb1 => ?_) ?_
  · have hc1 := bcellD hb1
    clear hb1
    go_simp
    exact Det1_same
  simp only [Act.put, List.setIfInBounds_toArray, List.set_cons_zero, List.set_cons_succ]
  refine detL_val (by kernel_rfl) (yields_of rfl fun w1 hb1 => ?_) ?_
  · have hc1 := bcellD hb1
    clear hb1
    go_simp
    exact Det1_enter (order_is _ _ _ _ _ _ _ _ HZ.out)
  simp only [Act.put, List.setIfInBounds_toArray, List.set_cons_zero, List.set_cons_succ]
  refine detL_val (by kernel_rfl) (yields_of rfl fun w1 hb1 => ?_) ?_
  · have hc1 := bcellD hb1
    clear hb1
    go_simp
    exact Det1_same
  simp only [Act.put, List.setIfInBounds_toArray, List.set_cons_zero, List.set_cons_succ]
  refine detL_val (by kernel_rfl) (yields_of rfl fun w1 hb1 => ?_) ?_
  · have hc1 := bcellD hb1
    clear hb1
    go_simp
    exact Det1_same
  simp only [Act.put, List.setIfInBounds_toArray, List.set_cons_zero, List.set_cons_succ]
  refine detL_val (by kernel_rfl) (yields_of rfl fun w1 hb1 => ?_) ?_
  · have hc1 := bcellD hb1
    clear hb1
    go_simp
    exact Det1_same
  simp only [Act.put, List.setIfInBounds_toArray, List.set_cons_zero, List.set_cons_succ]
  refine detL_tail rfl (by kernel_rfl) fun w1 hw1 => ?_
  have hb1 := hB.drew.trans (hw1.below.mono hB.size)
  have C0 := A0.drew.later hw1.below
  have C1 := A1.drew.later hw1.below
  have C2 := A2.drew.later hw1.below
  clear hw1 hB A0 A1 A2 c0k c0i c0s l0 c1k c1i c1s l1 c2k c2i c2s l2
  have HH := Lib.hid (And.intro hb1 (And.intro C0 (And.intro C1 C2)))
  have k0 := C0.k
  have i0 := C0.i
  have s0 := C0.s
  have k1 := C1.k
  have i1 := C1.i
  have s1 := C1.s
  clear C0 C1 C2 hb1
  go_upto_region 3 with (fail)
  go_upto_region 4 with (first
    | (go_at_call 29; refine (order_is _ _ _ _ _ _ _ _ HX'.out).mono ?_; rintro e w2 ⟨rfl, hb2⟩; have C0 := HH.out.2.1.later hb2; have C1 := HH.out.2.2.1.later hb2; have k2 := C0.k; have i2 := C0.i; have s2 := C0.s; have k3 := C1.k; have i3 := C1.i; have s3 := C1.s)
    | (go_at_call_of 31 (Value.agg #[.int .i64 k, .int .i64 i, .string S]); refine (may_is _ _ _ _ _ ha).mono ?_; rintro e w3 ⟨rfl, hb3⟩; have E0 := C0.later hb3; have E1 := C1.later hb3; have k4 := E0.k; have i4 := E0.i; have s4 := E0.s; have k5 := E1.k; have i5 := E1.i; have s5 := E1.s)
    | (go_at_call_of 31 (Value.agg #[.int .i64 k', .int .i64 i', .string S']); refine (may_is _ _ _ _ _ hb).mono ?_; rintro e w4 ⟨rfl, hb4⟩; have G0 := E0.later hb4; have G1 := E1.later hb4; have k6 := G0.k; have i6 := G0.i; have s6 := G0.s; have k7 := G1.k; have i7 := G1.i; have s7 := G1.s))
  clear k0 i0 s0 k1 i1 s1 k2 i2 s2 k3 i3 s3 k4 i4 s4 k5 i5 s5 k6 i6 s6 k7 i7 s7
  have q2 := HH.out.1.trans (hb2.mono HH.out.1.size)
  have q3 := q2.trans (hb3.mono q2.size)
  have q4 := q3.trans (hb4.mono q3.size)
  refine wp_gen (fun W => Below w.heap.size w W ∧ At3 W w.heap.size k i S ∧ At3 W (w.heap.size + 1) k' i' S') ⟨q4, G0, G1⟩ ?_
  clear HH
  rintro W ⟨hB, A0, A1⟩
  have c0k := A0.k
  have c0i := A0.i
  have c0s := A0.s
  have l0 := A0.lt
  have c1k := A1.k
  have c1i := A1.i
  have c1s := A1.s
  have l1 := A1.lt
  have hmW : W.cell? ⟨0, 0, none⟩ = some (.int .i64 m) := (hB.cell (p := ⟨0, 0, none⟩) hlt).trans hm
  cases HA : alikeB k i S k' i' S' with
  | false =>
    refine detL_begin [.val (.agg #[.int .i64 k, .int .i64 i, .string S]), .val (.agg #[.int .i64 k', .int .i64 i', .string S']), .val (.agg #[.int .i64 0, .int .i64 0, .string ⟨#[]⟩]), .val (.agg #[.int .i64 k, .int .i64 i, .string S]), .val (.agg #[.int .i64 k', .int .i64 i', .string S']), .val (.agg #[.int .i64 0, .int .i64 0, .string ⟨#[]⟩]), .rel newR, .rel newR] 8 (by kernel_rfl) ?_
    refine detL_val (by kernel_rfl) (yields_of rfl fun w1 hb1 => ?_) ?_
    · have hc1 := bcellD hb1
      clear hb1
      go_simp
      exact Det1_same
    simp only [Act.put, List.setIfInBounds_toArray, List.set_cons_zero, List.set_cons_succ]
    refine detL_val (by kernel_rfl) (yields_of rfl fun w1 hb1 => ?_) ?_
    · have hc1 := bcellD hb1
      clear hb1
      go_simp
      exact Det1_same
    simp only [Act.put, List.setIfInBounds_toArray, List.set_cons_zero, List.set_cons_succ]
    refine detL_val (by kernel_rfl) (yields_of rfl fun w1 hb1 => ?_) ?_
    · have hc1 := bcellD hb1
      clear hb1
      go_simp
      exact Det1_enter (equal_no _ _ _ _ _ _ _ HA)
    simp only [Act.put, List.setIfInBounds_toArray, List.set_cons_zero, List.set_cons_succ]
    refine detL_val (by kernel_rfl) (yields_of rfl fun w1 hb1 => ?_) ?_
    · have hc1 := bcellD hb1
      clear hb1
      go_simp
      exact Det1_same
    simp only [Act.put, List.setIfInBounds_toArray, List.set_cons_zero, List.set_cons_succ]
    refine detL_val (by kernel_rfl) (yields_of rfl fun w1 hb1 => ?_) ?_
    · have hc1 := bcellD hb1
      clear hb1
      go_simp
      exact Det1_same
    simp only [Act.put, List.setIfInBounds_toArray, List.set_cons_zero, List.set_cons_succ]
    refine detL_val (by kernel_rfl) (yields_of rfl fun w1 hb1 => ?_) ?_
    · have hc1 := bcellD hb1
      clear hb1
      go_simp
      exact Det1_enter (less_no _ _ _ _ _ _ _ HA)
    simp only [Act.put, List.setIfInBounds_toArray, List.set_cons_zero, List.set_cons_succ]
    refine detL_rel (by kernel_rfl) (yields_rel (by rfl) newR_lasting fun w1 hw1 => ?_) ?_
    · clear hw1
      go_simp
      exact newR_made
    rintro v F w1 hw1
    obtain ⟨b0, rfl, rfl, -⟩ := (hw1.ents _ List.mem_cons_self).1
    clear hw1
    simp only [Act.put, List.setIfInBounds_toArray, List.set_cons_zero, List.set_cons_succ]
    refine detL_rel (by kernel_rfl) (yields_rel (by rfl) newR_lasting fun w1 hw1 => ?_) ?_
    · clear hw1
      go_simp
      exact newR_made
    rintro v F w1 hw1
    obtain ⟨b1, rfl, rfl, -⟩ := (hw1.ents _ List.mem_cons_self).1
    clear hw1
    simp only [Act.put, List.setIfInBounds_toArray, List.set_cons_zero, List.set_cons_succ]
    refine detL_tail rfl (by kernel_rfl) fun w1 hw1 => ?_
    have e1 := hw1.ents _ List.mem_cons_self
    have e0 := hw1.ents _ (List.mem_cons_of_mem _ List.mem_cons_self)
    have B1 : At3 w1 b1 0 0 ⟨#[]⟩ := (newR_at e1.1).1
    have B0 : At3 w1 b0 0 0 ⟨#[]⟩ := (newR_at e0.1).1
    have z1 := (newR_at e1.1).2
    have z0 := (newR_at e0.1).2
    have n0 : w.heap.size ≤ b0 := Nat.le_trans hB.size (e0.2.2 b0 List.mem_cons_self).1
    have n1 : w.heap.size ≤ b1 := Nat.le_trans hB.size (e1.2.2 b1 List.mem_cons_self).1
    have ap := hw1.apart
    simp only [List.pairwise_cons, List.mem_cons, List.not_mem_nil, or_false, forall_eq] at ap
    have d10 : b1 ≠ b0 := ap.1
    have hb1 := hB.drew.trans (hw1.below.mono hB.size)
    clear hw1 e0 e1 ap hB A0 A1 hmW c0k c0i c0s l0 c1k c1i c1s l1
    have HH := Lib.hid (And.intro B0 (And.intro B1 hb1))
    have k0 := B0.k
    have i0 := B0.i
    have s0 := B0.s
    have k1 := B1.k
    have i1 := B1.i
    have s1 := B1.s
    clear B0 B1 hb1
    go_upto_region 6 with (fail)
    have B0 := HH.out.1
    have B1 := HH.out.2.1
    have hb1 := HH.out.2.2
    refine wp_gen (fun W => Below w.heap.size w W ∧ At3 W b0 0 0 ⟨#[]⟩ ∧ At3 W b1 0 0 ⟨#[]⟩) ⟨?_, ?_, ?_⟩ ?_
    · repeat (first | (with_reducible exact Below.refl _ _) | ((with_reducible refine cSet3 ?_ ?_ _ _ _); (· ((try simp) <;> omega))) | (with_reducible refine Below.drew ?_) | ((with_reducible refine cAlloc ?_ ?_ _); (· ((try simp) <;> omega))) | ((with_reducible refine cOn (by assumption) ?_ ?_); (· ((try simp) <;> omega))))
    · repeat (first | (with_reducible assumption) | (with_reducible exact Box.of (by assumption)) | ((with_reducible refine At3.new ?_); simp) | (with_reducible refine At3.drew ?_) | (with_reducible refine At3.alloc ?_ _) | (with_reducible refine Box.drew ?_) | (with_reducible refine Box.alloc ?_ _) | (with_reducible refine Box.set ?_ _ _ _) | ((with_reducible refine At3.set_other' ?_ ?_ _ _ _); (· omega)) | ((with_reducible refine Box.set_other ?_ ?_ _ _ _); (· omega)))
    · repeat (first | (with_reducible assumption) | (with_reducible exact Box.of (by assumption)) | ((with_reducible refine At3.new ?_); simp) | (with_reducible refine At3.drew ?_) | (with_reducible refine At3.alloc ?_ _) | (with_reducible refine Box.drew ?_) | (with_reducible refine Box.alloc ?_ _) | (with_reducible refine Box.set ?_ _ _ _) | ((with_reducible refine At3.set_other' ?_ ?_ _ _ _); (· omega)) | ((with_reducible refine Box.set_other ?_ ?_ _ _ _); (· omega)))
    clear k0 i0 s0 k1 i1 s1 z0 z1 B0 B1 hb1 HH n0 n1 d10
    rintro W ⟨hB, A0, A1⟩
    have c0k := A0.k
    have c0i := A0.i
    have c0s := A0.s
    have l0 := A0.lt
    have c1k := A1.k
    have c1i := A1.i
    have c1s := A1.s
    have l1 := A1.lt
    have hmW : W.cell? ⟨0, 0, none⟩ = some (.int .i64 m) := (hB.cell (p := ⟨0, 0, none⟩) hlt).trans hm
    go_wp2_with (go_at_call 20; refine (awake_any _ m hmW).mono ?_; rintro e w3 ⟨rfl, hb3⟩)
    go_ret
    exact ⟨rfl, hB.trans (hb3.mono hB.size)⟩
  | true =>
    have he : b2i (ordN k i S k' i' S' == 0) = 0 := by rw [HX.out]; rfl
    have hl : b2i (decide (ordN k i S k' i' S' < 0)) = 0 := by rw [HX.out]; rfl
    refine detL_begin [.val (.agg #[.int .i64 k, .int .i64 i, .string S]), .val (.agg #[.int .i64 k', .int .i64 i', .string S']), .val (.agg #[.int .i64 3, .int .i64 0, .string ⟨#[]⟩]), .val (.agg #[.int .i64 k, .int .i64 i, .string S]), .val (.agg #[.int .i64 k', .int .i64 i', .string S']), .val (.agg #[.int .i64 3, .int .i64 0, .string ⟨#[]⟩]), .rel newR, .rel newR] 8 (by kernel_rfl) ?_
    refine detL_val (by kernel_rfl) (yields_of rfl fun w1 hb1 => ?_) ?_
    · have hc1 := bcellD hb1
      clear hb1
      go_simp
      exact Det1_same
    simp only [Act.put, List.setIfInBounds_toArray, List.set_cons_zero, List.set_cons_succ]
    refine detL_val (by kernel_rfl) (yields_of rfl fun w1 hb1 => ?_) ?_
    · have hc1 := bcellD hb1
      clear hb1
      go_simp
      exact Det1_same
    simp only [Act.put, List.setIfInBounds_toArray, List.set_cons_zero, List.set_cons_succ]
    refine detL_val (by kernel_rfl) (yields_of rfl fun w1 hb1 => ?_) ?_
    · have hc1 := bcellD hb1
      clear hb1
      go_simp
      exact Det1_enter (equal_is _ _ _ _ _ _ _ HA _ he)
    simp only [Act.put, List.setIfInBounds_toArray, List.set_cons_zero, List.set_cons_succ]
    refine detL_val (by kernel_rfl) (yields_of rfl fun w1 hb1 => ?_) ?_
    · have hc1 := bcellD hb1
      clear hb1
      go_simp
      exact Det1_same
    simp only [Act.put, List.setIfInBounds_toArray, List.set_cons_zero, List.set_cons_succ]
    refine detL_val (by kernel_rfl) (yields_of rfl fun w1 hb1 => ?_) ?_
    · have hc1 := bcellD hb1
      clear hb1
      go_simp
      exact Det1_same
    simp only [Act.put, List.setIfInBounds_toArray, List.set_cons_zero, List.set_cons_succ]
    refine detL_val (by kernel_rfl) (yields_of rfl fun w1 hb1 => ?_) ?_
    · have hc1 := bcellD hb1
      clear hb1
      go_simp
      exact Det1_enter (less_is _ _ _ _ _ _ _ HA _ hl)
    simp only [Act.put, List.setIfInBounds_toArray, List.set_cons_zero, List.set_cons_succ]
    refine detL_rel (by kernel_rfl) (yields_rel (by rfl) newR_lasting fun w1 hw1 => ?_) ?_
    · clear hw1
      go_simp
      exact newR_made
    rintro v F w1 hw1
    obtain ⟨b0, rfl, rfl, -⟩ := (hw1.ents _ List.mem_cons_self).1
    clear hw1
    simp only [Act.put, List.setIfInBounds_toArray, List.set_cons_zero, List.set_cons_succ]
    refine detL_rel (by kernel_rfl) (yields_rel (by rfl) newR_lasting fun w1 hw1 => ?_) ?_
    · clear hw1
      go_simp
      exact newR_made
    rintro v F w1 hw1
    obtain ⟨b1, rfl, rfl, -⟩ := (hw1.ents _ List.mem_cons_self).1
    clear hw1
    simp only [Act.put, List.setIfInBounds_toArray, List.set_cons_zero, List.set_cons_succ]
    refine detL_tail rfl (by kernel_rfl) fun w1 hw1 => ?_
    have e1 := hw1.ents _ List.mem_cons_self
    have e0 := hw1.ents _ (List.mem_cons_of_mem _ List.mem_cons_self)
    have B1 : At3 w1 b1 0 0 ⟨#[]⟩ := (newR_at e1.1).1
    have B0 : At3 w1 b0 0 0 ⟨#[]⟩ := (newR_at e0.1).1
    have z1 := (newR_at e1.1).2
    have z0 := (newR_at e0.1).2
    have n0 : w.heap.size ≤ b0 := Nat.le_trans hB.size (e0.2.2 b0 List.mem_cons_self).1
    have n1 : w.heap.size ≤ b1 := Nat.le_trans hB.size (e1.2.2 b1 List.mem_cons_self).1
    have ap := hw1.apart
    simp only [List.pairwise_cons, List.mem_cons, List.not_mem_nil, or_false, forall_eq] at ap
    have d10 : b1 ≠ b0 := ap.1
    have hb1 := hB.drew.trans (hw1.below.mono hB.size)
    clear hw1 e0 e1 ap hB A0 A1 hmW c0k c0i c0s l0 c1k c1i c1s l1
    have HH := Lib.hid (And.intro B0 (And.intro B1 hb1))
    have k0 := B0.k
    have i0 := B0.i
    have s0 := B0.s
    have k1 := B1.k
    have i1 := B1.i
    have s1 := B1.s
    clear B0 B1 hb1
    go_upto_region 6 with (fail)
    have B0 := HH.out.1
    have B1 := HH.out.2.1
    have hb1 := HH.out.2.2
    refine wp_gen (fun W => Below w.heap.size w W ∧ At3 W b0 3 0 ⟨#[]⟩ ∧ At3 W b1 3 0 ⟨#[]⟩) ⟨?_, ?_, ?_⟩ ?_
    · repeat (first | (with_reducible exact Below.refl _ _) | ((with_reducible refine cSet3 ?_ ?_ _ _ _); (· ((try simp) <;> omega))) | (with_reducible refine Below.drew ?_) | ((with_reducible refine cAlloc ?_ ?_ _); (· ((try simp) <;> omega))) | ((with_reducible refine cOn (by assumption) ?_ ?_); (· ((try simp) <;> omega))))
    · repeat (first | (with_reducible assumption) | (with_reducible exact Box.of (by assumption)) | ((with_reducible refine At3.new ?_); simp) | (with_reducible refine At3.drew ?_) | (with_reducible refine At3.alloc ?_ _) | (with_reducible refine Box.drew ?_) | (with_reducible refine Box.alloc ?_ _) | (with_reducible refine Box.set ?_ _ _ _) | ((with_reducible refine At3.set_other' ?_ ?_ _ _ _); (· omega)) | ((with_reducible refine Box.set_other ?_ ?_ _ _ _); (· omega)))
    · repeat (first | (with_reducible assumption) | (with_reducible exact Box.of (by assumption)) | ((with_reducible refine At3.new ?_); simp) | (with_reducible refine At3.drew ?_) | (with_reducible refine At3.alloc ?_ _) | (with_reducible refine Box.drew ?_) | (with_reducible refine Box.alloc ?_ _) | (with_reducible refine Box.set ?_ _ _ _) | ((with_reducible refine At3.set_other' ?_ ?_ _ _ _); (· omega)) | ((with_reducible refine Box.set_other ?_ ?_ _ _ _); (· omega)))
    clear k0 i0 s0 k1 i1 s1 z0 z1 B0 B1 hb1 HH n0 n1 d10
    rintro W ⟨hB, A0, A1⟩
    have c0k := A0.k
    have c0i := A0.i
    have c0s := A0.s
    have l0 := A0.lt
    have c1k := A1.k
    have c1i := A1.i
    have c1s := A1.s
    have l1 := A1.lt
    have hmW : W.cell? ⟨0, 0, none⟩ = some (.int .i64 m) := (hB.cell (p := ⟨0, 0, none⟩) hlt).trans hm
    go_wp2_with (go_at_call 20; refine (awake_any _ m hmW).mono ?_; rintro e w3 ⟨rfl, hb3⟩)
    go_ret
    exact ⟨rfl, hB.trans (hb3.mono hB.size)⟩

set_option maxRecDepth 100000 in
set_option maxHeartbeats 40000000 in
theorem orders_1o_k (k i : Int) (s S : ByteArray) (k' : Int) (i' : Int) (s' : ByteArray) (S' : ByteArray) (k'' i'' : Int) (s'' S'' : ByteArray) (w : World) (hs : s.size ≤ maxLen) (hs' : s'.size ≤ maxLen) (hs'' : s''.size ≤ maxLen) (hS : fewS s = S) (hS' : fewS s' = S') (hS'' : fewS s'' = S'') (m : Int) (hm : w.cell? ⟨0, 0, none⟩ = some (.int .i64 m))
    (y z : Int) (hx : ordN k i S k' i' S' = 1) (hy : ordN k' i' S' k'' i'' S'' = y) (hz : ordN k i S k'' i'' S'' = z)  (ha : mayB k i S = true) (hb : mayB k' i' S' = true) (hne : (k == k') = false) :
    Calls Tryd.prog 7 #[.agg #[.int .i64 k, .int .i64 i, .string s], .agg #[.int .i64 k', .int .i64 i', .string s'], .agg #[.int .i64 k'', .int .i64 i'', .string s'']] w fun e w' => e = .returned (.bool true) ∧ Below w.heap.size w w' := by
  have hlt : 0 < w.heap.size := World.block_lt_of_cell? w _ hm
  have HX := Lib.hid hx
  have hx' : ordN k' i' S' k i S = -(1) := (ord_anti k i S k' i' S').trans (congrArg (fun v => -v) hx)
  have HX' : Hid (ordN k' i' S' k i S = -1) := Lib.hid (hx'.trans (by decide))
  clear hx'
  have HY := Lib.hid hy
  have HZ := Lib.hid hz
  clear hx hy hz
  go_enter Tryd.func7, Tryd.ntmps7
  go_wp2
  refine detL_begin [.val (.agg #[.int .i64 k, .int .i64 i, .string s]), .val (.agg #[.int .i64 k, .int .i64 i, .string S]), .val (.agg #[.int .i64 k', .int .i64 i', .string s']), .val (.agg #[.int .i64 k', .int .i64 i', .string S']), .val (.agg #[.int .i64 k'', .int .i64 i'', .string s'']), .val (.agg #[.int .i64 k'', .int .i64 i'', .string S''])] 6 (by kernel_rfl) ?_
  repeat
    (refine detL_val (by kernel_rfl) (yields_of rfl fun w1 hb1 => ?_) ?_
     · have hc1 := bcellD hb1
       clear hb1
       go_simp
       with_reducible first
         | exact Det1_same
         | exact Det1_enter (few_is _ _ _ _ _ hs hS)
         | exact Det1_enter (few_is _ _ _ _ _ hs' hS')
         | exact Det1_enter (few_is _ _ _ _ _ hs'' hS'')
     simp only [Act.put, List.setIfInBounds_toArray, List.set_cons_zero, List.set_cons_succ])
  refine detL_tail rfl (by kernel_rfl) fun w1 hw1 => ?_
  have hb1 := hw1.below
  clear hw1
  have hc1 := (bcell hb1).1
  have hf1 := (bcell hb1).2
  have hy1 := hb1.size
  (try simp at hy1)
  have hz1_0 : w.heap.size < w1.heap.size := (by omega)
  have hz1_1 : w.heap.size + 1 < w1.heap.size := (by omega)
  have hz1_2 : w.heap.size + 1 + 1 < w1.heap.size := (by omega)
  have a0 : At3 w1 w.heap.size k i s := At3.later (by repeat (first | (with_reducible assumption) | (with_reducible exact Box.of (by assumption)) | ((with_reducible refine At3.new ?_); simp) | (with_reducible refine At3.drew ?_) | (with_reducible refine At3.alloc ?_ _) | (with_reducible refine Box.drew ?_) | (with_reducible refine Box.alloc ?_ _) | (with_reducible refine Box.set ?_ _ _ _) | ((with_reducible refine At3.set_other' ?_ ?_ _ _ _); (· omega)) | ((with_reducible refine Box.set_other ?_ ?_ _ _ _); (· omega)))) hb1
  have a1 : At3 w1 (w.heap.size + 1) k' i' s' := At3.later (by repeat (first | (with_reducible assumption) | (with_reducible exact Box.of (by assumption)) | ((with_reducible refine At3.new ?_); simp) | (with_reducible refine At3.drew ?_) | (with_reducible refine At3.alloc ?_ _) | (with_reducible refine Box.drew ?_) | (with_reducible refine Box.alloc ?_ _) | (with_reducible refine Box.set ?_ _ _ _) | ((with_reducible refine At3.set_other' ?_ ?_ _ _ _); (· omega)) | ((with_reducible refine Box.set_other ?_ ?_ _ _ _); (· omega)))) hb1
  have a2 : At3 w1 (w.heap.size + 1 + 1) k'' i'' s'' := At3.later (by repeat (first | (with_reducible assumption) | (with_reducible exact Box.of (by assumption)) | ((with_reducible refine At3.new ?_); simp) | (with_reducible refine At3.drew ?_) | (with_reducible refine At3.alloc ?_ _) | (with_reducible refine Box.drew ?_) | (with_reducible refine Box.alloc ?_ _) | (with_reducible refine Box.set ?_ _ _ _) | ((with_reducible refine At3.set_other' ?_ ?_ _ _ _); (· omega)) | ((with_reducible refine Box.set_other ?_ ?_ _ _ _); (· omega)))) hb1
  have HH := Lib.hid (And.intro a0 (And.intro a1 a2))
  clear a0 a1 a2
  go_upto_region 2 with (fail)
  have a0 := HH.out.1
  have a1 := HH.out.2.1
  have a2 := HH.out.2.2
  refine wp_gen (fun W => Below w.heap.size w W ∧ At3 W w.heap.size k i S ∧ At3 W (w.heap.size + 1) k' i' S' ∧ At3 W (w.heap.size + 1 + 1) k'' i'' S'') ⟨?_, ?_, ?_, ?_⟩ ?_
  · repeat (first | (with_reducible exact Below.refl _ _) | ((with_reducible refine cSet3 ?_ ?_ _ _ _); (· ((try simp) <;> omega))) | (with_reducible refine Below.drew ?_) | ((with_reducible refine cAlloc ?_ ?_ _); (· ((try simp) <;> omega))) | ((with_reducible refine cOn (by assumption) ?_ ?_); (· ((try simp) <;> omega))))
  · repeat (first | (with_reducible assumption) | (with_reducible exact Box.of (by assumption)) | ((with_reducible refine At3.new ?_); simp) | (with_reducible refine At3.drew ?_) | (with_reducible refine At3.alloc ?_ _) | (with_reducible refine Box.drew ?_) | (with_reducible refine Box.alloc ?_ _) | (with_reducible refine Box.set ?_ _ _ _) | ((with_reducible refine At3.set_other' ?_ ?_ _ _ _); (· omega)) | ((with_reducible refine Box.set_other ?_ ?_ _ _ _); (· omega)))
  · repeat (first | (with_reducible assumption) | (with_reducible exact Box.of (by assumption)) | ((with_reducible refine At3.new ?_); simp) | (with_reducible refine At3.drew ?_) | (with_reducible refine At3.alloc ?_ _) | (with_reducible refine Box.drew ?_) | (with_reducible refine Box.alloc ?_ _) | (with_reducible refine Box.set ?_ _ _ _) | ((with_reducible refine At3.set_other' ?_ ?_ _ _ _); (· omega)) | ((with_reducible refine Box.set_other ?_ ?_ _ _ _); (· omega)))
  · repeat (first | (with_reducible assumption) | (with_reducible exact Box.of (by assumption)) | ((with_reducible refine At3.new ?_); simp) | (with_reducible refine At3.drew ?_) | (with_reducible refine At3.alloc ?_ _) | (with_reducible refine Box.drew ?_) | (with_reducible refine Box.alloc ?_ _) | (with_reducible refine Box.set ?_ _ _ _) | ((with_reducible refine At3.set_other' ?_ ?_ _ _ _); (· omega)) | ((with_reducible refine Box.set_other ?_ ?_ _ _ _); (· omega)))
  clear hc1 hf1 hb1 hy1 hz1_0 hz1_1 hz1_2 a0 a1 a2 HH
  rintro W ⟨hB, A0, A1, A2⟩
  have c0k := A0.k
  have c0i := A0.i
  have c0s := A0.s
  have l0 := A0.lt
  have c1k := A1.k
  have c1i := A1.i
  have c1s := A1.s
  have l1 := A1.lt
  have c2k := A2.k
  have c2i := A2.i
  have c2s := A2.s
  have l2 := A2.lt
  refine detL_begin [.val (.agg #[.int .i64 k, .int .i64 i, .string S]), .val (.agg #[.int .i64 k', .int .i64 i', .string S']), .val (.int .i64 (1)), .val (.agg #[.int .i64 k', .int .i64 i', .string S']), .val (.agg #[.int .i64 k'', .int .i64 i'', .string S'']), .val (.int .i64 y), .val (.agg #[.int .i64 k, .int .i64 i, .string S]), .val (.agg #[.int .i64 k'', .int .i64 i'', .string S'']), .val (.int .i64 z), .val (.int .i64 (1)), .val (.int .i64 y), .val (.int .i64 z)] 12 (by kernel_rfl) ?_
  refine detL_val (by kernel_rfl) (yields_of rfl fun w1 hb1 => ?_) ?_
  · have hc1 := bcellD hb1
    clear hb1
    go_simp
    exact Det1_same
  simp only [Act.put, List.setIfInBounds_toArray, List.set_cons_zero, List.set_cons_succ]
  refine detL_val (by kernel_rfl) (yields_of rfl fun w1 hb1 => ?_) ?_
  · have hc1 := bcellD hb1
    clear hb1
    go_simp
    exact Det1_same
  simp only [Act.put, List.setIfInBounds_toArray, List.set_cons_zero, List.set_cons_succ]
  refine detL_val (by kernel_rfl) (yields_of rfl fun w1 hb1 => ?_) ?_
  · have hc1 := bcellD hb1
    clear hb1
    go_simp
    exact Det1_enter (order_is _ _ _ _ _ _ _ _ HX.out)
  simp only [Act.put, List.setIfInBounds_toArray, List.set_cons_zero, List.set_cons_succ]
  refine detL_val (by kernel_rfl) (yields_of rfl fun w1 hb1 => ?_) ?_
  · have hc1 := bcellD hb1
    clear hb1
    go_simp
    exact Det1_same
  simp only [Act.put, List.setIfInBounds_toArray, List.set_cons_zero, List.set_cons_succ]
  refine detL_val (by kernel_rfl) (yields_of rfl fun w1 hb1 => ?_) ?_
  · have hc1 := bcellD hb1
    clear hb1
    go_simp
    exact Det1_same
  simp only [Act.put, List.setIfInBounds_toArray, List.set_cons_zero, List.set_cons_succ]
  refine detL_val (by kernel_rfl) (yields_of rfl fun w1 hb1 => ?_) ?_
  · have hc1 := bcellD hb1
    clear hb1
    go_simp
    exact Det1_enter (order_is _ _ _ _ _ _ _ _ HY.out)
  simp only [Act.put, List.setIfInBounds_toArray, List.set_cons_zero, List.set_cons_succ]
  refine detL_val (by kernel_rfl) (yields_of rfl fun w1 hb1 => ?_) ?_
  · have hc1 := bcellD hb1
    clear hb1
    go_simp
    exact Det1_same
  simp only [Act.put, List.setIfInBounds_toArray, List.set_cons_zero, List.set_cons_succ]
  refine detL_val (by kernel_rfl) (yields_of rfl fun w1 hb1 => ?_) ?_
  · have hc1 := bcellD hb1
    clear hb1
    go_simp
    exact Det1_same
  simp only [Act.put, List.setIfInBounds_toArray, List.set_cons_zero, List.set_cons_succ]
  refine detL_val (by kernel_rfl) (yields_of rfl fun w1 hb1 => ?_) ?_
  · have hc1 := bcellD hb1
    clear hb1
    go_simp
    exact Det1_enter (order_is _ _ _ _ _ _ _ _ HZ.out)
  simp only [Act.put, List.setIfInBounds_toArray, List.set_cons_zero, List.set_cons_succ]
  refine detL_val (by kernel_rfl) (yields_of rfl fun w1 hb1 => ?_) ?_
  · have hc1 := bcellD hb1
    clear hb1
    go_simp
    exact Det1_same
  simp only [Act.put, List.setIfInBounds_toArray, List.set_cons_zero, List.set_cons_succ]
  refine detL_val (by kernel_rfl) (yields_of rfl fun w1 hb1 => ?_) ?_
  · have hc1 := bcellD hb1
    clear hb1
    go_simp
    exact Det1_same
  simp only [Act.put, List.setIfInBounds_toArray, List.set_cons_zero, List.set_cons_succ]
  refine detL_val (by kernel_rfl) (yields_of rfl fun w1 hb1 => ?_) ?_
  · have hc1 := bcellD hb1
    clear hb1
    go_simp
    exact Det1_same
  simp only [Act.put, List.setIfInBounds_toArray, List.set_cons_zero, List.set_cons_succ]
  refine detL_tail rfl (by kernel_rfl) fun w1 hw1 => ?_
  have hb1 := hB.drew.trans (hw1.below.mono hB.size)
  have C0 := A0.drew.later hw1.below
  have C1 := A1.drew.later hw1.below
  have C2 := A2.drew.later hw1.below
  clear hw1 hB A0 A1 A2 c0k c0i c0s l0 c1k c1i c1s l1 c2k c2i c2s l2
  have HH := Lib.hid (And.intro hb1 (And.intro C0 (And.intro C1 C2)))
  have k0 := C0.k
  have i0 := C0.i
  have s0 := C0.s
  have k1 := C1.k
  have i1 := C1.i
  have s1 := C1.s
  clear C0 C1 C2 hb1
  go_upto_region 3 with (fail)
  go_upto_region 4 with (first
    | (go_at_call 29; refine (order_is _ _ _ _ _ _ _ _ HX'.out).mono ?_; rintro e w2 ⟨rfl, hb2⟩; have C0 := HH.out.2.1.later hb2; have C1 := HH.out.2.2.1.later hb2; have k2 := C0.k; have i2 := C0.i; have s2 := C0.s; have k3 := C1.k; have i3 := C1.i; have s3 := C1.s)
    | (go_at_call_of 31 (Value.agg #[.int .i64 k, .int .i64 i, .string S]); refine (may_is _ _ _ _ _ ha).mono ?_; rintro e w3 ⟨rfl, hb3⟩; have E0 := C0.later hb3; have E1 := C1.later hb3; have k4 := E0.k; have i4 := E0.i; have s4 := E0.s; have k5 := E1.k; have i5 := E1.i; have s5 := E1.s)
    | (go_at_call_of 31 (Value.agg #[.int .i64 k', .int .i64 i', .string S']); refine (may_is _ _ _ _ _ hb).mono ?_; rintro e w4 ⟨rfl, hb4⟩; have G0 := E0.later hb4; have G1 := E1.later hb4; have k6 := G0.k; have i6 := G0.i; have s6 := G0.s; have k7 := G1.k; have i7 := G1.i; have s7 := G1.s))
  clear k0 i0 s0 k1 i1 s1 k2 i2 s2 k3 i3 s3 k4 i4 s4 k5 i5 s5 k6 i6 s6 k7 i7 s7
  have q2 := HH.out.1.trans (hb2.mono HH.out.1.size)
  have q3 := q2.trans (hb3.mono q2.size)
  have q4 := q3.trans (hb4.mono q3.size)
  refine wp_gen (fun W => Below w.heap.size w W ∧ At3 W w.heap.size k i S ∧ At3 W (w.heap.size + 1) k' i' S') ⟨q4, G0, G1⟩ ?_
  clear HH
  rintro W ⟨hB, A0, A1⟩
  have c0k := A0.k
  have c0i := A0.i
  have c0s := A0.s
  have l0 := A0.lt
  have c1k := A1.k
  have c1i := A1.i
  have c1s := A1.s
  have l1 := A1.lt
  have hmW : W.cell? ⟨0, 0, none⟩ = some (.int .i64 m) := (hB.cell (p := ⟨0, 0, none⟩) hlt).trans hm
  cases HA : alikeB k i S k' i' S' with
  | false =>
    refine detL_begin [.val (.agg #[.int .i64 k, .int .i64 i, .string S]), .val (.agg #[.int .i64 k', .int .i64 i', .string S']), .val (.agg #[.int .i64 0, .int .i64 0, .string ⟨#[]⟩]), .val (.agg #[.int .i64 k, .int .i64 i, .string S]), .val (.agg #[.int .i64 k', .int .i64 i', .string S']), .val (.agg #[.int .i64 0, .int .i64 0, .string ⟨#[]⟩]), .rel newR, .rel newR] 8 (by kernel_rfl) ?_
    refine detL_val (by kernel_rfl) (yields_of rfl fun w1 hb1 => ?_) ?_
    · have hc1 := bcellD hb1
      clear hb1
      go_simp
      exact Det1_same
    simp only [Act.put, List.setIfInBounds_toArray, List.set_cons_zero, List.set_cons_succ]
    refine detL_val (by kernel_rfl) (yields_of rfl fun w1 hb1 => ?_) ?_
    · have hc1 := bcellD hb1
      clear hb1
      go_simp
      exact Det1_same
    simp only [Act.put, List.setIfInBounds_toArray, List.set_cons_zero, List.set_cons_succ]
    refine detL_val (by kernel_rfl) (yields_of rfl fun w1 hb1 => ?_) ?_
    · have hc1 := bcellD hb1
      clear hb1
      go_simp
      exact Det1_enter (equal_no _ _ _ _ _ _ _ HA)
    simp only [Act.put, List.setIfInBounds_toArray, List.set_cons_zero, List.set_cons_succ]
    refine detL_val (by kernel_rfl) (yields_of rfl fun w1 hb1 => ?_) ?_
    · have hc1 := bcellD hb1
      clear hb1
      go_simp
      exact Det1_same
    simp only [Act.put, List.setIfInBounds_toArray, List.set_cons_zero, List.set_cons_succ]
    refine detL_val (by kernel_rfl) (yields_of rfl fun w1 hb1 => ?_) ?_
    · have hc1 := bcellD hb1
      clear hb1
      go_simp
      exact Det1_same
    simp only [Act.put, List.setIfInBounds_toArray, List.set_cons_zero, List.set_cons_succ]
    refine detL_val (by kernel_rfl) (yields_of rfl fun w1 hb1 => ?_) ?_
    · have hc1 := bcellD hb1
      clear hb1
      go_simp
      exact Det1_enter (less_no _ _ _ _ _ _ _ HA)
    simp only [Act.put, List.setIfInBounds_toArray, List.set_cons_zero, List.set_cons_succ]
    refine detL_rel (by kernel_rfl) (yields_rel (by rfl) newR_lasting fun w1 hw1 => ?_) ?_
    · clear hw1
      go_simp
      exact newR_made
    rintro v F w1 hw1
    obtain ⟨b0, rfl, rfl, -⟩ := (hw1.ents _ List.mem_cons_self).1
    clear hw1
    simp only [Act.put, List.setIfInBounds_toArray, List.set_cons_zero, List.set_cons_succ]
    refine detL_rel (by kernel_rfl) (yields_rel (by rfl) newR_lasting fun w1 hw1 => ?_) ?_
    · clear hw1
      go_simp
      exact newR_made
    rintro v F w1 hw1
    obtain ⟨b1, rfl, rfl, -⟩ := (hw1.ents _ List.mem_cons_self).1
    clear hw1
    simp only [Act.put, List.setIfInBounds_toArray, List.set_cons_zero, List.set_cons_succ]
    refine detL_tail rfl (by kernel_rfl) fun w1 hw1 => ?_
    have e1 := hw1.ents _ List.mem_cons_self
    have e0 := hw1.ents _ (List.mem_cons_of_mem _ List.mem_cons_self)
    have B1 : At3 w1 b1 0 0 ⟨#[]⟩ := (newR_at e1.1).1
    have B0 : At3 w1 b0 0 0 ⟨#[]⟩ := (newR_at e0.1).1
    have z1 := (newR_at e1.1).2
    have z0 := (newR_at e0.1).2
    have n0 : w.heap.size ≤ b0 := Nat.le_trans hB.size (e0.2.2 b0 List.mem_cons_self).1
    have n1 : w.heap.size ≤ b1 := Nat.le_trans hB.size (e1.2.2 b1 List.mem_cons_self).1
    have ap := hw1.apart
    simp only [List.pairwise_cons, List.mem_cons, List.not_mem_nil, or_false, forall_eq] at ap
    have d10 : b1 ≠ b0 := ap.1
    have hb1 := hB.drew.trans (hw1.below.mono hB.size)
    clear hw1 e0 e1 ap hB A0 A1 hmW c0k c0i c0s l0 c1k c1i c1s l1
    have HH := Lib.hid (And.intro B0 (And.intro B1 hb1))
    have k0 := B0.k
    have i0 := B0.i
    have s0 := B0.s
    have k1 := B1.k
    have i1 := B1.i
    have s1 := B1.s
    clear B0 B1 hb1
    go_upto_region 6 with (fail)
    have B0 := HH.out.1
    have B1 := HH.out.2.1
    have hb1 := HH.out.2.2
    refine wp_gen (fun W => Below w.heap.size w W ∧ At3 W b0 0 0 ⟨#[]⟩ ∧ At3 W b1 0 0 ⟨#[]⟩) ⟨?_, ?_, ?_⟩ ?_
    · repeat (first | (with_reducible exact Below.refl _ _) | ((with_reducible refine cSet3 ?_ ?_ _ _ _); (· ((try simp) <;> omega))) | (with_reducible refine Below.drew ?_) | ((with_reducible refine cAlloc ?_ ?_ _); (· ((try simp) <;> omega))) | ((with_reducible refine cOn (by assumption) ?_ ?_); (· ((try simp) <;> omega))))
    · repeat (first | (with_reducible assumption) | (with_reducible exact Box.of (by assumption)) | ((with_reducible refine At3.new ?_); simp) | (with_reducible refine At3.drew ?_) | (with_reducible refine At3.alloc ?_ _) | (with_reducible refine Box.drew ?_) | (with_reducible refine Box.alloc ?_ _) | (with_reducible refine Box.set ?_ _ _ _) | ((with_reducible refine At3.set_other' ?_ ?_ _ _ _); (· omega)) | ((with_reducible refine Box.set_other ?_ ?_ _ _ _); (· omega)))
    · repeat (first | (with_reducible assumption) | (with_reducible exact Box.of (by assumption)) | ((with_reducible refine At3.new ?_); simp) | (with_reducible refine At3.drew ?_) | (with_reducible refine At3.alloc ?_ _) | (with_reducible refine Box.drew ?_) | (with_reducible refine Box.alloc ?_ _) | (with_reducible refine Box.set ?_ _ _ _) | ((with_reducible refine At3.set_other' ?_ ?_ _ _ _); (· omega)) | ((with_reducible refine Box.set_other ?_ ?_ _ _ _); (· omega)))
    clear k0 i0 s0 k1 i1 s1 z0 z1 B0 B1 hb1 HH n0 n1 d10
    rintro W ⟨hB, A0, A1⟩
    have c0k := A0.k
    have c0i := A0.i
    have c0s := A0.s
    have l0 := A0.lt
    have c1k := A1.k
    have c1i := A1.i
    have c1s := A1.s
    have l1 := A1.lt
    have hmW : W.cell? ⟨0, 0, none⟩ = some (.int .i64 m) := (hB.cell (p := ⟨0, 0, none⟩) hlt).trans hm
    go_wp2_with (go_at_call 20; refine (awake_any _ m hmW).mono ?_; rintro e w3 ⟨rfl, hb3⟩)
    go_ret
    exact ⟨rfl, hB.trans (hb3.mono hB.size)⟩
  | true =>
    have he : b2i (ordN k i S k' i' S' == 0) = 0 := by rw [HX.out]; rfl
    have hl : b2i (decide (ordN k i S k' i' S' < 0)) = 0 := by rw [HX.out]; rfl
    refine detL_begin [.val (.agg #[.int .i64 k, .int .i64 i, .string S]), .val (.agg #[.int .i64 k', .int .i64 i', .string S']), .val (.agg #[.int .i64 3, .int .i64 0, .string ⟨#[]⟩]), .val (.agg #[.int .i64 k, .int .i64 i, .string S]), .val (.agg #[.int .i64 k', .int .i64 i', .string S']), .val (.agg #[.int .i64 3, .int .i64 0, .string ⟨#[]⟩]), .rel newR, .rel newR] 8 (by kernel_rfl) ?_
    refine detL_val (by kernel_rfl) (yields_of rfl fun w1 hb1 => ?_) ?_
    · have hc1 := bcellD hb1
      clear hb1
      go_simp
      exact Det1_same
    simp only [Act.put, List.setIfInBounds_toArray, List.set_cons_zero, List.set_cons_succ]
    refine detL_val (by kernel_rfl) (yields_of rfl fun w1 hb1 => ?_) ?_
    · have hc1 := bcellD hb1
      clear hb1
      go_simp
      exact Det1_same
    simp only [Act.put, List.setIfInBounds_toArray, List.set_cons_zero, List.set_cons_succ]
    refine detL_val (by kernel_rfl) (yields_of rfl fun w1 hb1 => ?_) ?_
    · have hc1 := bcellD hb1
      clear hb1
      go_simp
      exact Det1_enter (equal_is _ _ _ _ _ _ _ HA _ he)
    simp only [Act.put, List.setIfInBounds_toArray, List.set_cons_zero, List.set_cons_succ]
    refine detL_val (by kernel_rfl) (yields_of rfl fun w1 hb1 => ?_) ?_
    · have hc1 := bcellD hb1
      clear hb1
      go_simp
      exact Det1_same
    simp only [Act.put, List.setIfInBounds_toArray, List.set_cons_zero, List.set_cons_succ]
    refine detL_val (by kernel_rfl) (yields_of rfl fun w1 hb1 => ?_) ?_
    · have hc1 := bcellD hb1
      clear hb1
      go_simp
      exact Det1_same
    simp only [Act.put, List.setIfInBounds_toArray, List.set_cons_zero, List.set_cons_succ]
    refine detL_val (by kernel_rfl) (yields_of rfl fun w1 hb1 => ?_) ?_
    · have hc1 := bcellD hb1
      clear hb1
      go_simp
      exact Det1_enter (less_is _ _ _ _ _ _ _ HA _ hl)
    simp only [Act.put, List.setIfInBounds_toArray, List.set_cons_zero, List.set_cons_succ]
    refine detL_rel (by kernel_rfl) (yields_rel (by rfl) newR_lasting fun w1 hw1 => ?_) ?_
    · clear hw1
      go_simp
      exact newR_made
    rintro v F w1 hw1
    obtain ⟨b0, rfl, rfl, -⟩ := (hw1.ents _ List.mem_cons_self).1
    clear hw1
    simp only [Act.put, List.setIfInBounds_toArray, List.set_cons_zero, List.set_cons_succ]
    refine detL_rel (by kernel_rfl) (yields_rel (by rfl) newR_lasting fun w1 hw1 => ?_) ?_
    · clear hw1
      go_simp
      exact newR_made
    rintro v F w1 hw1
    obtain ⟨b1, rfl, rfl, -⟩ := (hw1.ents _ List.mem_cons_self).1
    clear hw1
    simp only [Act.put, List.setIfInBounds_toArray, List.set_cons_zero, List.set_cons_succ]
    refine detL_tail rfl (by kernel_rfl) fun w1 hw1 => ?_
    have e1 := hw1.ents _ List.mem_cons_self
    have e0 := hw1.ents _ (List.mem_cons_of_mem _ List.mem_cons_self)
    have B1 : At3 w1 b1 0 0 ⟨#[]⟩ := (newR_at e1.1).1
    have B0 : At3 w1 b0 0 0 ⟨#[]⟩ := (newR_at e0.1).1
    have z1 := (newR_at e1.1).2
    have z0 := (newR_at e0.1).2
    have n0 : w.heap.size ≤ b0 := Nat.le_trans hB.size (e0.2.2 b0 List.mem_cons_self).1
    have n1 : w.heap.size ≤ b1 := Nat.le_trans hB.size (e1.2.2 b1 List.mem_cons_self).1
    have ap := hw1.apart
    simp only [List.pairwise_cons, List.mem_cons, List.not_mem_nil, or_false, forall_eq] at ap
    have d10 : b1 ≠ b0 := ap.1
    have hb1 := hB.drew.trans (hw1.below.mono hB.size)
    clear hw1 e0 e1 ap hB A0 A1 hmW c0k c0i c0s l0 c1k c1i c1s l1
    have HH := Lib.hid (And.intro B0 (And.intro B1 hb1))
    have k0 := B0.k
    have i0 := B0.i
    have s0 := B0.s
    have k1 := B1.k
    have i1 := B1.i
    have s1 := B1.s
    clear B0 B1 hb1
    go_upto_region 6 with (fail)
    have B0 := HH.out.1
    have B1 := HH.out.2.1
    have hb1 := HH.out.2.2
    refine wp_gen (fun W => Below w.heap.size w W ∧ At3 W b0 3 0 ⟨#[]⟩ ∧ At3 W b1 3 0 ⟨#[]⟩) ⟨?_, ?_, ?_⟩ ?_
    · repeat (first | (with_reducible exact Below.refl _ _) | ((with_reducible refine cSet3 ?_ ?_ _ _ _); (· ((try simp) <;> omega))) | (with_reducible refine Below.drew ?_) | ((with_reducible refine cAlloc ?_ ?_ _); (· ((try simp) <;> omega))) | ((with_reducible refine cOn (by assumption) ?_ ?_); (· ((try simp) <;> omega))))
    · repeat (first | (with_reducible assumption) | (with_reducible exact Box.of (by assumption)) | ((with_reducible refine At3.new ?_); simp) | (with_reducible refine At3.drew ?_) | (with_reducible refine At3.alloc ?_ _) | (with_reducible refine Box.drew ?_) | (with_reducible refine Box.alloc ?_ _) | (with_reducible refine Box.set ?_ _ _ _) | ((with_reducible refine At3.set_other' ?_ ?_ _ _ _); (· omega)) | ((with_reducible refine Box.set_other ?_ ?_ _ _ _); (· omega)))
    · repeat (first | (with_reducible assumption) | (with_reducible exact Box.of (by assumption)) | ((with_reducible refine At3.new ?_); simp) | (with_reducible refine At3.drew ?_) | (with_reducible refine At3.alloc ?_ _) | (with_reducible refine Box.drew ?_) | (with_reducible refine Box.alloc ?_ _) | (with_reducible refine Box.set ?_ _ _ _) | ((with_reducible refine At3.set_other' ?_ ?_ _ _ _); (· omega)) | ((with_reducible refine Box.set_other ?_ ?_ _ _ _); (· omega)))
    clear k0 i0 s0 k1 i1 s1 z0 z1 B0 B1 hb1 HH n0 n1 d10
    rintro W ⟨hB, A0, A1⟩
    have c0k := A0.k
    have c0i := A0.i
    have c0s := A0.s
    have l0 := A0.lt
    have c1k := A1.k
    have c1i := A1.i
    have c1s := A1.s
    have l1 := A1.lt
    have hmW : W.cell? ⟨0, 0, none⟩ = some (.int .i64 m) := (hB.cell (p := ⟨0, 0, none⟩) hlt).trans hm
    go_wp2_with (go_at_call 20; refine (awake_any _ m hmW).mono ?_; rintro e w3 ⟨rfl, hb3⟩)
    go_ret
    exact ⟨rfl, hB.trans (hb3.mono hB.size)⟩

set_option maxRecDepth 100000 in
set_option maxHeartbeats 40000000 in
theorem orders_1o_i (k i : Int) (s S : ByteArray) (i' : Int) (s' : ByteArray) (S' : ByteArray) (k'' i'' : Int) (s'' S'' : ByteArray) (w : World) (hs : s.size ≤ maxLen) (hs' : s'.size ≤ maxLen) (hs'' : s''.size ≤ maxLen) (hS : fewS s = S) (hS' : fewS s' = S') (hS'' : fewS s'' = S'') (m : Int) (hm : w.cell? ⟨0, 0, none⟩ = some (.int .i64 m))
    (y z : Int) (hx : ordN k i S k i' S' = 1) (hy : ordN k i' S' k'' i'' S'' = y) (hz : ordN k i S k'' i'' S'' = z)  (ha : mayB k i S = true) (hb : mayB k i' S' = true) (hne : (i == i') = false) :
    Calls Tryd.prog 7 #[.agg #[.int .i64 k, .int .i64 i, .string s], .agg #[.int .i64 k, .int .i64 i', .string s'], .agg #[.int .i64 k'', .int .i64 i'', .string s'']] w fun e w' => e = .returned (.bool true) ∧ Below w.heap.size w w' := by
  have hlt : 0 < w.heap.size := World.block_lt_of_cell? w _ hm
  have HX := Lib.hid hx
  have hx' : ordN k i' S' k i S = -(1) := (ord_anti k i S k i' S').trans (congrArg (fun v => -v) hx)
  have HX' : Hid (ordN k i' S' k i S = -1) := Lib.hid (hx'.trans (by decide))
  clear hx'
  have HY := Lib.hid hy
  have HZ := Lib.hid hz
  clear hx hy hz
  go_enter Tryd.func7, Tryd.ntmps7
  go_wp2
  refine detL_begin [.val (.agg #[.int .i64 k, .int .i64 i, .string s]), .val (.agg #[.int .i64 k, .int .i64 i, .string S]), .val (.agg #[.int .i64 k, .int .i64 i', .string s']), .val (.agg #[.int .i64 k, .int .i64 i', .string S']), .val (.agg #[.int .i64 k'', .int .i64 i'', .string s'']), .val (.agg #[.int .i64 k'', .int .i64 i'', .string S''])] 6 (by kernel_rfl) ?_
  repeat
    (refine detL_val (by kernel_rfl) (yields_of rfl fun w1 hb1 => ?_) ?_
     · have hc1 := bcellD hb1
       clear hb1
       go_simp
       with_reducible first
         | exact Det1_same
         | exact Det1_enter (few_is _ _ _ _ _ hs hS)
         | exact Det1_enter (few_is _ _ _ _ _ hs' hS')
         | exact Det1_enter (few_is _ _ _ _ _ hs'' hS'')
     simp only [Act.put, List.setIfInBounds_toArray, List.set_cons_zero, List.set_cons_succ])
  refine detL_tail rfl (by kernel_rfl) fun w1 hw1 => ?_
  have hb1 := hw1.below
  clear hw1
  have hc1 := (bcell hb1).1
  have hf1 := (bcell hb1).2
  have hy1 := hb1.size
  (try simp at hy1)
  have hz1_0 : w.heap.size < w1.heap.size := (by omega)
  have hz1_1 : w.heap.size + 1 < w1.heap.size := (by omega)
  have hz1_2 : w.heap.size + 1 + 1 < w1.heap.size := (by omega)
  have a0 : At3 w1 w.heap.size k i s := At3.later (by repeat (first | (with_reducible assumption) | (with_reducible exact Box.of (by assumption)) | ((with_reducible refine At3.new ?_); simp) | (with_reducible refine At3.drew ?_) | (with_reducible refine At3.alloc ?_ _) | (with_reducible refine Box.drew ?_) | (with_reducible refine Box.alloc ?_ _) | (with_reducible refine Box.set ?_ _ _ _) | ((with_reducible refine At3.set_other' ?_ ?_ _ _ _); (· omega)) | ((with_reducible refine Box.set_other ?_ ?_ _ _ _); (· omega)))) hb1
  have a1 : At3 w1 (w.heap.size + 1) k i' s' := At3.later (by repeat (first | (with_reducible assumption) | (with_reducible exact Box.of (by assumption)) | ((with_reducible refine At3.new ?_); simp) | (with_reducible refine At3.drew ?_) | (with_reducible refine At3.alloc ?_ _) | (with_reducible refine Box.drew ?_) | (with_reducible refine Box.alloc ?_ _) | (with_reducible refine Box.set ?_ _ _ _) | ((with_reducible refine At3.set_other' ?_ ?_ _ _ _); (· omega)) | ((with_reducible refine Box.set_other ?_ ?_ _ _ _); (· omega)))) hb1
  have a2 : At3 w1 (w.heap.size + 1 + 1) k'' i'' s'' := At3.later (by repeat (first | (with_reducible assumption) | (with_reducible exact Box.of (by assumption)) | ((with_reducible refine At3.new ?_); simp) | (with_reducible refine At3.drew ?_) | (with_reducible refine At3.alloc ?_ _) | (with_reducible refine Box.drew ?_) | (with_reducible refine Box.alloc ?_ _) | (with_reducible refine Box.set ?_ _ _ _) | ((with_reducible refine At3.set_other' ?_ ?_ _ _ _); (· omega)) | ((with_reducible refine Box.set_other ?_ ?_ _ _ _); (· omega)))) hb1
  have HH := Lib.hid (And.intro a0 (And.intro a1 a2))
  clear a0 a1 a2
  go_upto_region 2 with (fail)
  have a0 := HH.out.1
  have a1 := HH.out.2.1
  have a2 := HH.out.2.2
  refine wp_gen (fun W => Below w.heap.size w W ∧ At3 W w.heap.size k i S ∧ At3 W (w.heap.size + 1) k i' S' ∧ At3 W (w.heap.size + 1 + 1) k'' i'' S'') ⟨?_, ?_, ?_, ?_⟩ ?_
  · repeat (first | (with_reducible exact Below.refl _ _) | ((with_reducible refine cSet3 ?_ ?_ _ _ _); (· ((try simp) <;> omega))) | (with_reducible refine Below.drew ?_) | ((with_reducible refine cAlloc ?_ ?_ _); (· ((try simp) <;> omega))) | ((with_reducible refine cOn (by assumption) ?_ ?_); (· ((try simp) <;> omega))))
  · repeat (first | (with_reducible assumption) | (with_reducible exact Box.of (by assumption)) | ((with_reducible refine At3.new ?_); simp) | (with_reducible refine At3.drew ?_) | (with_reducible refine At3.alloc ?_ _) | (with_reducible refine Box.drew ?_) | (with_reducible refine Box.alloc ?_ _) | (with_reducible refine Box.set ?_ _ _ _) | ((with_reducible refine At3.set_other' ?_ ?_ _ _ _); (· omega)) | ((with_reducible refine Box.set_other ?_ ?_ _ _ _); (· omega)))
  · repeat (first | (with_reducible assumption) | (with_reducible exact Box.of (by assumption)) | ((with_reducible refine At3.new ?_); simp) | (with_reducible refine At3.drew ?_) | (with_reducible refine At3.alloc ?_ _) | (with_reducible refine Box.drew ?_) | (with_reducible refine Box.alloc ?_ _) | (with_reducible refine Box.set ?_ _ _ _) | ((with_reducible refine At3.set_other' ?_ ?_ _ _ _); (· omega)) | ((with_reducible refine Box.set_other ?_ ?_ _ _ _); (· omega)))
  · repeat (first | (with_reducible assumption) | (with_reducible exact Box.of (by assumption)) | ((with_reducible refine At3.new ?_); simp) | (with_reducible refine At3.drew ?_) | (with_reducible refine At3.alloc ?_ _) | (with_reducible refine Box.drew ?_) | (with_reducible refine Box.alloc ?_ _) | (with_reducible refine Box.set ?_ _ _ _) | ((with_reducible refine At3.set_other' ?_ ?_ _ _ _); (· omega)) | ((with_reducible refine Box.set_other ?_ ?_ _ _ _); (· omega)))
  clear hc1 hf1 hb1 hy1 hz1_0 hz1_1 hz1_2 a0 a1 a2 HH
  rintro W ⟨hB, A0, A1, A2⟩
  have c0k := A0.k
  have c0i := A0.i
  have c0s := A0.s
  have l0 := A0.lt
  have c1k := A1.k
  have c1i := A1.i
  have c1s := A1.s
  have l1 := A1.lt
  have c2k := A2.k
  have c2i := A2.i
  have c2s := A2.s
  have l2 := A2.lt
  refine detL_begin [.val (.agg #[.int .i64 k, .int .i64 i, .string S]), .val (.agg #[.int .i64 k, .int .i64 i', .string S']), .val (.int .i64 (1)), .val (.agg #[.int .i64 k, .int .i64 i', .string S']), .val (.agg #[.int .i64 k'', .int .i64 i'', .string S'']), .val (.int .i64 y), .val (.agg #[.int .i64 k, .int .i64 i, .string S]), .val (.agg #[.int .i64 k'', .int .i64 i'', .string S'']), .val (.int .i64 z), .val (.int .i64 (1)), .val (.int .i64 y), .val (.int .i64 z)] 12 (by kernel_rfl) ?_
  refine detL_val (by kernel_rfl) (yields_of rfl fun w1 hb1 => ?_) ?_
  · have hc1 := bcellD hb1
    clear hb1
    go_simp
    exact Det1_same
  simp only [Act.put, List.setIfInBounds_toArray, List.set_cons_zero, List.set_cons_succ]
  refine detL_val (by kernel_rfl) (yields_of rfl fun w1 hb1 => ?_) ?_
  · have hc1 := bcellD hb1
    clear hb1
    go_simp
    exact Det1_same
  simp only [Act.put, List.setIfInBounds_toArray, List.set_cons_zero, List.set_cons_succ]
  refine detL_val (by kernel_rfl) (yields_of rfl fun w1 hb1 => ?_) ?_
  · have hc1 := bcellD hb1
    clear hb1
    go_simp
    exact Det1_enter (order_is _ _ _ _ _ _ _ _ HX.out)
  simp only [Act.put, List.setIfInBounds_toArray, List.set_cons_zero, List.set_cons_succ]
  refine detL_val (by kernel_rfl) (yields_of rfl fun w1 hb1 => ?_) ?_
  · have hc1 := bcellD hb1
    clear hb1
    go_simp
    exact Det1_same
  simp only [Act.put, List.setIfInBounds_toArray, List.set_cons_zero, List.set_cons_succ]
  refine detL_val (by kernel_rfl) (yields_of rfl fun w1 hb1 => ?_) ?_
  · have hc1 := bcellD hb1
    clear hb1
    go_simp
    exact Det1_same
  simp only [Act.put, List.setIfInBounds_toArray, List.set_cons_zero, List.set_cons_succ]
  refine detL_val (by kernel_rfl) (yields_of rfl fun w1 hb1 => ?_) ?_
  · have hc1 := bcellD hb1
    clear hb1
    go_simp
    exact Det1_enter (order_is _ _ _ _ _ _ _ _ HY.out)
  simp only [Act.put, List.setIfInBounds_toArray, List.set_cons_zero, List.set_cons_succ]
  refine detL_val (by kernel_rfl) (yields_of rfl fun w1 hb1 => ?_) ?_
  · have hc1 := bcellD hb1
    clear hb1
    go_simp
    exact Det1_same
  simp only [Act.put, List.setIfInBounds_toArray, List.set_cons_zero, List.set_cons_succ]
  refine detL_val (by kernel_rfl) (yields_of rfl fun w1 hb1 => ?_) ?_
  · have hc1 := bcellD hb1
    clear hb1
    go_simp
    exact Det1_same
  simp only [Act.put, List.setIfInBounds_toArray, List.set_cons_zero, List.set_cons_succ]
  refine detL_val (by kernel_rfl) (yields_of rfl fun w1 hb1 => ?_) ?_
  · have hc1 := bcellD hb1
    clear hb1
    go_simp
    exact Det1_enter (order_is _ _ _ _ _ _ _ _ HZ.out)
  simp only [Act.put, List.setIfInBounds_toArray, List.set_cons_zero, List.set_cons_succ]
  refine detL_val (by kernel_rfl) (yields_of rfl fun w1 hb1 => ?_) ?_
  · have hc1 := bcellD hb1
    clear hb1
    go_simp
    exact Det1_same
  simp only [Act.put, List.setIfInBounds_toArray, List.set_cons_zero, List.set_cons_succ]
  refine detL_val (by kernel_rfl) (yields_of rfl fun w1 hb1 => ?_) ?_
  · have hc1 := bcellD hb1
    clear hb1
    go_simp
    exact Det1_same
  simp only [Act.put, List.setIfInBounds_toArray, List.set_cons_zero, List.set_cons_succ]
  refine detL_val (by kernel_rfl) (yields_of rfl fun w1 hb1 => ?_) ?_
  · have hc1 := bcellD hb1
    clear hb1
    go_simp
    exact Det1_same
  simp only [Act.put, List.setIfInBounds_toArray, List.set_cons_zero, List.set_cons_succ]
  refine detL_tail rfl (by kernel_rfl) fun w1 hw1 => ?_
  have hb1 := hB.drew.trans (hw1.below.mono hB.size)
  have C0 := A0.drew.later hw1.below
  have C1 := A1.drew.later hw1.below
  have C2 := A2.drew.later hw1.below
  clear hw1 hB A0 A1 A2 c0k c0i c0s l0 c1k c1i c1s l1 c2k c2i c2s l2
  have HH := Lib.hid (And.intro hb1 (And.intro C0 (And.intro C1 C2)))
  have k0 := C0.k
  have i0 := C0.i
  have s0 := C0.s
  have k1 := C1.k
  have i1 := C1.i
  have s1 := C1.s
  clear C0 C1 C2 hb1
  go_upto_region 3 with (fail)
  go_upto_region 4 with (first
    | (go_at_call 29; refine (order_is _ _ _ _ _ _ _ _ HX'.out).mono ?_; rintro e w2 ⟨rfl, hb2⟩; have C0 := HH.out.2.1.later hb2; have C1 := HH.out.2.2.1.later hb2; have k2 := C0.k; have i2 := C0.i; have s2 := C0.s; have k3 := C1.k; have i3 := C1.i; have s3 := C1.s)
    | (go_at_call_of 31 (Value.agg #[.int .i64 k, .int .i64 i, .string S]); refine (may_is _ _ _ _ _ ha).mono ?_; rintro e w3 ⟨rfl, hb3⟩; have E0 := C0.later hb3; have E1 := C1.later hb3; have k4 := E0.k; have i4 := E0.i; have s4 := E0.s; have k5 := E1.k; have i5 := E1.i; have s5 := E1.s)
    | (go_at_call_of 31 (Value.agg #[.int .i64 k, .int .i64 i', .string S']); refine (may_is _ _ _ _ _ hb).mono ?_; rintro e w4 ⟨rfl, hb4⟩; have G0 := E0.later hb4; have G1 := E1.later hb4; have k6 := G0.k; have i6 := G0.i; have s6 := G0.s; have k7 := G1.k; have i7 := G1.i; have s7 := G1.s))
  clear k0 i0 s0 k1 i1 s1 k2 i2 s2 k3 i3 s3 k4 i4 s4 k5 i5 s5 k6 i6 s6 k7 i7 s7
  have q2 := HH.out.1.trans (hb2.mono HH.out.1.size)
  have q3 := q2.trans (hb3.mono q2.size)
  have q4 := q3.trans (hb4.mono q3.size)
  refine wp_gen (fun W => Below w.heap.size w W ∧ At3 W w.heap.size k i S ∧ At3 W (w.heap.size + 1) k i' S') ⟨q4, G0, G1⟩ ?_
  clear HH
  rintro W ⟨hB, A0, A1⟩
  have c0k := A0.k
  have c0i := A0.i
  have c0s := A0.s
  have l0 := A0.lt
  have c1k := A1.k
  have c1i := A1.i
  have c1s := A1.s
  have l1 := A1.lt
  have hmW : W.cell? ⟨0, 0, none⟩ = some (.int .i64 m) := (hB.cell (p := ⟨0, 0, none⟩) hlt).trans hm
  cases HA : alikeB k i S k i' S' with
  | false =>
    refine detL_begin [.val (.agg #[.int .i64 k, .int .i64 i, .string S]), .val (.agg #[.int .i64 k, .int .i64 i', .string S']), .val (.agg #[.int .i64 0, .int .i64 0, .string ⟨#[]⟩]), .val (.agg #[.int .i64 k, .int .i64 i, .string S]), .val (.agg #[.int .i64 k, .int .i64 i', .string S']), .val (.agg #[.int .i64 0, .int .i64 0, .string ⟨#[]⟩]), .rel newR, .rel newR] 8 (by kernel_rfl) ?_
    refine detL_val (by kernel_rfl) (yields_of rfl fun w1 hb1 => ?_) ?_
    · have hc1 := bcellD hb1
      clear hb1
      go_simp
      exact Det1_same
    simp only [Act.put, List.setIfInBounds_toArray, List.set_cons_zero, List.set_cons_succ]
    refine detL_val (by kernel_rfl) (yields_of rfl fun w1 hb1 => ?_) ?_
    · have hc1 := bcellD hb1
      clear hb1
      go_simp
      exact Det1_same
    simp only [Act.put, List.setIfInBounds_toArray, List.set_cons_zero, List.set_cons_succ]
    refine detL_val (by kernel_rfl) (yields_of rfl fun w1 hb1 => ?_) ?_
    · have hc1 := bcellD hb1
      clear hb1
      go_simp
      exact Det1_enter (equal_no _ _ _ _ _ _ _ HA)
    simp only [Act.put, List.setIfInBounds_toArray, List.set_cons_zero, List.set_cons_succ]
    refine detL_val (by kernel_rfl) (yields_of rfl fun w1 hb1 => ?_) ?_
    · have hc1 := bcellD hb1
      clear hb1
      go_simp
      exact Det1_same
    simp only [Act.put, List.setIfInBounds_toArray, List.set_cons_zero, List.set_cons_succ]
    refine detL_val (by kernel_rfl) (yields_of rfl fun w1 hb1 => ?_) ?_
    · have hc1 := bcellD hb1
      clear hb1
      go_simp
      exact Det1_same
    simp only [Act.put, List.setIfInBounds_toArray, List.set_cons_zero, List.set_cons_succ]
    refine detL_val (by kernel_rfl) (yields_of rfl fun w1 hb1 => ?_) ?_
    · have hc1 := bcellD hb1
      clear hb1
      go_simp
      exact Det1_enter (less_no _ _ _ _ _ _ _ HA)
    simp only [Act.put, List.setIfInBounds_toArray, List.set_cons_zero, List.set_cons_succ]
    refine detL_rel (by kernel_rfl) (yields_rel (by rfl) newR_lasting fun w1 hw1 => ?_) ?_
    · clear hw1
      go_simp
      exact newR_made
    rintro v F w1 hw1
    obtain ⟨b0, rfl, rfl, -⟩ := (hw1.ents _ List.mem_cons_self).1
    clear hw1
    simp only [Act.put, List.setIfInBounds_toArray, List.set_cons_zero, List.set_cons_succ]
    refine detL_rel (by kernel_rfl) (yields_rel (by rfl) newR_lasting fun w1 hw1 => ?_) ?_
    · clear hw1
      go_simp
      exact newR_made
    rintro v F w1 hw1
    obtain ⟨b1, rfl, rfl, -⟩ := (hw1.ents _ List.mem_cons_self).1
    clear hw1
    simp only [Act.put, List.setIfInBounds_toArray, List.set_cons_zero, List.set_cons_succ]
    refine detL_tail rfl (by kernel_rfl) fun w1 hw1 => ?_
    have e1 := hw1.ents _ List.mem_cons_self
    have e0 := hw1.ents _ (List.mem_cons_of_mem _ List.mem_cons_self)
    have B1 : At3 w1 b1 0 0 ⟨#[]⟩ := (newR_at e1.1).1
    have B0 : At3 w1 b0 0 0 ⟨#[]⟩ := (newR_at e0.1).1
    have z1 := (newR_at e1.1).2
    have z0 := (newR_at e0.1).2
    have n0 : w.heap.size ≤ b0 := Nat.le_trans hB.size (e0.2.2 b0 List.mem_cons_self).1
    have n1 : w.heap.size ≤ b1 := Nat.le_trans hB.size (e1.2.2 b1 List.mem_cons_self).1
    have ap := hw1.apart
    simp only [List.pairwise_cons, List.mem_cons, List.not_mem_nil, or_false, forall_eq] at ap
    have d10 : b1 ≠ b0 := ap.1
    have hb1 := hB.drew.trans (hw1.below.mono hB.size)
    clear hw1 e0 e1 ap hB A0 A1 hmW c0k c0i c0s l0 c1k c1i c1s l1
    have HH := Lib.hid (And.intro B0 (And.intro B1 hb1))
    have k0 := B0.k
    have i0 := B0.i
    have s0 := B0.s
    have k1 := B1.k
    have i1 := B1.i
    have s1 := B1.s
    clear B0 B1 hb1
    go_upto_region 6 with (fail)
    have B0 := HH.out.1
    have B1 := HH.out.2.1
    have hb1 := HH.out.2.2
    refine wp_gen (fun W => Below w.heap.size w W ∧ At3 W b0 0 0 ⟨#[]⟩ ∧ At3 W b1 0 0 ⟨#[]⟩) ⟨?_, ?_, ?_⟩ ?_
    · repeat (first | (with_reducible exact Below.refl _ _) | ((with_reducible refine cSet3 ?_ ?_ _ _ _); (· ((try simp) <;> omega))) | (with_reducible refine Below.drew ?_) | ((with_reducible refine cAlloc ?_ ?_ _); (· ((try simp) <;> omega))) | ((with_reducible refine cOn (by assumption) ?_ ?_); (· ((try simp) <;> omega))))
    · repeat (first | (with_reducible assumption) | (with_reducible exact Box.of (by assumption)) | ((with_reducible refine At3.new ?_); simp) | (with_reducible refine At3.drew ?_) | (with_reducible refine At3.alloc ?_ _) | (with_reducible refine Box.drew ?_) | (with_reducible refine Box.alloc ?_ _) | (with_reducible refine Box.set ?_ _ _ _) | ((with_reducible refine At3.set_other' ?_ ?_ _ _ _); (· omega)) | ((with_reducible refine Box.set_other ?_ ?_ _ _ _); (· omega)))
    · repeat (first | (with_reducible assumption) | (with_reducible exact Box.of (by assumption)) | ((with_reducible refine At3.new ?_); simp) | (with_reducible refine At3.drew ?_) | (with_reducible refine At3.alloc ?_ _) | (with_reducible refine Box.drew ?_) | (with_reducible refine Box.alloc ?_ _) | (with_reducible refine Box.set ?_ _ _ _) | ((with_reducible refine At3.set_other' ?_ ?_ _ _ _); (· omega)) | ((with_reducible refine Box.set_other ?_ ?_ _ _ _); (· omega)))
    clear k0 i0 s0 k1 i1 s1 z0 z1 B0 B1 hb1 HH n0 n1 d10
    rintro W ⟨hB, A0, A1⟩
    have c0k := A0.k
    have c0i := A0.i
    have c0s := A0.s
    have l0 := A0.lt
    have c1k := A1.k
    have c1i := A1.i
    have c1s := A1.s
    have l1 := A1.lt
    have hmW : W.cell? ⟨0, 0, none⟩ = some (.int .i64 m) := (hB.cell (p := ⟨0, 0, none⟩) hlt).trans hm
    go_wp2_with (go_at_call 20; refine (awake_any _ m hmW).mono ?_; rintro e w3 ⟨rfl, hb3⟩)
    go_ret
    exact ⟨rfl, hB.trans (hb3.mono hB.size)⟩
  | true =>
    have he : b2i (ordN k i S k i' S' == 0) = 0 := by rw [HX.out]; rfl
    have hl : b2i (decide (ordN k i S k i' S' < 0)) = 0 := by rw [HX.out]; rfl
    refine detL_begin [.val (.agg #[.int .i64 k, .int .i64 i, .string S]), .val (.agg #[.int .i64 k, .int .i64 i', .string S']), .val (.agg #[.int .i64 3, .int .i64 0, .string ⟨#[]⟩]), .val (.agg #[.int .i64 k, .int .i64 i, .string S]), .val (.agg #[.int .i64 k, .int .i64 i', .string S']), .val (.agg #[.int .i64 3, .int .i64 0, .string ⟨#[]⟩]), .rel newR, .rel newR] 8 (by kernel_rfl) ?_
    refine detL_val (by kernel_rfl) (yields_of rfl fun w1 hb1 => ?_) ?_
    · have hc1 := bcellD hb1
      clear hb1
      go_simp
      exact Det1_same
    simp only [Act.put, List.setIfInBounds_toArray, List.set_cons_zero, List.set_cons_succ]
    refine detL_val (by kernel_rfl) (yields_of rfl fun w1 hb1 => ?_) ?_
    · have hc1 := bcellD hb1
      clear hb1
      go_simp
      exact Det1_same
    simp only [Act.put, List.setIfInBounds_toArray, List.set_cons_zero, List.set_cons_succ]
    refine detL_val (by kernel_rfl) (yields_of rfl fun w1 hb1 => ?_) ?_
    · have hc1 := bcellD hb1
      clear hb1
      go_simp
      exact Det1_enter (equal_is _ _ _ _ _ _ _ HA _ he)
    simp only [Act.put, List.setIfInBounds_toArray, List.set_cons_zero, List.set_cons_succ]
    refine detL_val (by kernel_rfl) (yields_of rfl fun w1 hb1 => ?_) ?_
    · have hc1 := bcellD hb1
      clear hb1
      go_simp
      exact Det1_same
    simp only [Act.put, List.setIfInBounds_toArray, List.set_cons_zero, List.set_cons_succ]
    refine detL_val (by kernel_rfl) (yields_of rfl fun w1 hb1 => ?_) ?_
    · have hc1 := bcellD hb1
      clear hb1
      go_simp
      exact Det1_same
    simp only [Act.put, List.setIfInBounds_toArray, List.set_cons_zero, List.set_cons_succ]
    refine detL_val (by kernel_rfl) (yields_of rfl fun w1 hb1 => ?_) ?_
    · have hc1 := bcellD hb1
      clear hb1
      go_simp
      exact Det1_enter (less_is _ _ _ _ _ _ _ HA _ hl)
    simp only [Act.put, List.setIfInBounds_toArray, List.set_cons_zero, List.set_cons_succ]
    refine detL_rel (by kernel_rfl) (yields_rel (by rfl) newR_lasting fun w1 hw1 => ?_) ?_
    · clear hw1
      go_simp
      exact newR_made
    rintro v F w1 hw1
    obtain ⟨b0, rfl, rfl, -⟩ := (hw1.ents _ List.mem_cons_self).1
    clear hw1
    simp only [Act.put, List.setIfInBounds_toArray, List.set_cons_zero, List.set_cons_succ]
    refine detL_rel (by kernel_rfl) (yields_rel (by rfl) newR_lasting fun w1 hw1 => ?_) ?_
    · clear hw1
      go_simp
      exact newR_made
    rintro v F w1 hw1
    obtain ⟨b1, rfl, rfl, -⟩ := (hw1.ents _ List.mem_cons_self).1
    clear hw1
    simp only [Act.put, List.setIfInBounds_toArray, List.set_cons_zero, List.set_cons_succ]
    refine detL_tail rfl (by kernel_rfl) fun w1 hw1 => ?_
    have e1 := hw1.ents _ List.mem_cons_self
    have e0 := hw1.ents _ (List.mem_cons_of_mem _ List.mem_cons_self)
    have B1 : At3 w1 b1 0 0 ⟨#[]⟩ := (newR_at e1.1).1
    have B0 : At3 w1 b0 0 0 ⟨#[]⟩ := (newR_at e0.1).1
    have z1 := (newR_at e1.1).2
    have z0 := (newR_at e0.1).2
    have n0 : w.heap.size ≤ b0 := Nat.le_trans hB.size (e0.2.2 b0 List.mem_cons_self).1
    have n1 : w.heap.size ≤ b1 := Nat.le_trans hB.size (e1.2.2 b1 List.mem_cons_self).1
    have ap := hw1.apart
    simp only [List.pairwise_cons, List.mem_cons, List.not_mem_nil, or_false, forall_eq] at ap
    have d10 : b1 ≠ b0 := ap.1
    have hb1 := hB.drew.trans (hw1.below.mono hB.size)
    clear hw1 e0 e1 ap hB A0 A1 hmW c0k c0i c0s l0 c1k c1i c1s l1
    have HH := Lib.hid (And.intro B0 (And.intro B1 hb1))
    have k0 := B0.k
    have i0 := B0.i
    have s0 := B0.s
    have k1 := B1.k
    have i1 := B1.i
    have s1 := B1.s
    clear B0 B1 hb1
    go_upto_region 6 with (fail)
    have B0 := HH.out.1
    have B1 := HH.out.2.1
    have hb1 := HH.out.2.2
    refine wp_gen (fun W => Below w.heap.size w W ∧ At3 W b0 3 0 ⟨#[]⟩ ∧ At3 W b1 3 0 ⟨#[]⟩) ⟨?_, ?_, ?_⟩ ?_
    · repeat (first | (with_reducible exact Below.refl _ _) | ((with_reducible refine cSet3 ?_ ?_ _ _ _); (· ((try simp) <;> omega))) | (with_reducible refine Below.drew ?_) | ((with_reducible refine cAlloc ?_ ?_ _); (· ((try simp) <;> omega))) | ((with_reducible refine cOn (by assumption) ?_ ?_); (· ((try simp) <;> omega))))
    · repeat (first | (with_reducible assumption) | (with_reducible exact Box.of (by assumption)) | ((with_reducible refine At3.new ?_); simp) | (with_reducible refine At3.drew ?_) | (with_reducible refine At3.alloc ?_ _) | (with_reducible refine Box.drew ?_) | (with_reducible refine Box.alloc ?_ _) | (with_reducible refine Box.set ?_ _ _ _) | ((with_reducible refine At3.set_other' ?_ ?_ _ _ _); (· omega)) | ((with_reducible refine Box.set_other ?_ ?_ _ _ _); (· omega)))
    · repeat (first | (with_reducible assumption) | (with_reducible exact Box.of (by assumption)) | ((with_reducible refine At3.new ?_); simp) | (with_reducible refine At3.drew ?_) | (with_reducible refine At3.alloc ?_ _) | (with_reducible refine Box.drew ?_) | (with_reducible refine Box.alloc ?_ _) | (with_reducible refine Box.set ?_ _ _ _) | ((with_reducible refine At3.set_other' ?_ ?_ _ _ _); (· omega)) | ((with_reducible refine Box.set_other ?_ ?_ _ _ _); (· omega)))
    clear k0 i0 s0 k1 i1 s1 z0 z1 B0 B1 hb1 HH n0 n1 d10
    rintro W ⟨hB, A0, A1⟩
    have c0k := A0.k
    have c0i := A0.i
    have c0s := A0.s
    have l0 := A0.lt
    have c1k := A1.k
    have c1i := A1.i
    have c1s := A1.s
    have l1 := A1.lt
    have hmW : W.cell? ⟨0, 0, none⟩ = some (.int .i64 m) := (hB.cell (p := ⟨0, 0, none⟩) hlt).trans hm
    go_wp2_with (go_at_call 20; refine (awake_any _ m hmW).mono ?_; rintro e w3 ⟨rfl, hb3⟩)
    go_ret
    exact ⟨rfl, hB.trans (hb3.mono hB.size)⟩

set_option maxRecDepth 100000 in
set_option maxHeartbeats 40000000 in
theorem orders_1o_s (k i : Int) (s S : ByteArray) (s' : ByteArray) (S' : ByteArray) (k'' i'' : Int) (s'' S'' : ByteArray) (w : World) (hs : s.size ≤ maxLen) (hs' : s'.size ≤ maxLen) (hs'' : s''.size ≤ maxLen) (hS : fewS s = S) (hS' : fewS s' = S') (hS'' : fewS s'' = S'') (m : Int) (hm : w.cell? ⟨0, 0, none⟩ = some (.int .i64 m))
    (y z : Int) (hx : ordN k i S k i S' = 1) (hy : ordN k i S' k'' i'' S'' = y) (hz : ordN k i S k'' i'' S'' = z)  (ha : mayB k i S = true) (hb : mayB k i S' = true) (hne : ¬ S.toList = S'.toList) :
    Calls Tryd.prog 7 #[.agg #[.int .i64 k, .int .i64 i, .string s], .agg #[.int .i64 k, .int .i64 i, .string s'], .agg #[.int .i64 k'', .int .i64 i'', .string s'']] w fun e w' => e = .returned (.bool true) ∧ Below w.heap.size w w' := by
  have hlt : 0 < w.heap.size := World.block_lt_of_cell? w _ hm
  have HX := Lib.hid hx
  have hx' : ordN k i S' k i S = -(1) := (ord_anti k i S k i S').trans (congrArg (fun v => -v) hx)
  have HX' : Hid (ordN k i S' k i S = -1) := Lib.hid (hx'.trans (by decide))
  clear hx'
  have HY := Lib.hid hy
  have HZ := Lib.hid hz
  clear hx hy hz
  go_enter Tryd.func7, Tryd.ntmps7
  go_wp2
  refine detL_begin [.val (.agg #[.int .i64 k, .int .i64 i, .string s]), .val (.agg #[.int .i64 k, .int .i64 i, .string S]), .val (.agg #[.int .i64 k, .int .i64 i, .string s']), .val (.agg #[.int .i64 k, .int .i64 i, .string S']), .val (.agg #[.int .i64 k'', .int .i64 i'', .string s'']), .val (.agg #[.int .i64 k'', .int .i64 i'', .string S''])] 6 (by kernel_rfl) ?_
  repeat
    (refine detL_val (by kernel_rfl) (yields_of rfl fun w1 hb1 => ?_) ?_
     · have hc1 := bcellD hb1
       clear hb1
       go_simp
       with_reducible first
         | exact Det1_same
         | exact Det1_enter (few_is _ _ _ _ _ hs hS)
         | exact Det1_enter (few_is _ _ _ _ _ hs' hS')
         | exact Det1_enter (few_is _ _ _ _ _ hs'' hS'')
     simp only [Act.put, List.setIfInBounds_toArray, List.set_cons_zero, List.set_cons_succ])
  refine detL_tail rfl (by kernel_rfl) fun w1 hw1 => ?_
  have hb1 := hw1.below
  clear hw1
  have hc1 := (bcell hb1).1
  have hf1 := (bcell hb1).2
  have hy1 := hb1.size
  (try simp at hy1)
  have hz1_0 : w.heap.size < w1.heap.size := (by omega)
  have hz1_1 : w.heap.size + 1 < w1.heap.size := (by omega)
  have hz1_2 : w.heap.size + 1 + 1 < w1.heap.size := (by omega)
  have a0 : At3 w1 w.heap.size k i s := At3.later (by repeat (first | (with_reducible assumption) | (with_reducible exact Box.of (by assumption)) | ((with_reducible refine At3.new ?_); simp) | (with_reducible refine At3.drew ?_) | (with_reducible refine At3.alloc ?_ _) | (with_reducible refine Box.drew ?_) | (with_reducible refine Box.alloc ?_ _) | (with_reducible refine Box.set ?_ _ _ _) | ((with_reducible refine At3.set_other' ?_ ?_ _ _ _); (· omega)) | ((with_reducible refine Box.set_other ?_ ?_ _ _ _); (· omega)))) hb1
  have a1 : At3 w1 (w.heap.size + 1) k i s' := At3.later (by repeat (first | (with_reducible assumption) | (with_reducible exact Box.of (by assumption)) | ((with_reducible refine At3.new ?_); simp) | (with_reducible refine At3.drew ?_) | (with_reducible refine At3.alloc ?_ _) | (with_reducible refine Box.drew ?_) | (with_reducible refine Box.alloc ?_ _) | (with_reducible refine Box.set ?_ _ _ _) | ((with_reducible refine At3.set_other' ?_ ?_ _ _ _); (· omega)) | ((with_reducible refine Box.set_other ?_ ?_ _ _ _); (· omega)))) hb1
  have a2 : At3 w1 (w.heap.size + 1 + 1) k'' i'' s'' := At3.later (by repeat (first | (with_reducible assumption) | (with_reducible exact Box.of (by assumption)) | ((with_reducible refine At3.new ?_); simp) | (with_reducible refine At3.drew ?_) | (with_reducible refine At3.alloc ?_ _) | (with_reducible refine Box.drew ?_) | (with_reducible refine Box.alloc ?_ _) | (with_reducible refine Box.set ?_ _ _ _) | ((with_reducible refine At3.set_other' ?_ ?_ _ _ _); (· omega)) | ((with_reducible refine Box.set_other ?_ ?_ _ _ _); (· omega)))) hb1
  have HH := Lib.hid (And.intro a0 (And.intro a1 a2))
  clear a0 a1 a2
  go_upto_region 2 with (fail)
  have a0 := HH.out.1
  have a1 := HH.out.2.1
  have a2 := HH.out.2.2
  refine wp_gen (fun W => Below w.heap.size w W ∧ At3 W w.heap.size k i S ∧ At3 W (w.heap.size + 1) k i S' ∧ At3 W (w.heap.size + 1 + 1) k'' i'' S'') ⟨?_, ?_, ?_, ?_⟩ ?_
  · repeat (first | (with_reducible exact Below.refl _ _) | ((with_reducible refine cSet3 ?_ ?_ _ _ _); (· ((try simp) <;> omega))) | (with_reducible refine Below.drew ?_) | ((with_reducible refine cAlloc ?_ ?_ _); (· ((try simp) <;> omega))) | ((with_reducible refine cOn (by assumption) ?_ ?_); (· ((try simp) <;> omega))))
  · repeat (first | (with_reducible assumption) | (with_reducible exact Box.of (by assumption)) | ((with_reducible refine At3.new ?_); simp) | (with_reducible refine At3.drew ?_) | (with_reducible refine At3.alloc ?_ _) | (with_reducible refine Box.drew ?_) | (with_reducible refine Box.alloc ?_ _) | (with_reducible refine Box.set ?_ _ _ _) | ((with_reducible refine At3.set_other' ?_ ?_ _ _ _); (· omega)) | ((with_reducible refine Box.set_other ?_ ?_ _ _ _); (· omega)))
  · repeat (first | (with_reducible assumption) | (with_reducible exact Box.of (by assumption)) | ((with_reducible refine At3.new ?_); simp) | (with_reducible refine At3.drew ?_) | (with_reducible refine At3.alloc ?_ _) | (with_reducible refine Box.drew ?_) | (with_reducible refine Box.alloc ?_ _) | (with_reducible refine Box.set ?_ _ _ _) | ((with_reducible refine At3.set_other' ?_ ?_ _ _ _); (· omega)) | ((with_reducible refine Box.set_other ?_ ?_ _ _ _); (· omega)))
  · repeat (first | (with_reducible assumption) | (with_reducible exact Box.of (by assumption)) | ((with_reducible refine At3.new ?_); simp) | (with_reducible refine At3.drew ?_) | (with_reducible refine At3.alloc ?_ _) | (with_reducible refine Box.drew ?_) | (with_reducible refine Box.alloc ?_ _) | (with_reducible refine Box.set ?_ _ _ _) | ((with_reducible refine At3.set_other' ?_ ?_ _ _ _); (· omega)) | ((with_reducible refine Box.set_other ?_ ?_ _ _ _); (· omega)))
  clear hc1 hf1 hb1 hy1 hz1_0 hz1_1 hz1_2 a0 a1 a2 HH
  rintro W ⟨hB, A0, A1, A2⟩
  have c0k := A0.k
  have c0i := A0.i
  have c0s := A0.s
  have l0 := A0.lt
  have c1k := A1.k
  have c1i := A1.i
  have c1s := A1.s
  have l1 := A1.lt
  have c2k := A2.k
  have c2i := A2.i
  have c2s := A2.s
  have l2 := A2.lt
  refine detL_begin [.val (.agg #[.int .i64 k, .int .i64 i, .string S]), .val (.agg #[.int .i64 k, .int .i64 i, .string S']), .val (.int .i64 (1)), .val (.agg #[.int .i64 k, .int .i64 i, .string S']), .val (.agg #[.int .i64 k'', .int .i64 i'', .string S'']), .val (.int .i64 y), .val (.agg #[.int .i64 k, .int .i64 i, .string S]), .val (.agg #[.int .i64 k'', .int .i64 i'', .string S'']), .val (.int .i64 z), .val (.int .i64 (1)), .val (.int .i64 y), .val (.int .i64 z)] 12 (by kernel_rfl) ?_
  refine detL_val (by kernel_rfl) (yields_of rfl fun w1 hb1 => ?_) ?_
  · have hc1 := bcellD hb1
    clear hb1
    go_simp
    exact Det1_same
  simp only [Act.put, List.setIfInBounds_toArray, List.set_cons_zero, List.set_cons_succ]
  refine detL_val (by kernel_rfl) (yields_of rfl fun w1 hb1 => ?_) ?_
  · have hc1 := bcellD hb1
    clear hb1
    go_simp
    exact Det1_same
  simp only [Act.put, List.setIfInBounds_toArray, List.set_cons_zero, List.set_cons_succ]
  refine detL_val (by kernel_rfl) (yields_of rfl fun w1 hb1 => ?_) ?_
  · have hc1 := bcellD hb1
    clear hb1
    go_simp
    exact Det1_enter (order_is _ _ _ _ _ _ _ _ HX.out)
  simp only [Act.put, List.setIfInBounds_toArray, List.set_cons_zero, List.set_cons_succ]
  refine detL_val (by kernel_rfl) (yields_of rfl fun w1 hb1 => ?_) ?_
  · have hc1 := bcellD hb1
    clear hb1
    go_simp
    exact Det1_same
  simp only [Act.put, List.setIfInBounds_toArray, List.set_cons_zero, List.set_cons_succ]
  refine detL_val (by kernel_rfl) (yields_of rfl fun w1 hb1 => ?_) ?_
  · have hc1 := bcellD hb1
    clear hb1
    go_simp
    exact Det1_same
  simp only [Act.put, List.setIfInBounds_toArray, List.set_cons_zero, List.set_cons_succ]
  refine detL_val (by kernel_rfl) (yields_of rfl fun w1 hb1 => ?_) ?_
  · have hc1 := bcellD hb1
    clear hb1
    go_simp
    exact Det1_enter (order_is _ _ _ _ _ _ _ _ HY.out)
  simp only [Act.put, List.setIfInBounds_toArray, List.set_cons_zero, List.set_cons_succ]
  refine detL_val (by kernel_rfl) (yields_of rfl fun w1 hb1 => ?_) ?_
  · have hc1 := bcellD hb1
    clear hb1
    go_simp
    exact Det1_same
  simp only [Act.put, List.setIfInBounds_toArray, List.set_cons_zero, List.set_cons_succ]
  refine detL_val (by kernel_rfl) (yields_of rfl fun w1 hb1 => ?_) ?_
  · have hc1 := bcellD hb1
    clear hb1
    go_simp
    exact Det1_same
  simp only [Act.put, List.setIfInBounds_toArray, List.set_cons_zero, List.set_cons_succ]
  refine detL_val (by kernel_rfl) (yields_of rfl fun w1 hb1 => ?_) ?_
  · have hc1 := bcellD hb1
    clear hb1
    go_simp
    exact Det1_enter (order_is _ _ _ _ _ _ _ _ HZ.out)
  simp only [Act.put, List.setIfInBounds_toArray, List.set_cons_zero, List.set_cons_succ]
  refine detL_val (by kernel_rfl) (yields_of rfl fun w1 hb1 => ?_) ?_
  · have hc1 := bcellD hb1
    clear hb1
    go_simp
    exact Det1_same
  simp only [Act.put, List.setIfInBounds_toArray, List.set_cons_zero, List.set_cons_succ]
  refine detL_val (by kernel_rfl) (yields_of rfl fun w1 hb1 => ?_) ?_
  · have hc1 := bcellD hb1
    clear hb1
    go_simp
    exact Det1_same
  simp only [Act.put, List.setIfInBounds_toArray, List.set_cons_zero, List.set_cons_succ]
  refine detL_val (by kernel_rfl) (yields_of rfl fun w1 hb1 => ?_) ?_
  · have hc1 := bcellD hb1
    clear hb1
    go_simp
    exact Det1_same
  simp only [Act.put, List.setIfInBounds_toArray, List.set_cons_zero, List.set_cons_succ]
  refine detL_tail rfl (by kernel_rfl) fun w1 hw1 => ?_
  have hb1 := hB.drew.trans (hw1.below.mono hB.size)
  have C0 := A0.drew.later hw1.below
  have C1 := A1.drew.later hw1.below
  have C2 := A2.drew.later hw1.below
  clear hw1 hB A0 A1 A2 c0k c0i c0s l0 c1k c1i c1s l1 c2k c2i c2s l2
  have HH := Lib.hid (And.intro hb1 (And.intro C0 (And.intro C1 C2)))
  have k0 := C0.k
  have i0 := C0.i
  have s0 := C0.s
  have k1 := C1.k
  have i1 := C1.i
  have s1 := C1.s
  clear C0 C1 C2 hb1
  go_upto_region 3 with (fail)
  go_upto_region 4 with (first
    | (go_at_call 29; refine (order_is _ _ _ _ _ _ _ _ HX'.out).mono ?_; rintro e w2 ⟨rfl, hb2⟩; have C0 := HH.out.2.1.later hb2; have C1 := HH.out.2.2.1.later hb2; have k2 := C0.k; have i2 := C0.i; have s2 := C0.s; have k3 := C1.k; have i3 := C1.i; have s3 := C1.s)
    | (go_at_call_of 31 (Value.agg #[.int .i64 k, .int .i64 i, .string S]); refine (may_is _ _ _ _ _ ha).mono ?_; rintro e w3 ⟨rfl, hb3⟩; have E0 := C0.later hb3; have E1 := C1.later hb3; have k4 := E0.k; have i4 := E0.i; have s4 := E0.s; have k5 := E1.k; have i5 := E1.i; have s5 := E1.s)
    | (go_at_call_of 31 (Value.agg #[.int .i64 k, .int .i64 i, .string S']); refine (may_is _ _ _ _ _ hb).mono ?_; rintro e w4 ⟨rfl, hb4⟩; have G0 := E0.later hb4; have G1 := E1.later hb4; have k6 := G0.k; have i6 := G0.i; have s6 := G0.s; have k7 := G1.k; have i7 := G1.i; have s7 := G1.s))
  clear k0 i0 s0 k1 i1 s1 k2 i2 s2 k3 i3 s3 k4 i4 s4 k5 i5 s5 k6 i6 s6 k7 i7 s7
  have q2 := HH.out.1.trans (hb2.mono HH.out.1.size)
  have q3 := q2.trans (hb3.mono q2.size)
  have q4 := q3.trans (hb4.mono q3.size)
  refine wp_gen (fun W => Below w.heap.size w W ∧ At3 W w.heap.size k i S ∧ At3 W (w.heap.size + 1) k i S') ⟨q4, G0, G1⟩ ?_
  clear HH
  rintro W ⟨hB, A0, A1⟩
  have c0k := A0.k
  have c0i := A0.i
  have c0s := A0.s
  have l0 := A0.lt
  have c1k := A1.k
  have c1i := A1.i
  have c1s := A1.s
  have l1 := A1.lt
  have hmW : W.cell? ⟨0, 0, none⟩ = some (.int .i64 m) := (hB.cell (p := ⟨0, 0, none⟩) hlt).trans hm
  cases HA : alikeB k i S k i S' with
  | false =>
    refine detL_begin [.val (.agg #[.int .i64 k, .int .i64 i, .string S]), .val (.agg #[.int .i64 k, .int .i64 i, .string S']), .val (.agg #[.int .i64 0, .int .i64 0, .string ⟨#[]⟩]), .val (.agg #[.int .i64 k, .int .i64 i, .string S]), .val (.agg #[.int .i64 k, .int .i64 i, .string S']), .val (.agg #[.int .i64 0, .int .i64 0, .string ⟨#[]⟩]), .rel newR, .rel newR] 8 (by kernel_rfl) ?_
    refine detL_val (by kernel_rfl) (yields_of rfl fun w1 hb1 => ?_) ?_
    · have hc1 := bcellD hb1
      clear hb1
      go_simp
      exact Det1_same
    simp only [Act.put, List.setIfInBounds_toArray, List.set_cons_zero, List.set_cons_succ]
    refine detL_val (by kernel_rfl) (yields_of rfl fun w1 hb1 => ?_) ?_
    · have hc1 := bcellD hb1
      clear hb1
      go_simp
      exact Det1_same
    simp only [Act.put, List.setIfInBounds_toArray, List.set_cons_zero, List.set_cons_succ]
    refine detL_val (by kernel_rfl) (yields_of rfl fun w1 hb1 => ?_) ?_
    · have hc1 := bcellD hb1
      clear hb1
      go_simp
      exact Det1_enter (equal_no _ _ _ _ _ _ _ HA)
    simp only [Act.put, List.setIfInBounds_toArray, List.set_cons_zero, List.set_cons_succ]
    refine detL_val (by kernel_rfl) (yields_of rfl fun w1 hb1 => ?_) ?_
    · have hc1 := bcellD hb1
      clear hb1
      go_simp
      exact Det1_same
    simp only [Act.put, List.setIfInBounds_toArray, List.set_cons_zero, List.set_cons_succ]
    refine detL_val (by kernel_rfl) (yields_of rfl fun w1 hb1 => ?_) ?_
    · have hc1 := bcellD hb1
      clear hb1
      go_simp
      exact Det1_same
    simp only [Act.put, List.setIfInBounds_toArray, List.set_cons_zero, List.set_cons_succ]
    refine detL_val (by kernel_rfl) (yields_of rfl fun w1 hb1 => ?_) ?_
    · have hc1 := bcellD hb1
      clear hb1
      go_simp
      exact Det1_enter (less_no _ _ _ _ _ _ _ HA)
    simp only [Act.put, List.setIfInBounds_toArray, List.set_cons_zero, List.set_cons_succ]
    refine detL_rel (by kernel_rfl) (yields_rel (by rfl) newR_lasting fun w1 hw1 => ?_) ?_
    · clear hw1
      go_simp
      exact newR_made
    rintro v F w1 hw1
    obtain ⟨b0, rfl, rfl, -⟩ := (hw1.ents _ List.mem_cons_self).1
    clear hw1
    simp only [Act.put, List.setIfInBounds_toArray, List.set_cons_zero, List.set_cons_succ]
    refine detL_rel (by kernel_rfl) (yields_rel (by rfl) newR_lasting fun w1 hw1 => ?_) ?_
    · clear hw1
      go_simp
      exact newR_made
    rintro v F w1 hw1
    obtain ⟨b1, rfl, rfl, -⟩ := (hw1.ents _ List.mem_cons_self).1
    clear hw1
    simp only [Act.put, List.setIfInBounds_toArray, List.set_cons_zero, List.set_cons_succ]
    refine detL_tail rfl (by kernel_rfl) fun w1 hw1 => ?_
    have e1 := hw1.ents _ List.mem_cons_self
    have e0 := hw1.ents _ (List.mem_cons_of_mem _ List.mem_cons_self)
    have B1 : At3 w1 b1 0 0 ⟨#[]⟩ := (newR_at e1.1).1
    have B0 : At3 w1 b0 0 0 ⟨#[]⟩ := (newR_at e0.1).1
    have z1 := (newR_at e1.1).2
    have z0 := (newR_at e0.1).2
    have n0 : w.heap.size ≤ b0 := Nat.le_trans hB.size (e0.2.2 b0 List.mem_cons_self).1
    have n1 : w.heap.size ≤ b1 := Nat.le_trans hB.size (e1.2.2 b1 List.mem_cons_self).1
    have ap := hw1.apart
    simp only [List.pairwise_cons, List.mem_cons, List.not_mem_nil, or_false, forall_eq] at ap
    have d10 : b1 ≠ b0 := ap.1
    have hb1 := hB.drew.trans (hw1.below.mono hB.size)
    clear hw1 e0 e1 ap hB A0 A1 hmW c0k c0i c0s l0 c1k c1i c1s l1
    have HH := Lib.hid (And.intro B0 (And.intro B1 hb1))
    have k0 := B0.k
    have i0 := B0.i
    have s0 := B0.s
    have k1 := B1.k
    have i1 := B1.i
    have s1 := B1.s
    clear B0 B1 hb1
    go_upto_region 6 with (fail)
    have B0 := HH.out.1
    have B1 := HH.out.2.1
    have hb1 := HH.out.2.2
    refine wp_gen (fun W => Below w.heap.size w W ∧ At3 W b0 0 0 ⟨#[]⟩ ∧ At3 W b1 0 0 ⟨#[]⟩) ⟨?_, ?_, ?_⟩ ?_
    · repeat (first | (with_reducible exact Below.refl _ _) | ((with_reducible refine cSet3 ?_ ?_ _ _ _); (· ((try simp) <;> omega))) | (with_reducible refine Below.drew ?_) | ((with_reducible refine cAlloc ?_ ?_ _); (· ((try simp) <;> omega))) | ((with_reducible refine cOn (by assumption) ?_ ?_); (· ((try simp) <;> omega))))
    · repeat (first | (with_reducible assumption) | (with_reducible exact Box.of (by assumption)) | ((with_reducible refine At3.new ?_); simp) | (with_reducible refine At3.drew ?_) | (with_reducible refine At3.alloc ?_ _) | (with_reducible refine Box.drew ?_) | (with_reducible refine Box.alloc ?_ _) | (with_reducible refine Box.set ?_ _ _ _) | ((with_reducible refine At3.set_other' ?_ ?_ _ _ _); (· omega)) | ((with_reducible refine Box.set_other ?_ ?_ _ _ _); (· omega)))
    · repeat (first | (with_reducible assumption) | (with_reducible exact Box.of (by assumption)) | ((with_reducible refine At3.new ?_); simp) | (with_reducible refine At3.drew ?_) | (with_reducible refine At3.alloc ?_ _) | (with_reducible refine Box.drew ?_) | (with_reducible refine Box.alloc ?_ _) | (with_reducible refine Box.set ?_ _ _ _) | ((with_reducible refine At3.set_other' ?_ ?_ _ _ _); (· omega)) | ((with_reducible refine Box.set_other ?_ ?_ _ _ _); (· omega)))
    clear k0 i0 s0 k1 i1 s1 z0 z1 B0 B1 hb1 HH n0 n1 d10
    rintro W ⟨hB, A0, A1⟩
    have c0k := A0.k
    have c0i := A0.i
    have c0s := A0.s
    have l0 := A0.lt
    have c1k := A1.k
    have c1i := A1.i
    have c1s := A1.s
    have l1 := A1.lt
    have hmW : W.cell? ⟨0, 0, none⟩ = some (.int .i64 m) := (hB.cell (p := ⟨0, 0, none⟩) hlt).trans hm
    go_wp2_with (go_at_call 20; refine (awake_any _ m hmW).mono ?_; rintro e w3 ⟨rfl, hb3⟩)
    go_ret
    exact ⟨rfl, hB.trans (hb3.mono hB.size)⟩
  | true =>
    have he : b2i (ordN k i S k i S' == 0) = 0 := by rw [HX.out]; rfl
    have hl : b2i (decide (ordN k i S k i S' < 0)) = 0 := by rw [HX.out]; rfl
    refine detL_begin [.val (.agg #[.int .i64 k, .int .i64 i, .string S]), .val (.agg #[.int .i64 k, .int .i64 i, .string S']), .val (.agg #[.int .i64 3, .int .i64 0, .string ⟨#[]⟩]), .val (.agg #[.int .i64 k, .int .i64 i, .string S]), .val (.agg #[.int .i64 k, .int .i64 i, .string S']), .val (.agg #[.int .i64 3, .int .i64 0, .string ⟨#[]⟩]), .rel newR, .rel newR] 8 (by kernel_rfl) ?_
    refine detL_val (by kernel_rfl) (yields_of rfl fun w1 hb1 => ?_) ?_
    · have hc1 := bcellD hb1
      clear hb1
      go_simp
      exact Det1_same
    simp only [Act.put, List.setIfInBounds_toArray, List.set_cons_zero, List.set_cons_succ]
    refine detL_val (by kernel_rfl) (yields_of rfl fun w1 hb1 => ?_) ?_
    · have hc1 := bcellD hb1
      clear hb1
      go_simp
      exact Det1_same
    simp only [Act.put, List.setIfInBounds_toArray, List.set_cons_zero, List.set_cons_succ]
    refine detL_val (by kernel_rfl) (yields_of rfl fun w1 hb1 => ?_) ?_
    · have hc1 := bcellD hb1
      clear hb1
      go_simp
      exact Det1_enter (equal_is _ _ _ _ _ _ _ HA _ he)
    simp only [Act.put, List.setIfInBounds_toArray, List.set_cons_zero, List.set_cons_succ]
    refine detL_val (by kernel_rfl) (yields_of rfl fun w1 hb1 => ?_) ?_
    · have hc1 := bcellD hb1
      clear hb1
      go_simp
      exact Det1_same
    simp only [Act.put, List.setIfInBounds_toArray, List.set_cons_zero, List.set_cons_succ]
    refine detL_val (by kernel_rfl) (yields_of rfl fun w1 hb1 => ?_) ?_
    · have hc1 := bcellD hb1
      clear hb1
      go_simp
      exact Det1_same
    simp only [Act.put, List.setIfInBounds_toArray, List.set_cons_zero, List.set_cons_succ]
    refine detL_val (by kernel_rfl) (yields_of rfl fun w1 hb1 => ?_) ?_
    · have hc1 := bcellD hb1
      clear hb1
      go_simp
      exact Det1_enter (less_is _ _ _ _ _ _ _ HA _ hl)
    simp only [Act.put, List.setIfInBounds_toArray, List.set_cons_zero, List.set_cons_succ]
    refine detL_rel (by kernel_rfl) (yields_rel (by rfl) newR_lasting fun w1 hw1 => ?_) ?_
    · clear hw1
      go_simp
      exact newR_made
    rintro v F w1 hw1
    obtain ⟨b0, rfl, rfl, -⟩ := (hw1.ents _ List.mem_cons_self).1
    clear hw1
    simp only [Act.put, List.setIfInBounds_toArray, List.set_cons_zero, List.set_cons_succ]
    refine detL_rel (by kernel_rfl) (yields_rel (by rfl) newR_lasting fun w1 hw1 => ?_) ?_
    · clear hw1
      go_simp
      exact newR_made
    rintro v F w1 hw1
    obtain ⟨b1, rfl, rfl, -⟩ := (hw1.ents _ List.mem_cons_self).1
    clear hw1
    simp only [Act.put, List.setIfInBounds_toArray, List.set_cons_zero, List.set_cons_succ]
    refine detL_tail rfl (by kernel_rfl) fun w1 hw1 => ?_
    have e1 := hw1.ents _ List.mem_cons_self
    have e0 := hw1.ents _ (List.mem_cons_of_mem _ List.mem_cons_self)
    have B1 : At3 w1 b1 0 0 ⟨#[]⟩ := (newR_at e1.1).1
    have B0 : At3 w1 b0 0 0 ⟨#[]⟩ := (newR_at e0.1).1
    have z1 := (newR_at e1.1).2
    have z0 := (newR_at e0.1).2
    have n0 : w.heap.size ≤ b0 := Nat.le_trans hB.size (e0.2.2 b0 List.mem_cons_self).1
    have n1 : w.heap.size ≤ b1 := Nat.le_trans hB.size (e1.2.2 b1 List.mem_cons_self).1
    have ap := hw1.apart
    simp only [List.pairwise_cons, List.mem_cons, List.not_mem_nil, or_false, forall_eq] at ap
    have d10 : b1 ≠ b0 := ap.1
    have hb1 := hB.drew.trans (hw1.below.mono hB.size)
    clear hw1 e0 e1 ap hB A0 A1 hmW c0k c0i c0s l0 c1k c1i c1s l1
    have HH := Lib.hid (And.intro B0 (And.intro B1 hb1))
    have k0 := B0.k
    have i0 := B0.i
    have s0 := B0.s
    have k1 := B1.k
    have i1 := B1.i
    have s1 := B1.s
    clear B0 B1 hb1
    go_upto_region 6 with (fail)
    have B0 := HH.out.1
    have B1 := HH.out.2.1
    have hb1 := HH.out.2.2
    refine wp_gen (fun W => Below w.heap.size w W ∧ At3 W b0 3 0 ⟨#[]⟩ ∧ At3 W b1 3 0 ⟨#[]⟩) ⟨?_, ?_, ?_⟩ ?_
    · repeat (first | (with_reducible exact Below.refl _ _) | ((with_reducible refine cSet3 ?_ ?_ _ _ _); (· ((try simp) <;> omega))) | (with_reducible refine Below.drew ?_) | ((with_reducible refine cAlloc ?_ ?_ _); (· ((try simp) <;> omega))) | ((with_reducible refine cOn (by assumption) ?_ ?_); (· ((try simp) <;> omega))))
    · repeat (first | (with_reducible assumption) | (with_reducible exact Box.of (by assumption)) | ((with_reducible refine At3.new ?_); simp) | (with_reducible refine At3.drew ?_) | (with_reducible refine At3.alloc ?_ _) | (with_reducible refine Box.drew ?_) | (with_reducible refine Box.alloc ?_ _) | (with_reducible refine Box.set ?_ _ _ _) | ((with_reducible refine At3.set_other' ?_ ?_ _ _ _); (· omega)) | ((with_reducible refine Box.set_other ?_ ?_ _ _ _); (· omega)))
    · repeat (first | (with_reducible assumption) | (with_reducible exact Box.of (by assumption)) | ((with_reducible refine At3.new ?_); simp) | (with_reducible refine At3.drew ?_) | (with_reducible refine At3.alloc ?_ _) | (with_reducible refine Box.drew ?_) | (with_reducible refine Box.alloc ?_ _) | (with_reducible refine Box.set ?_ _ _ _) | ((with_reducible refine At3.set_other' ?_ ?_ _ _ _); (· omega)) | ((with_reducible refine Box.set_other ?_ ?_ _ _ _); (· omega)))
    clear k0 i0 s0 k1 i1 s1 z0 z1 B0 B1 hb1 HH n0 n1 d10
    rintro W ⟨hB, A0, A1⟩
    have c0k := A0.k
    have c0i := A0.i
    have c0s := A0.s
    have l0 := A0.lt
    have c1k := A1.k
    have c1i := A1.i
    have c1s := A1.s
    have l1 := A1.lt
    have hmW : W.cell? ⟨0, 0, none⟩ = some (.int .i64 m) := (hB.cell (p := ⟨0, 0, none⟩) hlt).trans hm
    go_wp2_with (go_at_call 20; refine (awake_any _ m hmW).mono ?_; rintro e w3 ⟨rfl, hb3⟩)
    go_ret
    exact ⟨rfl, hB.trans (hb3.mono hB.size)⟩

end Go.Proofs.YtljcdebaoceimaaDoor
