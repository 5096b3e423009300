import Derived.Test.YtlilnbcklplmfaaGreatDoorW13
import Derived.Test.YtlilnbcklplmfaaGreatDoorW11

/- SELECT * FROM t WHERE k = 1 may be. -/
namespace Go.Proofs.YtlilnbcklplmfaaGreatDoor
open Go.RowKit Go.Lib

set_option maxRecDepth 100000 in
set_option maxHeartbeats 4000000 in
theorem xtext_ke (Q : Nat → Prop) (u : Value) (w : World) (ht : Tr w Q 1 keT u) (hl : LibE w) : Calls Tryz.prog 226 #[.agg #[.string ⟨#[61]⟩, .int .i64 0, .int .i64 0, .string ⟨#[]⟩, .string ⟨#[]⟩, u]] w fun e w' => e = .returned (.tuple #[.string ⟨#[40, 107, 32, 61, 32, 49, 41]⟩, .int .i64 0]) ∧ Below w.heap.size w w' := by
  have HT := Lib.hid (And.intro ht hl)
  clear ht hl
  have HB0 : Hid (Below w.heap.size w (w.alloc (.cells #[.string ⟨#[61]⟩, .int .i64 0, .int .i64 0, .string ⟨#[]⟩, .string ⟨#[]⟩, u] 30))) := (Below.refl _ _).alloc (Nat.le_refl _) _
  go_enter Tryz.func226, Tryz.ntmps226
  go_wp2_with (first
    | (go_at_call 35; (with_reducible refine (xmay_ke Q 1 u _ (HT.out.1.below HB0.out)).mono ?_); rintro e w1 ⟨rfl, hb1⟩; have HB1 : Hid (Below w.heap.size w w1) := HB0.out.trans (hb1.mono (by simp)); have EK := hb1.block w.heap.size (by simp); rw [alloc_at rfl _] at EK; have k0 := Lib.cell_of_heap EK 0; have k1 := Lib.cell_of_heap EK 1; have k2 := Lib.cell_of_heap EK 2; have k3 := Lib.cell_of_heap EK 3; have k4 := Lib.cell_of_heap EK 4; have k5 := Lib.cell_of_heap EK 5; simp only [List.getElem?_toArray, List.getElem?_cons_zero, List.getElem?_cons_succ] at k0 k1 k2 k3 k4 k5; clear hb1 EK)
    | (go_at_call 248; (with_reducible refine (written_ke Q 0 u w1 (HT.out.1.below HB1.out) (HT.out.2.keep HB1.out (Nat.le_refl _))).mono ?_); rintro e w2 ⟨rfl, hb2⟩; have HB2 : Hid (Below w.heap.size w w2) := HB1.out.trans (hb2.mono HB1.out.size); clear hb2))
  go_ret2
  exact ⟨rfl, HB2.out⟩
set_option maxRecDepth 100000 in
set_option maxHeartbeats 4000000 in
theorem exprText_ke (Q : Nat → Prop) (u : Value) (w : World) (ht : Tr w Q 1 keT u) (hl : LibE w) : Calls Tryz.prog 201 #[.agg #[.string ⟨#[61]⟩, .int .i64 0, .int .i64 0, .string ⟨#[]⟩, .string ⟨#[]⟩, u]] w fun e w' => e = .returned (.string ⟨#[40, 107, 32, 61, 32, 49, 41]⟩) ∧ Below w.heap.size w w' := by
  have HT := Lib.hid (And.intro ht hl)
  clear ht hl
  have HB0 : Hid (Below w.heap.size w (w.alloc (.cells #[.string ⟨#[61]⟩, .int .i64 0, .int .i64 0, .string ⟨#[]⟩, .string ⟨#[]⟩, u] 30))) := (Below.refl _ _).alloc (Nat.le_refl _) _
  go_enter Tryz.func201, Tryz.ntmps201
  go_wp2_with (go_at_call 226; (with_reducible refine (xtext_ke Q u _ (HT.out.1.below HB0.out) (HT.out.2.keep HB0.out (Nat.le_refl _))).mono ?_); rintro e w1 ⟨rfl, hb1⟩; have HB1 : Hid (Below w.heap.size w w1) := HB0.out.trans (hb1.mono (by simp)); clear hb1)
  go_ret
  exact ⟨rfl, HB1.out⟩
set_option maxRecDepth 100000 in
set_option maxHeartbeats 4000000 in
theorem where_ke (Q : Nat → Prop) (u : Value) (w : World) (ht : Tr w Q 1 keT u) (hl : LibE w) : Calls Tryz.prog 155 #[.agg #[.string ⟨#[61]⟩, .int .i64 0, .int .i64 0, .string ⟨#[]⟩, .string ⟨#[]⟩, u]] w fun e w' => e = .returned (.string ⟨#[32, 87, 72, 69, 82, 69, 32, 40, 107, 32, 61, 32, 49, 41]⟩) ∧ Below w.heap.size w w' := by
  have HT := Lib.hid (And.intro ht hl)
  clear ht hl
  have HB0 : Hid (Below w.heap.size w (w.alloc (.cells #[.string ⟨#[61]⟩, .int .i64 0, .int .i64 0, .string ⟨#[]⟩, .string ⟨#[]⟩, u] 30))) := (Below.refl _ _).alloc (Nat.le_refl _) _
  go_enter Tryz.func155, Tryz.ntmps155
  go_wp2_with (first
    | (go_at_call 202; (with_reducible refine (none_ke u _).mono ?_); rintro e w1 ⟨rfl, hb1⟩; have HB1 : Hid (Below w.heap.size w w1) := HB0.out.trans (hb1.mono (by simp)); have EK := hb1.block w.heap.size (by simp); rw [alloc_at rfl _] at EK; have k0 := Lib.cell_of_heap EK 0; have k1 := Lib.cell_of_heap EK 1; have k2 := Lib.cell_of_heap EK 2; have k3 := Lib.cell_of_heap EK 3; have k4 := Lib.cell_of_heap EK 4; have k5 := Lib.cell_of_heap EK 5; simp only [List.getElem?_toArray, List.getElem?_cons_zero, List.getElem?_cons_succ] at k0 k1 k2 k3 k4 k5; clear hb1 EK)
    | (go_at_call 201; (with_reducible refine (exprText_ke Q u w1 (HT.out.1.below HB1.out) (HT.out.2.keep HB1.out (Nat.le_refl _))).mono ?_); rintro e w2 ⟨rfl, hb2⟩; have HB2 : Hid (Below w.heap.size w w2) := HB1.out.trans (hb2.mono HB1.out.size); clear hb2))
  go_ret
  exact ⟨rfl, HB2.out⟩
set_option maxRecDepth 100000 in
set_option maxHeartbeats 4000000 in
theorem written_sel (Q : Nat → Prop) (u : Value) (w : World) (ht : Tr w Q 1 keT u) (hl : LibE w) : Calls Tryz.prog 103 #[.agg #[.string ⟨#[115, 101, 108, 101, 99, 116]⟩, .string ⟨#[116]⟩, .string ⟨#[]⟩, .slice none 0 0, .slice none 0 0, .string ⟨#[]⟩, .slice none 0 0, .slice none 0 0, .string ⟨#[]⟩, .int .i64 0, .int .i64 0, .string ⟨#[]⟩, .string ⟨#[]⟩, .slice none 0 0, .slice none 0 0, .slice none 0 0, .string ⟨#[61]⟩, .int .i64 0, .int .i64 0, .string ⟨#[]⟩, .string ⟨#[]⟩, u, .string ⟨#[]⟩]] w fun e w' => e = .returned (.string ⟨#[83, 69, 76, 69, 67, 84, 32, 42, 32, 70, 82, 79, 77, 32, 116, 32, 87, 72, 69, 82, 69, 32, 40, 107, 32, 61, 32, 49, 41]⟩) ∧ Below w.heap.size w w' := by
  have HT := Lib.hid (And.intro ht hl)
  clear ht hl
  have HB0 : Hid (Below w.heap.size w (w.alloc (.cells #[.string ⟨#[115, 101, 108, 101, 99, 116]⟩, .string ⟨#[116]⟩, .string ⟨#[]⟩, .slice none 0 0, .slice none 0 0, .string ⟨#[]⟩, .slice none 0 0, .slice none 0 0, .string ⟨#[]⟩, .int .i64 0, .int .i64 0, .string ⟨#[]⟩, .string ⟨#[]⟩, .slice none 0 0, .slice none 0 0, .slice none 0 0, .string ⟨#[61]⟩, .int .i64 0, .int .i64 0, .string ⟨#[]⟩, .string ⟨#[]⟩, u, .string ⟨#[]⟩] 34))) := (Below.refl _ _).alloc (Nat.le_refl _) _
  go_enter Tryz.func103, Tryz.ntmps103
  go_upto_region 13 with (fail)
  refine detL_begin [.val (.pointer (some ⟨w.heap.size, 1, none⟩)), .val (.string ⟨#[116]⟩), .val (.string ⟨#[83, 69, 76, 69, 67, 84, 32, 42, 32, 70, 82, 79, 77, 32, 116]⟩), .val (.pointer (some ⟨w.heap.size, 16, none⟩)), .val (.agg #[.string ⟨#[61]⟩, .int .i64 0, .int .i64 0, .string ⟨#[]⟩, .string ⟨#[]⟩, u]), .val (.string ⟨#[32, 87, 72, 69, 82, 69, 32, 40, 107, 32, 61, 32, 49, 41]⟩), .val (.string ⟨#[83, 69, 76, 69, 67, 84, 32, 42, 32, 70, 82, 79, 77, 32, 116, 32, 87, 72, 69, 82, 69, 32, 40, 107, 32, 61, 32, 49, 41]⟩), .val (.string ⟨#[83, 69, 76, 69, 67, 84, 32, 42, 32, 70, 82, 79, 77, 32, 116, 32, 87, 72, 69, 82, 69, 32, 40, 107, 32, 61, 32, 49, 41]⟩)] 8 (by kernel_rfl) ?_
  refine detL_val (by kernel_rfl) (yields_of rfl fun w1 hb1 => ?_) ?_
  · have hc1 := bcellD hb1
    clear hb1
    go_simp
    exact Det1_same
  simp only [Act.put, List.setIfInBounds_toArray, List.set_cons_zero, List.set_cons_succ]
  refine detL_val (by kernel_rfl) (yields_of rfl fun w1 hb1 => ?_) ?_
  · have hc1 := bcellD hb1
    clear hb1
    go_simp
    exact Det1_same
  simp only [Act.put, List.setIfInBounds_toArray, List.set_cons_zero, List.set_cons_succ]
  refine detL_val (by kernel_rfl) (yields_of rfl fun w1 hb1 => ?_) ?_
  · have hc1 := bcellD hb1
    clear hb1
    go_simp
    exact Det1_same
  simp only [Act.put, List.setIfInBounds_toArray, List.set_cons_zero, List.set_cons_succ]
  refine detL_val (by kernel_rfl) (yields_of rfl fun w1 hb1 => ?_) ?_
  · have hc1 := bcellD hb1
    clear hb1
    go_simp
    exact Det1_same
  simp only [Act.put, List.setIfInBounds_toArray, List.set_cons_zero, List.set_cons_succ]
  refine detL_val (by kernel_rfl) (yields_of rfl fun w1 hb1 => ?_) ?_
  · have hc1 := bcellD hb1
    clear hb1
    go_simp
    exact Det1_same
  simp only [Act.put, List.setIfInBounds_toArray, List.set_cons_zero, List.set_cons_succ]
  refine detL_val (by kernel_rfl) (yields_of rfl fun w1 hb1 => ?_) ?_
  · have hc1 := bcellD hb1
    have HB1 : Hid (Below w.heap.size w w1) := HB0.out.drew.trans (hb1.mono (by simp))
    clear hb1
    go_simp
    exact Det1_enter (where_ke Q u w1 (HT.out.1.below HB1.out) (HT.out.2.keep HB1.out (Nat.le_refl _)))
  simp only [Act.put, List.setIfInBounds_toArray, List.set_cons_zero, List.set_cons_succ]
  refine detL_val (by kernel_rfl) (yields_of rfl fun w1 hb1 => ?_) ?_
  · have hc1 := bcellD hb1
    clear hb1
    go_simp
    exact Det1_same
  simp only [Act.put, List.setIfInBounds_toArray, List.set_cons_zero, List.set_cons_succ]
  refine detL_val (by kernel_rfl) (yields_of rfl fun w1 hb1 => ?_) ?_
  · have hc1 := bcellD hb1
    clear hb1
    go_simp
    exact Det1_same
  simp only [Act.put, List.setIfInBounds_toArray, List.set_cons_zero, List.set_cons_succ]
  refine detL_done (by kernel_rfl) fun w1 hw1 => ?_
  have HB1 : Hid (Below w.heap.size w w1) := HB0.out.drew.trans (hw1.below.mono (by simp))
  clear hw1
  go_wp2
  go_ret
  exact ⟨rfl, HB1.out⟩
set_option maxRecDepth 100000 in
set_option maxHeartbeats 4000000 in
theorem filled_sel (Q : Nat → Prop) (u : Value) (w : World) (ht : Tr w Q 1 keT u) : Calls Tryz.prog 146 #[.agg #[.string ⟨#[115, 101, 108, 101, 99, 116]⟩, .string ⟨#[116]⟩, .string ⟨#[]⟩, .slice none 0 0, .slice none 0 0, .string ⟨#[]⟩, .slice none 0 0, .slice none 0 0, .string ⟨#[]⟩, .int .i64 0, .int .i64 0, .string ⟨#[]⟩, .string ⟨#[]⟩, .slice none 0 0, .slice none 0 0, .slice none 0 0, .string ⟨#[61]⟩, .int .i64 0, .int .i64 0, .string ⟨#[]⟩, .string ⟨#[]⟩, u, .string ⟨#[]⟩]] w fun e w' => e = .returned (.bool true) ∧ Below w.heap.size w w' := by
  have HT := Lib.hid ht
  clear ht
  have HB0 : Hid (Below w.heap.size w (w.alloc (.cells #[.string ⟨#[115, 101, 108, 101, 99, 116]⟩, .string ⟨#[116]⟩, .string ⟨#[]⟩, .slice none 0 0, .slice none 0 0, .string ⟨#[]⟩, .slice none 0 0, .slice none 0 0, .string ⟨#[]⟩, .int .i64 0, .int .i64 0, .string ⟨#[]⟩, .string ⟨#[]⟩, .slice none 0 0, .slice none 0 0, .slice none 0 0, .string ⟨#[61]⟩, .int .i64 0, .int .i64 0, .string ⟨#[]⟩, .string ⟨#[]⟩, u, .string ⟨#[]⟩] 34))) := (Below.refl _ _).alloc (Nat.le_refl _) _
  go_enter Tryz.func146, Tryz.ntmps146
  go_wp2_with (go_at_call 187; (with_reducible refine (optional_ke Q 1 u _ (HT.out.below HB0.out)).mono ?_); rintro e w1 ⟨rfl, hb1⟩; have HB1 : Hid (Below w.heap.size w w1) := HB0.out.trans (hb1.mono (by simp)); clear hb1)
  go_ret
  exact ⟨rfl, HB1.out⟩
set_option maxRecDepth 100000 in
set_option maxHeartbeats 4000000 in
theorem rest_sel (u : Value) (w : World) : Calls Tryz.prog 148 #[.agg #[.string ⟨#[115, 101, 108, 101, 99, 116]⟩, .string ⟨#[116]⟩, .string ⟨#[]⟩, .slice none 0 0, .slice none 0 0, .string ⟨#[]⟩, .slice none 0 0, .slice none 0 0, .string ⟨#[]⟩, .int .i64 0, .int .i64 0, .string ⟨#[]⟩, .string ⟨#[]⟩, .slice none 0 0, .slice none 0 0, .slice none 0 0, .string ⟨#[61]⟩, .int .i64 0, .int .i64 0, .string ⟨#[]⟩, .string ⟨#[]⟩, u, .string ⟨#[]⟩]] w fun e w' => e = .returned (.agg #[.string ⟨#[]⟩, .string ⟨#[]⟩, .string ⟨#[]⟩, .slice none 0 0, .slice none 0 0, .string ⟨#[]⟩, .slice none 0 0, .slice none 0 0, .string ⟨#[]⟩, .int .i64 0, .int .i64 0, .string ⟨#[]⟩, .string ⟨#[]⟩, .slice none 0 0, .slice none 0 0, .slice none 0 0, .string ⟨#[]⟩, .int .i64 0, .int .i64 0, .string ⟨#[]⟩, .string ⟨#[]⟩, .slice none 0 0, .string ⟨#[]⟩]) ∧ Below w.heap.size w w' := by
  go_enter Tryz.func148, Tryz.ntmps148
  go_upto_region 22 with (fail)
  refine wp_gen (Bx2 w) (Bx2.start w) fun w1 h1 => ?_
  have H1 := Lib.hid h1
  clear h1
  have b1 := H1.out.a
  have b2 := H1.out.b
  go_wp2_with (first
    | (refine wpList_load_row rfl 34 (.tmp 1) rfl w.heap.size rfl 34 #[.string ⟨#[]⟩, .string ⟨#[]⟩, .string ⟨#[]⟩, .slice none 0 0, .slice none 0 0, .string ⟨#[]⟩, .slice none 0 0, .slice none 0 0, .string ⟨#[]⟩, .int .i64 0, .int .i64 0, .string ⟨#[]⟩, .string ⟨#[]⟩, .slice none 0 0, .slice none 0 0, .slice none 0 0, .string ⟨#[]⟩, .int .i64 0, .int .i64 0, .string ⟨#[]⟩, .string ⟨#[]⟩, .slice none 0 0, .string ⟨#[]⟩] (0, 0) _ b1 Tryz.underlying34 rfl stSize ?_)
    | (refine wpList_store_row rfl 34 (.tmp 2) (.tmp 48) rfl (w.heap.size + 1) #[.string ⟨#[]⟩, .string ⟨#[]⟩, .string ⟨#[]⟩, .slice none 0 0, .slice none 0 0, .string ⟨#[]⟩, .slice none 0 0, .slice none 0 0, .string ⟨#[]⟩, .int .i64 0, .int .i64 0, .string ⟨#[]⟩, .string ⟨#[]⟩, .slice none 0 0, .slice none 0 0, .slice none 0 0, .string ⟨#[]⟩, .int .i64 0, .int .i64 0, .string ⟨#[]⟩, .string ⟨#[]⟩, .slice none 0 0, .string ⟨#[]⟩] rfl rfl 34 _ b2 stSize rfl (rt_one _ _ _) ?_))
  refine bodyPost_ret (results_cell_row rfl _ _ (w.heap.size + 1) 34 #[.string ⟨#[]⟩, .string ⟨#[]⟩, .string ⟨#[]⟩, .slice none 0 0, .slice none 0 0, .string ⟨#[]⟩, .slice none 0 0, .slice none 0 0, .string ⟨#[]⟩, .int .i64 0, .int .i64 0, .string ⟨#[]⟩, .string ⟨#[]⟩, .slice none 0 0, .slice none 0 0, .slice none 0 0, .string ⟨#[]⟩, .int .i64 0, .int .i64 0, .string ⟨#[]⟩, .string ⟨#[]⟩, .slice none 0 0, .string ⟨#[]⟩] (0, 0) _ rfl (setRow_heap _ _ _ _ _ _ b2) Tryz.underlying34 rfl stSize) rfl ⟨rfl, below_row H1.out.lo _ (by omega)⟩
theorem nmB_t : nmB ⟨#[116]⟩ = true := by
  unfold nmB
  rw [res_no (by decide), show nameB ⟨#[116]⟩ = true by decide]
  rfl
def tsS2 : List Tk := [⟨1, [83, 69, 76, 69, 67, 84]⟩, ⟨4, [42]⟩, ⟨1, [70, 82, 79, 77]⟩, ⟨1, [116]⟩, ⟨1, [87, 72, 69, 82, 69]⟩, ⟨4, [40]⟩, ⟨1, [107]⟩, ⟨4, [61]⟩, ⟨2, [49]⟩, ⟨4, [41]⟩]
theorem cut_sel : cutR (⟨#[83, 69, 76, 69, 67, 84, 32, 42, 32, 70, 82, 79, 77, 32, 116, 32, 87, 72, 69, 82, 69, 32, 40, 107, 32, 61, 32, 49, 41]⟩ : ByteArray).data.toList = some tsS2 := by kernel_rfl
set_option maxRecDepth 100000 in
set_option maxHeartbeats 4000000 in
theorem formed_sel (Q : Nat → Prop) (u : Value) (w : World) (ht : Tr w Q 1 keT u) (hl : LibE w) : Calls Tryz.prog 102 #[.agg #[.string ⟨#[115, 101, 108, 101, 99, 116]⟩, .string ⟨#[116]⟩, .string ⟨#[]⟩, .slice none 0 0, .slice none 0 0, .string ⟨#[]⟩, .slice none 0 0, .slice none 0 0, .string ⟨#[]⟩, .int .i64 0, .int .i64 0, .string ⟨#[]⟩, .string ⟨#[]⟩, .slice none 0 0, .slice none 0 0, .slice none 0 0, .string ⟨#[61]⟩, .int .i64 0, .int .i64 0, .string ⟨#[]⟩, .string ⟨#[]⟩, u, .string ⟨#[]⟩]] w fun e w' => e = .returned (.bool true) ∧ Below w.heap.size w w' := by
  have HT := Lib.hid (And.intro ht hl)
  clear ht hl
  have H0 : Hid (Below w.heap.size w (w.alloc (.cells #[.string ⟨#[115, 101, 108, 101, 99, 116]⟩, .string ⟨#[116]⟩, .string ⟨#[]⟩, .slice none 0 0, .slice none 0 0, .string ⟨#[]⟩, .slice none 0 0, .slice none 0 0, .string ⟨#[]⟩, .int .i64 0, .int .i64 0, .string ⟨#[]⟩, .string ⟨#[]⟩, .slice none 0 0, .slice none 0 0, .slice none 0 0, .string ⟨#[61]⟩, .int .i64 0, .int .i64 0, .string ⟨#[]⟩, .string ⟨#[]⟩, u, .string ⟨#[]⟩] 34)) ∧ (w.alloc (.cells #[.string ⟨#[115, 101, 108, 101, 99, 116]⟩, .string ⟨#[116]⟩, .string ⟨#[]⟩, .slice none 0 0, .slice none 0 0, .string ⟨#[]⟩, .slice none 0 0, .slice none 0 0, .string ⟨#[]⟩, .int .i64 0, .int .i64 0, .string ⟨#[]⟩, .string ⟨#[]⟩, .slice none 0 0, .slice none 0 0, .slice none 0 0, .string ⟨#[61]⟩, .int .i64 0, .int .i64 0, .string ⟨#[]⟩, .string ⟨#[]⟩, u, .string ⟨#[]⟩] 34)).heap[w.heap.size]? = some (.cells #[.string ⟨#[115, 101, 108, 101, 99, 116]⟩, .string ⟨#[116]⟩, .string ⟨#[]⟩, .slice none 0 0, .slice none 0 0, .string ⟨#[]⟩, .slice none 0 0, .slice none 0 0, .string ⟨#[]⟩, .int .i64 0, .int .i64 0, .string ⟨#[]⟩, .string ⟨#[]⟩, .slice none 0 0, .slice none 0 0, .slice none 0 0, .string ⟨#[61]⟩, .int .i64 0, .int .i64 0, .string ⟨#[]⟩, .string ⟨#[]⟩, u, .string ⟨#[]⟩] 34 (0, 0))) := ⟨(Below.refl _ _).alloc (Nat.le_refl _) _, alloc_at rfl _⟩
  have hbx := H0.out.2
  have STEP : Hid (∀ W W' : World, (Below w.heap.size w W ∧ W.heap[w.heap.size]? = some (.cells #[.string ⟨#[115, 101, 108, 101, 99, 116]⟩, .string ⟨#[116]⟩, .string ⟨#[]⟩, .slice none 0 0, .slice none 0 0, .string ⟨#[]⟩, .slice none 0 0, .slice none 0 0, .string ⟨#[]⟩, .int .i64 0, .int .i64 0, .string ⟨#[]⟩, .string ⟨#[]⟩, .slice none 0 0, .slice none 0 0, .slice none 0 0, .string ⟨#[61]⟩, .int .i64 0, .int .i64 0, .string ⟨#[]⟩, .string ⟨#[]⟩, u, .string ⟨#[]⟩] 34 (0, 0))) → Below W.heap.size W W' → (Below w.heap.size w W' ∧ W'.heap[w.heap.size]? = some (.cells #[.string ⟨#[115, 101, 108, 101, 99, 116]⟩, .string ⟨#[116]⟩, .string ⟨#[]⟩, .slice none 0 0, .slice none 0 0, .string ⟨#[]⟩, .slice none 0 0, .slice none 0 0, .string ⟨#[]⟩, .int .i64 0, .int .i64 0, .string ⟨#[]⟩, .string ⟨#[]⟩, .slice none 0 0, .slice none 0 0, .slice none 0 0, .string ⟨#[61]⟩, .int .i64 0, .int .i64 0, .string ⟨#[]⟩, .string ⟨#[]⟩, u, .string ⟨#[]⟩] 34 (0, 0)))) := Lib.hid fun W W' h hb => ⟨h.1.trans (hb.mono h.1.size), (hb.block _ (lt_of_block h.2)).trans h.2⟩
  go_enter Tryz.func102, Tryz.ntmps102
  go_wp2_with (first
    | (go_at_call 137; (with_reducible refine (named_any ⟨#[116]⟩ _ (by decide)).mono ?_); rintro e w1 ⟨rfl, hb1⟩; rw [nmB_t]; have H0 := Lib.hid (STEP.out _ _ H0.out hb1); have hbx := H0.out.2; clear hb1)
    | (go_at_call 146; (with_reducible refine (filled_sel Q u _ (HT.out.1.below H0.out.1)).mono ?_); rintro e w1 ⟨rfl, hb1⟩; have H0 := Lib.hid (STEP.out _ _ H0.out hb1); have hbx := H0.out.2; clear hb1)
    | (go_at_call 148; (with_reducible refine (rest_sel u _).mono ?_); rintro e w1 ⟨rfl, hb1⟩; have H0 := Lib.hid (STEP.out _ _ H0.out hb1); have hbx := H0.out.2; clear hb1)
    | (go_at_call 147; (with_reducible refine (ssame_nil _).mono ?_); rintro e w1 ⟨rfl, hb1⟩; have H0 := Lib.hid (STEP.out _ _ H0.out hb1); have hbx := H0.out.2; clear hb1)
    | (refine wpList_load_row_on rfl 34 (.tmp 1) rfl w.heap.size rfl 34 #[.string ⟨#[115, 101, 108, 101, 99, 116]⟩, .string ⟨#[116]⟩, .string ⟨#[]⟩, .slice none 0 0, .slice none 0 0, .string ⟨#[]⟩, .slice none 0 0, .slice none 0 0, .string ⟨#[]⟩, .int .i64 0, .int .i64 0, .string ⟨#[]⟩, .string ⟨#[]⟩, .slice none 0 0, .slice none 0 0, .slice none 0 0, .string ⟨#[61]⟩, .int .i64 0, .int .i64 0, .string ⟨#[]⟩, .string ⟨#[]⟩, u, .string ⟨#[]⟩] (0, 0) _ hbx Tryz.underlying34 rfl stSize ?_)
    | (refine wpList_buildTo_on rfl 34 _ rfl _ rfl #[.string ⟨#[]⟩, .string ⟨#[]⟩, .string ⟨#[]⟩, .slice none 0 0, .slice none 0 0, .string ⟨#[]⟩, .slice none 0 0, .slice none 0 0, .string ⟨#[]⟩, .int .i64 0, .int .i64 0, .string ⟨#[]⟩, .string ⟨#[]⟩, .slice none 0 0, .slice none 0 0, .slice none 0 0, .string ⟨#[]⟩, .int .i64 0, .int .i64 0, .string ⟨#[]⟩, .string ⟨#[]⟩, .slice none 0 0, .string ⟨#[]⟩] (by as_aux_lemma => kernel_rfl) ?_))
  go_ret
  exact ⟨rfl, H0.out.1⟩
set_option maxRecDepth 100000 in
set_option maxHeartbeats 4000000 in
theorem text_sel (Q : Nat → Prop) (u : Value) (w : World) (ht : Tr w Q 1 keT u) (hl : LibE w) : Calls Tryz.prog 51 #[.agg #[.string ⟨#[115, 101, 108, 101, 99, 116]⟩, .string ⟨#[116]⟩, .string ⟨#[]⟩, .slice none 0 0, .slice none 0 0, .string ⟨#[]⟩, .slice none 0 0, .slice none 0 0, .string ⟨#[]⟩, .int .i64 0, .int .i64 0, .string ⟨#[]⟩, .string ⟨#[]⟩, .slice none 0 0, .slice none 0 0, .slice none 0 0, .string ⟨#[61]⟩, .int .i64 0, .int .i64 0, .string ⟨#[]⟩, .string ⟨#[]⟩, u, .string ⟨#[]⟩]] w fun e w' => e = .returned (.tuple #[.string ⟨#[83, 69, 76, 69, 67, 84, 32, 42, 32, 70, 82, 79, 77, 32, 116, 32, 87, 72, 69, 82, 69, 32, 40, 107, 32, 61, 32, 49, 41]⟩, .int .i64 0]) ∧ Below w.heap.size w w' := by
  have HT := Lib.hid (And.intro ht hl)
  clear ht hl
  have HC : Hid (cutR (⟨#[83, 69, 76, 69, 67, 84, 32, 42, 32, 70, 82, 79, 77, 32, 116, 32, 87, 72, 69, 82, 69, 32, 40, 107, 32, 61, 32, 49, 41]⟩ : ByteArray).data.toList = some tsS2) := Lib.hid cut_sel
  have H0 : Hid (Below w.heap.size w (w.alloc (.cells #[.string ⟨#[115, 101, 108, 101, 99, 116]⟩, .string ⟨#[116]⟩, .string ⟨#[]⟩, .slice none 0 0, .slice none 0 0, .string ⟨#[]⟩, .slice none 0 0, .slice none 0 0, .string ⟨#[]⟩, .int .i64 0, .int .i64 0, .string ⟨#[]⟩, .string ⟨#[]⟩, .slice none 0 0, .slice none 0 0, .slice none 0 0, .string ⟨#[61]⟩, .int .i64 0, .int .i64 0, .string ⟨#[]⟩, .string ⟨#[]⟩, u, .string ⟨#[]⟩] 34)) ∧ (w.alloc (.cells #[.string ⟨#[115, 101, 108, 101, 99, 116]⟩, .string ⟨#[116]⟩, .string ⟨#[]⟩, .slice none 0 0, .slice none 0 0, .string ⟨#[]⟩, .slice none 0 0, .slice none 0 0, .string ⟨#[]⟩, .int .i64 0, .int .i64 0, .string ⟨#[]⟩, .string ⟨#[]⟩, .slice none 0 0, .slice none 0 0, .slice none 0 0, .string ⟨#[61]⟩, .int .i64 0, .int .i64 0, .string ⟨#[]⟩, .string ⟨#[]⟩, u, .string ⟨#[]⟩] 34)).heap[w.heap.size]? = some (.cells #[.string ⟨#[115, 101, 108, 101, 99, 116]⟩, .string ⟨#[116]⟩, .string ⟨#[]⟩, .slice none 0 0, .slice none 0 0, .string ⟨#[]⟩, .slice none 0 0, .slice none 0 0, .string ⟨#[]⟩, .int .i64 0, .int .i64 0, .string ⟨#[]⟩, .string ⟨#[]⟩, .slice none 0 0, .slice none 0 0, .slice none 0 0, .string ⟨#[61]⟩, .int .i64 0, .int .i64 0, .string ⟨#[]⟩, .string ⟨#[]⟩, u, .string ⟨#[]⟩] 34 (0, 0))) := ⟨(Below.refl _ _).alloc (Nat.le_refl _) _, alloc_at rfl _⟩
  have hbx := H0.out.2
  have STEP : Hid (∀ W W' : World, (Below w.heap.size w W ∧ W.heap[w.heap.size]? = some (.cells #[.string ⟨#[115, 101, 108, 101, 99, 116]⟩, .string ⟨#[116]⟩, .string ⟨#[]⟩, .slice none 0 0, .slice none 0 0, .string ⟨#[]⟩, .slice none 0 0, .slice none 0 0, .string ⟨#[]⟩, .int .i64 0, .int .i64 0, .string ⟨#[]⟩, .string ⟨#[]⟩, .slice none 0 0, .slice none 0 0, .slice none 0 0, .string ⟨#[61]⟩, .int .i64 0, .int .i64 0, .string ⟨#[]⟩, .string ⟨#[]⟩, u, .string ⟨#[]⟩] 34 (0, 0))) → Below W.heap.size W W' → (Below w.heap.size w W' ∧ W'.heap[w.heap.size]? = some (.cells #[.string ⟨#[115, 101, 108, 101, 99, 116]⟩, .string ⟨#[116]⟩, .string ⟨#[]⟩, .slice none 0 0, .slice none 0 0, .string ⟨#[]⟩, .slice none 0 0, .slice none 0 0, .string ⟨#[]⟩, .int .i64 0, .int .i64 0, .string ⟨#[]⟩, .string ⟨#[]⟩, .slice none 0 0, .slice none 0 0, .slice none 0 0, .string ⟨#[61]⟩, .int .i64 0, .int .i64 0, .string ⟨#[]⟩, .string ⟨#[]⟩, u, .string ⟨#[]⟩] 34 (0, 0)))) := Lib.hid fun W W' h hb => ⟨h.1.trans (hb.mono h.1.size), (hb.block _ (lt_of_block h.2)).trans h.2⟩
  go_enter Tryz.func51, Tryz.ntmps51
  go_wp2_with (first
    | (go_at_call 102; (with_reducible refine (formed_sel Q u _ (HT.out.1.below H0.out.1) (HT.out.2.keep H0.out.1 (Nat.le_refl _))).mono ?_); rintro e w1 ⟨rfl, hb1⟩; have H0 := Lib.hid (STEP.out _ _ H0.out hb1); have hbx := H0.out.2; clear hb1)
    | (go_at_call 103; (with_reducible refine (written_sel Q u _ (HT.out.1.below H0.out.1) (HT.out.2.keep H0.out.1 (Nat.le_refl _))).mono ?_); rintro e w1 ⟨rfl, hb1⟩; have H0 := Lib.hid (STEP.out _ _ H0.out hb1); have hbx := H0.out.2; clear hb1)
    | (go_at_call 17; (with_reducible refine (cut_ok ⟨#[83, 69, 76, 69, 67, 84, 32, 42, 32, 70, 82, 79, 77, 32, 116, 32, 87, 72, 69, 82, 69, 32, 40, 107, 32, 61, 32, 49, 41]⟩ _ (by decide) (HT.out.2.keep H0.out.1 (Nat.le_refl _)) _ HC.out).mono ?_); rintro e w1 ⟨vv, rfl, _, hb1⟩; have H0 := Lib.hid (STEP.out _ _ H0.out hb1); have hbx := H0.out.2; clear hb1)
    | (refine wpList_load_row_on rfl 34 (.tmp 1) rfl w.heap.size rfl 34 #[.string ⟨#[115, 101, 108, 101, 99, 116]⟩, .string ⟨#[116]⟩, .string ⟨#[]⟩, .slice none 0 0, .slice none 0 0, .string ⟨#[]⟩, .slice none 0 0, .slice none 0 0, .string ⟨#[]⟩, .int .i64 0, .int .i64 0, .string ⟨#[]⟩, .string ⟨#[]⟩, .slice none 0 0, .slice none 0 0, .slice none 0 0, .string ⟨#[61]⟩, .int .i64 0, .int .i64 0, .string ⟨#[]⟩, .string ⟨#[]⟩, u, .string ⟨#[]⟩] (0, 0) _ hbx Tryz.underlying34 rfl stSize ?_))
  go_ret2
  exact ⟨rfl, H0.out.1⟩
set_option maxRecDepth 100000 in
set_option maxHeartbeats 4000000 in
theorem may_sel (Q : Nat → Prop) (u : Value) (w : World) (ht : Tr w Q 1 keT u) (hl : LibE w) : Calls Tryz.prog 19 #[.agg #[.string ⟨#[115, 101, 108, 101, 99, 116]⟩, .string ⟨#[116]⟩, .string ⟨#[]⟩, .slice none 0 0, .slice none 0 0, .string ⟨#[]⟩, .slice none 0 0, .slice none 0 0, .string ⟨#[]⟩, .int .i64 0, .int .i64 0, .string ⟨#[]⟩, .string ⟨#[]⟩, .slice none 0 0, .slice none 0 0, .slice none 0 0, .string ⟨#[61]⟩, .int .i64 0, .int .i64 0, .string ⟨#[]⟩, .string ⟨#[]⟩, u, .string ⟨#[]⟩]] w fun e w' => e = .returned (.bool true) ∧ Below w.heap.size w w' := by
  have HT := Lib.hid (And.intro ht hl)
  clear ht hl
  have H0 : Hid (Below w.heap.size w (w.alloc (.cells #[.string ⟨#[115, 101, 108, 101, 99, 116]⟩, .string ⟨#[116]⟩, .string ⟨#[]⟩, .slice none 0 0, .slice none 0 0, .string ⟨#[]⟩, .slice none 0 0, .slice none 0 0, .string ⟨#[]⟩, .int .i64 0, .int .i64 0, .string ⟨#[]⟩, .string ⟨#[]⟩, .slice none 0 0, .slice none 0 0, .slice none 0 0, .string ⟨#[61]⟩, .int .i64 0, .int .i64 0, .string ⟨#[]⟩, .string ⟨#[]⟩, u, .string ⟨#[]⟩] 34)) ∧ (w.alloc (.cells #[.string ⟨#[115, 101, 108, 101, 99, 116]⟩, .string ⟨#[116]⟩, .string ⟨#[]⟩, .slice none 0 0, .slice none 0 0, .string ⟨#[]⟩, .slice none 0 0, .slice none 0 0, .string ⟨#[]⟩, .int .i64 0, .int .i64 0, .string ⟨#[]⟩, .string ⟨#[]⟩, .slice none 0 0, .slice none 0 0, .slice none 0 0, .string ⟨#[61]⟩, .int .i64 0, .int .i64 0, .string ⟨#[]⟩, .string ⟨#[]⟩, u, .string ⟨#[]⟩] 34)).heap[w.heap.size]? = some (.cells #[.string ⟨#[115, 101, 108, 101, 99, 116]⟩, .string ⟨#[116]⟩, .string ⟨#[]⟩, .slice none 0 0, .slice none 0 0, .string ⟨#[]⟩, .slice none 0 0, .slice none 0 0, .string ⟨#[]⟩, .int .i64 0, .int .i64 0, .string ⟨#[]⟩, .string ⟨#[]⟩, .slice none 0 0, .slice none 0 0, .slice none 0 0, .string ⟨#[61]⟩, .int .i64 0, .int .i64 0, .string ⟨#[]⟩, .string ⟨#[]⟩, u, .string ⟨#[]⟩] 34 (0, 0))) := ⟨(Below.refl _ _).alloc (Nat.le_refl _) _, alloc_at rfl _⟩
  have hbx := H0.out.2
  have STEP : Hid (∀ W W' : World, (Below w.heap.size w W ∧ W.heap[w.heap.size]? = some (.cells #[.string ⟨#[115, 101, 108, 101, 99, 116]⟩, .string ⟨#[116]⟩, .string ⟨#[]⟩, .slice none 0 0, .slice none 0 0, .string ⟨#[]⟩, .slice none 0 0, .slice none 0 0, .string ⟨#[]⟩, .int .i64 0, .int .i64 0, .string ⟨#[]⟩, .string ⟨#[]⟩, .slice none 0 0, .slice none 0 0, .slice none 0 0, .string ⟨#[61]⟩, .int .i64 0, .int .i64 0, .string ⟨#[]⟩, .string ⟨#[]⟩, u, .string ⟨#[]⟩] 34 (0, 0))) → Below W.heap.size W W' → (Below w.heap.size w W' ∧ W'.heap[w.heap.size]? = some (.cells #[.string ⟨#[115, 101, 108, 101, 99, 116]⟩, .string ⟨#[116]⟩, .string ⟨#[]⟩, .slice none 0 0, .slice none 0 0, .string ⟨#[]⟩, .slice none 0 0, .slice none 0 0, .string ⟨#[]⟩, .int .i64 0, .int .i64 0, .string ⟨#[]⟩, .string ⟨#[]⟩, .slice none 0 0, .slice none 0 0, .slice none 0 0, .string ⟨#[61]⟩, .int .i64 0, .int .i64 0, .string ⟨#[]⟩, .string ⟨#[]⟩, u, .string ⟨#[]⟩] 34 (0, 0)))) := Lib.hid fun W W' h hb => ⟨h.1.trans (hb.mono h.1.size), (hb.block _ (lt_of_block h.2)).trans h.2⟩
  go_enter Tryz.func19, Tryz.ntmps19
  go_wp2_with (first
    | (go_at_call 51; (with_reducible refine (text_sel Q u _ (HT.out.1.below H0.out.1) (HT.out.2.keep H0.out.1 (Nat.le_refl _))).mono ?_); rintro e w1 ⟨rfl, hb1⟩; have H0 := Lib.hid (STEP.out _ _ H0.out hb1); have hbx := H0.out.2; clear hb1)
    | (refine wpList_load_row_on rfl 34 (.tmp 1) rfl w.heap.size rfl 34 #[.string ⟨#[115, 101, 108, 101, 99, 116]⟩, .string ⟨#[116]⟩, .string ⟨#[]⟩, .slice none 0 0, .slice none 0 0, .string ⟨#[]⟩, .slice none 0 0, .slice none 0 0, .string ⟨#[]⟩, .int .i64 0, .int .i64 0, .string ⟨#[]⟩, .string ⟨#[]⟩, .slice none 0 0, .slice none 0 0, .slice none 0 0, .string ⟨#[61]⟩, .int .i64 0, .int .i64 0, .string ⟨#[]⟩, .string ⟨#[]⟩, u, .string ⟨#[]⟩] (0, 0) _ hbx Tryz.underlying34 rfl stSize ?_))
  go_ret
  exact ⟨rfl, H0.out.1⟩
end Go.Proofs.YtlilnbcklplmfaaGreatDoor

/- Rows of values within a statement: may each be; their texts, listed. -/
namespace Go.Proofs.YtlilnbcklplmfaaGreatDoor
open Go.RowKit Go.Lib

set_option maxRecDepth 100000 in
set_option maxHeartbeats 4000000 in
theorem each1_ok (x : Vl) (bx : Nat) (w : World) (hb : w.heap[bx]? = some (.cells #[.func (.func 33) #[] #[]] 80 (0, 0))) (hm : mayB x.k x.i x.s = true) :
    Calls Tryz.prog 221 #[.agg #[.int .i64 x.k, .int .i64 x.i, .string x.s], .pointer (some ⟨bx, 0, none⟩)] w fun e w' => e = .returned (.bool false) ∧ Below w.heap.size w w' := by
  have c0 := Lib.cell_of_heap hb 0
  have cf := lt_of_block hb
  have HM := Lib.hid hm
  clear hb hm
  simp only [List.getElem?_toArray, List.getElem?_cons_zero] at c0
  go_enter Tryz.func221, Tryz.ntmps221
  go_wp2_with (go_at_call 33; refine (may_t x.k x.i x.s _ HM.out).mono ?_; rintro e w1 ⟨rfl, hb1⟩; have HB1 := Lib.hid hb1; clear hb1)
  go_ret
  exact ⟨rfl, ((Below.refl _ _).alloc (Nat.le_refl _) _).trans (HB1.out.mono (by simp))⟩
set_option maxRecDepth 100000 in
set_option maxHeartbeats 4000000 in
theorem vindex_no (A : Option Addr) (n cap : Nat) (l : List Vl) (bx : Nat) (w : World) (hn : n ≤ 1000) (hv : Vals w w.heap.size A n l) (hb : w.heap[bx]? = some (.cells #[.func (.func 33) #[] #[]] 80 (0, 0))) (hm : ∀ x ∈ l, mayB x.k x.i x.s = true) :
    Calls Tryz.prog 63 #[.slice A n cap, .func (.func 221) #[] #[.pointer (some ⟨bx, 0, none⟩)]] w fun e w' => e = .returned (.int .i64 (-1)) ∧ Below w.heap.size w w' := by
  have HV := Lib.hid (And.intro hv (And.intro hb hm))
  have hbl := lt_of_block hb
  clear hv hb hm
  go_enter Tryz.func63, Tryz.ntmps63
  go_wp2
  go_loopw [8] (fun i wr => ∃ k : Nat, k ≤ n ∧ i = .int .i64 k ∧ Below w.heap.size w wr) (fun i _ => n - (intOf i).toNat)
  case atStart => exact ⟨0, by omega, rfl, Below.refl _ _⟩
  case round =>
    obtain ⟨k, hk, rfl, hb⟩ := hrel
    have hbs := hb.size
    by_cases hlt : k < n
    · obtain ⟨a, x, rfl, hx, hA, hB⟩ := HV.out.1.at_ hlt
      have hA' := hA.keep hb (by rw [add_block]; exact hB)
      have ck := hA'.k
      have ci := hA'.i
      have cs := hA'.s
      have HX := Lib.hid (And.intro (List.mem_of_getElem? hx) (And.intro hb ((hb.block _ hbl).trans HV.out.2.1)))
      clear hx hA hA' hb
      go_wp2_with (go_at_call 221; refine (each1_ok x bx _ HX.out.2.2 (HV.out.2.2 x HX.out.1)).mono ?_; rintro e w1 ⟨rfl, hb1⟩; have HB1 := Lib.hid (HX.out.2.1.trans (hb1.mono hbs)); clear hb1)
      go_roundw
      case rel => exact ⟨k + 1, by omega, by go_num, HB1.out⟩
      case measure => simp [intOf]; omega
    · have HB := Lib.hid hb
      clear hb
      go_wp2
      go_ret
      exact ⟨rfl, HB.out⟩
set_option maxRecDepth 100000 in
set_option maxHeartbeats 4000000 in
theorem vcontains_no (A : Option Addr) (n cap : Nat) (l : List Vl) (bx : Nat) (w : World) (hn : n ≤ 1000) (hv : Vals w w.heap.size A n l) (hb : w.heap[bx]? = some (.cells #[.func (.func 33) #[] #[]] 80 (0, 0))) (hm : ∀ x ∈ l, mayB x.k x.i x.s = true) :
    Calls Tryz.prog 31 #[.slice A n cap, .func (.func 221) #[] #[.pointer (some ⟨bx, 0, none⟩)]] w fun e w' => e = .returned (.bool false) ∧ Below w.heap.size w w' := by
  have HV := Lib.hid (And.intro hv (And.intro hb hm))
  clear hv hb hm
  go_enter Tryz.func31, Tryz.ntmps31
  go_wp2_with (go_at_call 63; refine (vindex_no A n cap l bx _ hn HV.out.1 HV.out.2.1 HV.out.2.2).mono ?_; rintro e w1 ⟨rfl, hb1⟩; have HB1 := Lib.hid hb1; clear hb1)
  go_ret
  exact ⟨rfl, HB1.out⟩
set_option maxRecDepth 100000 in
set_option maxHeartbeats 4000000 in
theorem veach_ok (A : Option Addr) (n cap : Nat) (l : List Vl) (w : World) (h1 : 1 ≤ n) (h2 : n ≤ 12) (hv : Vals w w.heap.size A n l) (hm : ∀ x ∈ l, mayB x.k x.i x.s = true) :
    Calls Tryz.prog 188 #[.slice A n cap, .int .i64 1, .int .i64 12, .func (.func 33) #[] #[]] w fun e w' => e = .returned (.bool true) ∧ Below w.heap.size w w' := by
  have HV := Lib.hid (And.intro hv hm)
  clear hv hm
  go_enter Tryz.func188, Tryz.ntmps188
  go_wp2_with (go_at_call 31; refine (vcontains_no A n cap l w.heap.size _ (by omega) ((HV.out.1.keep ((Below.refl w.heap.size w).alloc (Nat.le_refl _) _)).more (by simp)) (alloc_at rfl _) HV.out.2).mono ?_; rintro e w1 ⟨rfl, hb1⟩; have HB1 := Lib.hid hb1; clear hb1)
  go_ret
  exact ⟨rfl, ((Below.refl _ _).alloc (Nat.le_refl _) _).trans (HB1.out.mono (by simp))⟩

/-- The text of a value, as octets. -/
def txtV (x : Vl) : ByteArray := ⟨(txtO x.k x.i x.s).toArray⟩
def txtCells (l : List Vl) : List Value := l.map fun x => .string (txtV x)
theorem txtCells_take {l : List Vl} {k : Nat} {x : Vl} (hx : l[k]? = some x) : txtCells (l.take (k + 1)) = txtCells (l.take k) ++ [.string (txtV x)] := by
  unfold txtCells
  rw [List.take_add_one, hx]
  simp
theorem infoStr1 : (Tryz.prog.info? 9).map (fun i => (i.zero, i.size, i.bytes)) = some (some (.string ⟨#[]⟩), 1, 16) := by kernel_rfl
theorem new_str {W : World} {t : TypeId} {s : ByteArray} : ∀ j u, ([.string s] : List Value)[j]? = some u → (W.alloc (.cells #[.string s] t)).cell? ((⟨W.heap.size, 0, none⟩ : Addr).add j) = some u := by
  intro j u h
  match j with
  | 0 => simp at h; subst h; simp [Addr.add, go_sem]
  | j + 1 => simp at h
theorem below_own {w W W' : World} {v : Value} (hb : Below w.heap.size w W) (hge : ∀ q, v.ownBlock = some q → w.heap.size ≤ q) (hg : W.grownBy W' v.ownBlock) : Below w.heap.size w W' :=
  ⟨hg.os.trans hb.os, hg.tape.trans hb.tape, hg.output.trans hb.output, Nat.le_trans hb.size hg.size, fun q hq => (hg.block q (by have := hb.size; omega) (fun e => by have := hge q e.symm; omega)).trans (hb.block q hq)⟩
set_option maxRecDepth 100000 in
set_option maxHeartbeats 4000000 in
theorem vlisted_ok (A : Option Addr) (n cap : Nat) (l : List Vl) (out : ByteArray) (w : World) (h0 : 0 < n) (hn : n ≤ 100) (hv : Vals w w.heap.size A n l) (hl : LibE w) (hi : ∀ x ∈ l, In64 x.i)
    (ho : (⟨(Lib.join ((l.map txtV).map (·.data.toList)) (⟨#[32, 44, 32]⟩ : ByteArray).data.toList).toArray⟩ : ByteArray) = out) (hlen : (Lib.join ((l.map txtV).map (·.data.toList)) (⟨#[32, 44, 32]⟩ : ByteArray).data.toList).length ≤ 140737488355328) :
    Calls Tryz.prog 151 #[.slice A n cap, .func (.func 152) #[] #[]] w fun e w' => e = .returned (.string out) ∧ Below w.heap.size w w' := by
  have HV := Lib.hid (And.intro hv (And.intro hl hi))
  have HO := Lib.hid (And.intro ho hlen)
  have hll : l.length = n := hv.1
  clear hv hl hi ho hlen
  obtain ⟨i0, hi0, hz0, hz1, hz2⟩ := info_parts infoStr1
  go_enter Tryz.func151, Tryz.ntmps151
  go_wp2
  go_loopw [5, 10] (fun t5 i wr => ∃ (k : Nat) (tv : Value), k ≤ n ∧ i = .int .i64 k ∧ tv = t5 ∧ Below w.heap.size w wr ∧ Hid (wr.ownsRow w.heap.size 9 1 tv k (txtCells (l.take k)))) (fun _ i _ => n - (intOf i).toNat)
  case atStart => exact ⟨0, _, by omega, rfl, rfl, Below.refl _ _, Lib.hid ⟨rfl, .inl ⟨rfl, rfl⟩⟩⟩
  case round =>
    obtain ⟨k, tv, hk, rfl, rfl, hb, HR⟩ := hrel
    have hbs := hb.size
    by_cases hlt : k < n
    · obtain ⟨a, x, rfl, hx, hA, hB⟩ := HV.out.1.at_ hlt
      have hA' := hA.keep hb (by rw [add_block]; exact hB)
      have ck := hA'.k
      have ci := hA'.i
      have cs := hA'.s
      have HX := Lib.hid (And.intro hx hb)
      clear hx hA hA' hb
      go_wp2_with (first
        | (go_at_call 152; refine (text_any x.k x.i x.s _ ((HV.out.2.1.keep HX.out.2 (Nat.le_refl _)).keep ((Below.refl wr.heap.size wr).alloc (Nat.le_refl _) _) (Nat.le_refl _)).libs (HV.out.2.2 x (List.mem_of_getElem? HX.out.1))).mono ?_; rintro e w1 ⟨rfl, hb1⟩; have HB1 : Hid (Below w.heap.size w w1) := (HX.out.2.alloc hbs _).trans (hb1.mono (by simp; omega)); have HR1 : Hid (w1.ownsRow w.heap.size 9 1 tv k (txtCells (l.take k))) := World.ownsRow.kept (row := none) (World.ownsRow.alloc HR.out _) ⟨hb1.os, hb1.tape, hb1.output, hb1.size, fun q hq _ => hb1.block q hq⟩ (by cases h : Value.ownBlock tv with | none => exact .inl rfl | some _ => exact .inr (by simp)); have hs1 : w.heap.size ≤ w1.heap.size := HB1.out.size; clear hb1)
        | (at_builtin; refine wpList_append_own _ rfl _ _ 23 rfl w.heap.size 9 i0 _ 1 16 Tryz.underlying23 hi0 hz0 hz1 hz2 rfl (by decide) tv k (txtCells (l.take k)) rfl (World.ownsRow.alloc HR1.out _) ⟨w1.heap.size, 0, none⟩ 1 1 [.string (txtV x)] rfl rfl ?c1 ?c2 ?c3 ?c4 ?c5 ?_))
      case c1 => exact new_str
      case c2 => intro u hu; simp at hu; subst hu; rfl
      case c3 => unfold maxLen; omega
      case c4 => omega
      case c5 => simp; omega
      intro v' w2 hown hgrow _
      have HN2 : Hid (w2.ownsRow w.heap.size 9 1 v' (k + 1) (txtCells (l.take (k + 1)))) := Lib.hid (by rw [txtCells_take HX.out.1]; exact hown)
      have HB2 : Hid (Below w.heap.size w w2) := Lib.hid (below_own (HB1.out.alloc hs1 _) (own_ge HR1.out) hgrow)
      clear hown hgrow
      go_wp2
      go_roundw
      case rel => exact ⟨k + 1, _, by omega, by go_num, rfl, HB2.out, HN2⟩
      case measure => simp [intOf]; omega
    · obtain rfl : n = k := by omega
      have HB := Lib.hid hb
      clear hb
      have hf : txtCells (l.take n) = txtCells l := by rw [List.take_of_length_le (by omega)]
      have hr := HR.out
      rw [hf] at hr
      obtain ⟨hlen, hcase⟩ := hr
      rcases hcase with ⟨_, h00⟩ | ⟨r, cap', cur, rfl, hr0, hg, hc, hm, hsz, ht⟩
      · omega
      have HJ : Hid (Calls Tryz.prog 156 #[.slice (some ⟨r, 0, none⟩) n cap', .string ⟨#[32, 44, 32]⟩] wr fun e w' => e = .returned (.string out) ∧ Below wr.heap.size wr w') := Lib.hid (by
        have := Tryz.strings_Join r 0 cap' (l.map txtV) ⟨#[32, 44, 32]⟩ wr (fun j s hs => by
          have hj : j < n := by have := (List.getElem?_eq_some_iff.1 hs).1; simpa [hll] using this
          rw [Lib.cell_of_heap hg, Nat.zero_add]
          have e1 : (cur.toList.take (n * 1))[j]? = some (.string s) := by
            rw [ht]
            unfold txtCells
            rw [List.getElem?_map]
            rw [List.getElem?_map] at hs
            cases hq : l[j]? with
            | none => rw [hq] at hs; cases hs
            | some y => rw [hq] at hs; simp at hs; simp [hs]
          rw [List.getElem?_take, if_pos (by omega)] at e1
          simpa using e1) (lt_of_block hg) (by simp [hll]; omega) (by simp [hll]; exact hc) HO.out.2
        rw [HO.out.1, List.length_map, hll] at this
        exact this)
      clear hlen hr0 hg hc hm hsz ht hf
      go_wp2_with (go_at_call 156; refine HJ.out.mono ?_; rintro e w1 ⟨rfl, hb1⟩; have HB1 := Lib.hid (HB.out.trans (hb1.mono hbs)); clear hb1)
      go_ret
      exact ⟨rfl, HB1.out⟩
end Go.Proofs.YtlilnbcklplmfaaGreatDoor

/- INSERT INTO t VALUES (1, 'a', NULL) may be. -/
namespace Go.Proofs.YtlilnbcklplmfaaGreatDoor
open Go.RowKit Go.Lib

theorem rowI_may : ∀ x ∈ rowI, mayB x.k x.i x.s = true := by
  intro x hx
  simp only [rowI, List.mem_cons, List.not_mem_nil, or_false] at hx
  rcases hx with rfl | rfl | rfl <;> kernel_rfl
theorem rowI_64 : ∀ x ∈ rowI, In64 x.i := by
  intro x hx
  simp only [rowI, List.mem_cons, List.not_mem_nil, or_false] at hx
  rcases hx with rfl | rfl | rfl <;> (unfold In64; simp)
theorem rowI_join : (⟨(Lib.join ((rowI.map txtV).map (·.data.toList)) (⟨#[32, 44, 32]⟩ : ByteArray).data.toList).toArray⟩ : ByteArray) = ⟨#[49, 32, 44, 32, 39, 97, 39, 32, 44, 32, 78, 85, 76, 76]⟩ := by kernel_rfl
theorem rowI_len : (Lib.join ((rowI.map txtV).map (·.data.toList)) (⟨#[32, 44, 32]⟩ : ByteArray).data.toList).length ≤ 140737488355328 := by
  have h : (Lib.join ((rowI.map txtV).map (·.data.toList)) (⟨#[32, 44, 32]⟩ : ByteArray).data.toList).length = 14 := by kernel_rfl
  omega
set_option maxRecDepth 100000 in
set_option maxHeartbeats 4000000 in
theorem brack_ok (w : World) : Calls Tryz.prog 149 #[.string ⟨#[49, 32, 44, 32, 39, 97, 39, 32, 44, 32, 78, 85, 76, 76]⟩] w fun e w' => e = .returned (.string ⟨#[32, 40, 32, 49, 32, 44, 32, 39, 97, 39, 32, 44, 32, 78, 85, 76, 76, 32, 41]⟩) ∧ Below w.heap.size w w' := by
  go_enter Tryz.func149, Tryz.ntmps149
  go_wp2
  go_ret
  exact ⟨rfl, Below.refl _ _⟩
set_option maxRecDepth 100000 in
set_option maxHeartbeats 4000000 in
theorem filled_ins (A : Option Addr) (cap : Nat) (w : World) (hv : Vals w w.heap.size A 3 rowI) : Calls Tryz.prog 146 #[.agg #[.string ⟨#[105, 110, 115, 101, 114, 116]⟩, .string ⟨#[116]⟩, .string ⟨#[]⟩, .slice none 0 0, .slice none 0 0, .string ⟨#[]⟩, .slice none 0 0, .slice none 0 0, .string ⟨#[]⟩, .int .i64 0, .int .i64 0, .string ⟨#[]⟩, .string ⟨#[]⟩, .slice none 0 0, .slice A 3 cap, .slice none 0 0, .string ⟨#[]⟩, .int .i64 0, .int .i64 0, .string ⟨#[]⟩, .string ⟨#[]⟩, .slice none 0 0, .string ⟨#[]⟩]] w fun e w' => e = .returned (.bool true) ∧ Below w.heap.size w w' := by
  have HT := Lib.hid hv
  clear hv
  have HB0 : Hid (Below w.heap.size w (w.alloc (.cells #[.string ⟨#[105, 110, 115, 101, 114, 116]⟩, .string ⟨#[116]⟩, .string ⟨#[]⟩, .slice none 0 0, .slice none 0 0, .string ⟨#[]⟩, .slice none 0 0, .slice none 0 0, .string ⟨#[]⟩, .int .i64 0, .int .i64 0, .string ⟨#[]⟩, .string ⟨#[]⟩, .slice none 0 0, .slice A 3 cap, .slice none 0 0, .string ⟨#[]⟩, .int .i64 0, .int .i64 0, .string ⟨#[]⟩, .string ⟨#[]⟩, .slice none 0 0, .string ⟨#[]⟩] 34))) := (Below.refl _ _).alloc (Nat.le_refl _) _
  go_enter Tryz.func146, Tryz.ntmps146
  go_wp2_with (go_at_call 188; refine (veach_ok A 3 cap rowI _ (by omega) (by omega) ((HT.out.keep HB0.out).more (by simp)) rowI_may).mono ?_; rintro e w1 ⟨rfl, hb1⟩; have HB1 : Hid (Below w.heap.size w w1) := HB0.out.trans (hb1.mono (by simp)); clear hb1)
  go_ret
  exact ⟨rfl, HB1.out⟩
set_option maxRecDepth 100000 in
set_option maxHeartbeats 4000000 in
theorem rest_ins (A : Option Addr) (cap : Nat) (w : World) : Calls Tryz.prog 148 #[.agg #[.string ⟨#[105, 110, 115, 101, 114, 116]⟩, .string ⟨#[116]⟩, .string ⟨#[]⟩, .slice none 0 0, .slice none 0 0, .string ⟨#[]⟩, .slice none 0 0, .slice none 0 0, .string ⟨#[]⟩, .int .i64 0, .int .i64 0, .string ⟨#[]⟩, .string ⟨#[]⟩, .slice none 0 0, .slice A 3 cap, .slice none 0 0, .string ⟨#[]⟩, .int .i64 0, .int .i64 0, .string ⟨#[]⟩, .string ⟨#[]⟩, .slice none 0 0, .string ⟨#[]⟩]] w fun e w' => e = .returned (.agg #[.string ⟨#[]⟩, .string ⟨#[]⟩, .string ⟨#[]⟩, .slice none 0 0, .slice none 0 0, .string ⟨#[]⟩, .slice none 0 0, .slice none 0 0, .string ⟨#[]⟩, .int .i64 0, .int .i64 0, .string ⟨#[]⟩, .string ⟨#[]⟩, .slice none 0 0, .slice none 0 0, .slice none 0 0, .string ⟨#[]⟩, .int .i64 0, .int .i64 0, .string ⟨#[]⟩, .string ⟨#[]⟩, .slice none 0 0, .string ⟨#[]⟩]) ∧ Below w.heap.size w w' := by
  go_enter Tryz.func148, Tryz.ntmps148
  go_upto_region 22 with (fail)
  refine wp_gen (Bx2 w) (Bx2.start w) fun w1 h1 => ?_
  have H1 := Lib.hid h1
  clear h1
  have b1 := H1.out.a
  have b2 := H1.out.b
  go_wp2_with (first
    | (refine wpList_load_row rfl 34 (.tmp 1) rfl w.heap.size rfl 34 #[.string ⟨#[]⟩, .string ⟨#[]⟩, .string ⟨#[]⟩, .slice none 0 0, .slice none 0 0, .string ⟨#[]⟩, .slice none 0 0, .slice none 0 0, .string ⟨#[]⟩, .int .i64 0, .int .i64 0, .string ⟨#[]⟩, .string ⟨#[]⟩, .slice none 0 0, .slice none 0 0, .slice none 0 0, .string ⟨#[]⟩, .int .i64 0, .int .i64 0, .string ⟨#[]⟩, .string ⟨#[]⟩, .slice none 0 0, .string ⟨#[]⟩] (0, 0) _ b1 Tryz.underlying34 rfl stSize ?_)
    | (refine wpList_store_row rfl 34 (.tmp 2) (.tmp 48) rfl (w.heap.size + 1) #[.string ⟨#[]⟩, .string ⟨#[]⟩, .string ⟨#[]⟩, .slice none 0 0, .slice none 0 0, .string ⟨#[]⟩, .slice none 0 0, .slice none 0 0, .string ⟨#[]⟩, .int .i64 0, .int .i64 0, .string ⟨#[]⟩, .string ⟨#[]⟩, .slice none 0 0, .slice none 0 0, .slice none 0 0, .string ⟨#[]⟩, .int .i64 0, .int .i64 0, .string ⟨#[]⟩, .string ⟨#[]⟩, .slice none 0 0, .string ⟨#[]⟩] rfl rfl 34 _ b2 stSize rfl (rt_one _ _ _) ?_))
  refine bodyPost_ret (results_cell_row rfl _ _ (w.heap.size + 1) 34 #[.string ⟨#[]⟩, .string ⟨#[]⟩, .string ⟨#[]⟩, .slice none 0 0, .slice none 0 0, .string ⟨#[]⟩, .slice none 0 0, .slice none 0 0, .string ⟨#[]⟩, .int .i64 0, .int .i64 0, .string ⟨#[]⟩, .string ⟨#[]⟩, .slice none 0 0, .slice none 0 0, .slice none 0 0, .string ⟨#[]⟩, .int .i64 0, .int .i64 0, .string ⟨#[]⟩, .string ⟨#[]⟩, .slice none 0 0, .string ⟨#[]⟩] (0, 0) _ rfl (setRow_heap _ _ _ _ _ _ b2) Tryz.underlying34 rfl stSize) rfl ⟨rfl, below_row H1.out.lo _ (by omega)⟩
set_option maxRecDepth 100000 in
set_option maxHeartbeats 4000000 in
theorem written_ins (A : Option Addr) (cap : Nat) (w : World) (hv : Vals w w.heap.size A 3 rowI) (hl : LibE w) : Calls Tryz.prog 103 #[.agg #[.string ⟨#[105, 110, 115, 101, 114, 116]⟩, .string ⟨#[116]⟩, .string ⟨#[]⟩, .slice none 0 0, .slice none 0 0, .string ⟨#[]⟩, .slice none 0 0, .slice none 0 0, .string ⟨#[]⟩, .int .i64 0, .int .i64 0, .string ⟨#[]⟩, .string ⟨#[]⟩, .slice none 0 0, .slice A 3 cap, .slice none 0 0, .string ⟨#[]⟩, .int .i64 0, .int .i64 0, .string ⟨#[]⟩, .string ⟨#[]⟩, .slice none 0 0, .string ⟨#[]⟩]] w fun e w' => e = .returned (.string ⟨#[73, 78, 83, 69, 82, 84, 32, 73, 78, 84, 79, 32, 116, 32, 86, 65, 76, 85, 69, 83, 32, 40, 32, 49, 32, 44, 32, 39, 97, 39, 32, 44, 32, 78, 85, 76, 76, 32, 41]⟩) ∧ Below w.heap.size w w' := by
  have HT := Lib.hid (And.intro hv hl)
  clear hv hl
  have HB0 : Hid (Below w.heap.size w (w.alloc (.cells #[.string ⟨#[105, 110, 115, 101, 114, 116]⟩, .string ⟨#[116]⟩, .string ⟨#[]⟩, .slice none 0 0, .slice none 0 0, .string ⟨#[]⟩, .slice none 0 0, .slice none 0 0, .string ⟨#[]⟩, .int .i64 0, .int .i64 0, .string ⟨#[]⟩, .string ⟨#[]⟩, .slice none 0 0, .slice A 3 cap, .slice none 0 0, .string ⟨#[]⟩, .int .i64 0, .int .i64 0, .string ⟨#[]⟩, .string ⟨#[]⟩, .slice none 0 0, .string ⟨#[]⟩] 34))) := (Below.refl _ _).alloc (Nat.le_refl _) _
  go_enter Tryz.func103, Tryz.ntmps103
  go_upto_region 7 with (fail)
  refine detL_begin [.val (.pointer (some ⟨w.heap.size, 1, none⟩)), .val (.string ⟨#[116]⟩), .val (.string ⟨#[73, 78, 83, 69, 82, 84, 32, 73, 78, 84, 79, 32, 116]⟩), .val (.string ⟨#[73, 78, 83, 69, 82, 84, 32, 73, 78, 84, 79, 32, 116, 32, 86, 65, 76, 85, 69, 83]⟩), .val (.pointer (some ⟨w.heap.size, 14, none⟩)), .val (.slice A 3 cap), .val (.string ⟨#[49, 32, 44, 32, 39, 97, 39, 32, 44, 32, 78, 85, 76, 76]⟩), .val (.string ⟨#[32, 40, 32, 49, 32, 44, 32, 39, 97, 39, 32, 44, 32, 78, 85, 76, 76, 32, 41]⟩), .val (.string ⟨#[73, 78, 83, 69, 82, 84, 32, 73, 78, 84, 79, 32, 116, 32, 86, 65, 76, 85, 69, 83, 32, 40, 32, 49, 32, 44, 32, 39, 97, 39, 32, 44, 32, 78, 85, 76, 76, 32, 41]⟩), .val (.string ⟨#[73, 78, 83, 69, 82, 84, 32, 73, 78, 84, 79, 32, 116, 32, 86, 65, 76, 85, 69, 83, 32, 40, 32, 49, 32, 44, 32, 39, 97, 39, 32, 44, 32, 78, 85, 76, 76, 32, 41]⟩)] 10 (by kernel_rfl) ?_
  refine detL_val (by kernel_rfl) (yields_of rfl fun w1 hb1 => ?_) ?_
  · have hc1 := bcellD hb1
    clear hb1
    go_simp
    exact Det1_same
  simp only [Act.put, List.setIfInBounds_toArray, List.set_cons_zero, List.set_cons_succ]
  refine detL_val (by kernel_rfl) (yields_of rfl fun w1 hb1 => ?_) ?_
  · have hc1 := bcellD hb1
    clear hb1
    go_simp
    exact Det1_same
  simp only [Act.put, List.setIfInBounds_toArray, List.set_cons_zero, List.set_cons_succ]
  refine detL_val (by kernel_rfl) (yields_of rfl fun w1 hb1 => ?_) ?_
  · have hc1 := bcellD hb1
    clear hb1
    go_simp
    exact Det1_same
  simp only [Act.put, List.setIfInBounds_toArray, List.set_cons_zero, List.set_cons_succ]
  refine detL_val (by kernel_rfl) (yields_of rfl fun w1 hb1 => ?_) ?_
  · have hc1 := bcellD hb1
    clear hb1
    go_simp
    exact Det1_same
  simp only [Act.put, List.setIfInBounds_toArray, List.set_cons_zero, List.set_cons_succ]
  refine detL_val (by kernel_rfl) (yields_of rfl fun w1 hb1 => ?_) ?_
  · have hc1 := bcellD hb1
    clear hb1
    go_simp
    exact Det1_same
  simp only [Act.put, List.setIfInBounds_toArray, List.set_cons_zero, List.set_cons_succ]
  refine detL_val (by kernel_rfl) (yields_of rfl fun w1 hb1 => ?_) ?_
  · have hc1 := bcellD hb1
    clear hb1
    go_simp
    exact Det1_same
  simp only [Act.put, List.setIfInBounds_toArray, List.set_cons_zero, List.set_cons_succ]
  refine detL_val (by kernel_rfl) (yields_of rfl fun w1 hb1 => ?_) ?_
  · have hc1 := bcellD hb1
    have HB1 := Lib.hid (HB0.out.drew.trans (hb1.mono (by simp))); have hs1 := HB1.out.size
    clear hb1
    go_simp
    exact Det1_enter (vlisted_ok A 3 cap rowI ⟨#[49, 32, 44, 32, 39, 97, 39, 32, 44, 32, 78, 85, 76, 76]⟩ w1 (by omega) (by omega) ((HT.out.1.keep HB1.out).more hs1) (HT.out.2.keep HB1.out (Nat.le_refl _)) rowI_64 rowI_join rowI_len)
  simp only [Act.put, List.setIfInBounds_toArray, List.set_cons_zero, List.set_cons_succ]
  refine detL_val (by kernel_rfl) (yields_of rfl fun w1 hb1 => ?_) ?_
  · have hc1 := bcellD hb1
    clear hb1
    go_simp
    exact Det1_enter (brack_ok _)
  simp only [Act.put, List.setIfInBounds_toArray, List.set_cons_zero, List.set_cons_succ]
  refine detL_val (by kernel_rfl) (yields_of rfl fun w1 hb1 => ?_) ?_
  · have hc1 := bcellD hb1
    clear hb1
    go_simp
    exact Det1_same
  simp only [Act.put, List.setIfInBounds_toArray, List.set_cons_zero, List.set_cons_succ]
  refine detL_val (by kernel_rfl) (yields_of rfl fun w1 hb1 => ?_) ?_
  · have hc1 := bcellD hb1
    clear hb1
    go_simp
    exact Det1_same
  simp only [Act.put, List.setIfInBounds_toArray, List.set_cons_zero, List.set_cons_succ]
  refine detL_done (by kernel_rfl) fun w1 hw1 => ?_
  have HB1 : Hid (Below w.heap.size w w1) := HB0.out.drew.trans (hw1.below.mono (by simp))
  clear hw1
  go_wp2
  go_ret
  exact ⟨rfl, HB1.out⟩
theorem cut_ins : cutR (⟨#[73, 78, 83, 69, 82, 84, 32, 73, 78, 84, 79, 32, 116, 32, 86, 65, 76, 85, 69, 83, 32, 40, 32, 49, 32, 44, 32, 39, 97, 39, 32, 44, 32, 78, 85, 76, 76, 32, 41]⟩ : ByteArray).data.toList = some tsI := by kernel_rfl
set_option maxRecDepth 100000 in
set_option maxHeartbeats 4000000 in
theorem formed_ins (A : Option Addr) (cap : Nat) (w : World) (hv : Vals w w.heap.size A 3 rowI) (hl : LibE w) : Calls Tryz.prog 102 #[.agg #[.string ⟨#[105, 110, 115, 101, 114, 116]⟩, .string ⟨#[116]⟩, .string ⟨#[]⟩, .slice none 0 0, .slice none 0 0, .string ⟨#[]⟩, .slice none 0 0, .slice none 0 0, .string ⟨#[]⟩, .int .i64 0, .int .i64 0, .string ⟨#[]⟩, .string ⟨#[]⟩, .slice none 0 0, .slice A 3 cap, .slice none 0 0, .string ⟨#[]⟩, .int .i64 0, .int .i64 0, .string ⟨#[]⟩, .string ⟨#[]⟩, .slice none 0 0, .string ⟨#[]⟩]] w fun e w' => e = .returned (.bool true) ∧ Below w.heap.size w w' := by
  have HT := Lib.hid (And.intro hv hl)
  clear hv hl
  have H0 : Hid (Below w.heap.size w (w.alloc (.cells #[.string ⟨#[105, 110, 115, 101, 114, 116]⟩, .string ⟨#[116]⟩, .string ⟨#[]⟩, .slice none 0 0, .slice none 0 0, .string ⟨#[]⟩, .slice none 0 0, .slice none 0 0, .string ⟨#[]⟩, .int .i64 0, .int .i64 0, .string ⟨#[]⟩, .string ⟨#[]⟩, .slice none 0 0, .slice A 3 cap, .slice none 0 0, .string ⟨#[]⟩, .int .i64 0, .int .i64 0, .string ⟨#[]⟩, .string ⟨#[]⟩, .slice none 0 0, .string ⟨#[]⟩] 34)) ∧ (w.alloc (.cells #[.string ⟨#[105, 110, 115, 101, 114, 116]⟩, .string ⟨#[116]⟩, .string ⟨#[]⟩, .slice none 0 0, .slice none 0 0, .string ⟨#[]⟩, .slice none 0 0, .slice none 0 0, .string ⟨#[]⟩, .int .i64 0, .int .i64 0, .string ⟨#[]⟩, .string ⟨#[]⟩, .slice none 0 0, .slice A 3 cap, .slice none 0 0, .string ⟨#[]⟩, .int .i64 0, .int .i64 0, .string ⟨#[]⟩, .string ⟨#[]⟩, .slice none 0 0, .string ⟨#[]⟩] 34)).heap[w.heap.size]? = some (.cells #[.string ⟨#[105, 110, 115, 101, 114, 116]⟩, .string ⟨#[116]⟩, .string ⟨#[]⟩, .slice none 0 0, .slice none 0 0, .string ⟨#[]⟩, .slice none 0 0, .slice none 0 0, .string ⟨#[]⟩, .int .i64 0, .int .i64 0, .string ⟨#[]⟩, .string ⟨#[]⟩, .slice none 0 0, .slice A 3 cap, .slice none 0 0, .string ⟨#[]⟩, .int .i64 0, .int .i64 0, .string ⟨#[]⟩, .string ⟨#[]⟩, .slice none 0 0, .string ⟨#[]⟩] 34 (0, 0))) := ⟨(Below.refl _ _).alloc (Nat.le_refl _) _, alloc_at rfl _⟩
  have hbx := H0.out.2
  have STEP : Hid (∀ W W' : World, (Below w.heap.size w W ∧ W.heap[w.heap.size]? = some (.cells #[.string ⟨#[105, 110, 115, 101, 114, 116]⟩, .string ⟨#[116]⟩, .string ⟨#[]⟩, .slice none 0 0, .slice none 0 0, .string ⟨#[]⟩, .slice none 0 0, .slice none 0 0, .string ⟨#[]⟩, .int .i64 0, .int .i64 0, .string ⟨#[]⟩, .string ⟨#[]⟩, .slice none 0 0, .slice A 3 cap, .slice none 0 0, .string ⟨#[]⟩, .int .i64 0, .int .i64 0, .string ⟨#[]⟩, .string ⟨#[]⟩, .slice none 0 0, .string ⟨#[]⟩] 34 (0, 0))) → Below W.heap.size W W' → (Below w.heap.size w W' ∧ W'.heap[w.heap.size]? = some (.cells #[.string ⟨#[105, 110, 115, 101, 114, 116]⟩, .string ⟨#[116]⟩, .string ⟨#[]⟩, .slice none 0 0, .slice none 0 0, .string ⟨#[]⟩, .slice none 0 0, .slice none 0 0, .string ⟨#[]⟩, .int .i64 0, .int .i64 0, .string ⟨#[]⟩, .string ⟨#[]⟩, .slice none 0 0, .slice A 3 cap, .slice none 0 0, .string ⟨#[]⟩, .int .i64 0, .int .i64 0, .string ⟨#[]⟩, .string ⟨#[]⟩, .slice none 0 0, .string ⟨#[]⟩] 34 (0, 0)))) := Lib.hid fun W W' h hb => ⟨h.1.trans (hb.mono h.1.size), (hb.block _ (lt_of_block h.2)).trans h.2⟩
  go_enter Tryz.func102, Tryz.ntmps102
  go_wp2_with (first
    | (go_at_call 137; (with_reducible refine (named_any ⟨#[116]⟩ _ (by decide)).mono ?_); rintro e w1 ⟨rfl, hb1⟩; rw [nmB_t]; have H0 := Lib.hid (STEP.out _ _ H0.out hb1); have hbx := H0.out.2; clear hb1)
    | (go_at_call 146; (with_reducible refine (filled_ins A cap _ ((HT.out.1.keep H0.out.1).more H0.out.1.size)).mono ?_); rintro e w1 ⟨rfl, hb1⟩; have H0 := Lib.hid (STEP.out _ _ H0.out hb1); have hbx := H0.out.2; clear hb1)
    | (go_at_call 148; (with_reducible refine (rest_ins A cap _).mono ?_); rintro e w1 ⟨rfl, hb1⟩; have H0 := Lib.hid (STEP.out _ _ H0.out hb1); have hbx := H0.out.2; clear hb1)
    | (go_at_call 147; (with_reducible refine (ssame_nil _).mono ?_); rintro e w1 ⟨rfl, hb1⟩; have H0 := Lib.hid (STEP.out _ _ H0.out hb1); have hbx := H0.out.2; clear hb1)
    | (refine wpList_load_row_on rfl 34 (.tmp 1) rfl w.heap.size rfl 34 #[.string ⟨#[105, 110, 115, 101, 114, 116]⟩, .string ⟨#[116]⟩, .string ⟨#[]⟩, .slice none 0 0, .slice none 0 0, .string ⟨#[]⟩, .slice none 0 0, .slice none 0 0, .string ⟨#[]⟩, .int .i64 0, .int .i64 0, .string ⟨#[]⟩, .string ⟨#[]⟩, .slice none 0 0, .slice A 3 cap, .slice none 0 0, .string ⟨#[]⟩, .int .i64 0, .int .i64 0, .string ⟨#[]⟩, .string ⟨#[]⟩, .slice none 0 0, .string ⟨#[]⟩] (0, 0) _ hbx Tryz.underlying34 rfl stSize ?_)
    | (refine wpList_buildTo_on rfl 34 _ rfl _ rfl #[.string ⟨#[]⟩, .string ⟨#[]⟩, .string ⟨#[]⟩, .slice none 0 0, .slice none 0 0, .string ⟨#[]⟩, .slice none 0 0, .slice none 0 0, .string ⟨#[]⟩, .int .i64 0, .int .i64 0, .string ⟨#[]⟩, .string ⟨#[]⟩, .slice none 0 0, .slice none 0 0, .slice none 0 0, .string ⟨#[]⟩, .int .i64 0, .int .i64 0, .string ⟨#[]⟩, .string ⟨#[]⟩, .slice none 0 0, .string ⟨#[]⟩] (by as_aux_lemma => kernel_rfl) ?_))
  go_ret
  exact ⟨rfl, H0.out.1⟩
set_option maxRecDepth 100000 in
set_option maxHeartbeats 4000000 in
theorem text_ins (A : Option Addr) (cap : Nat) (w : World) (hv : Vals w w.heap.size A 3 rowI) (hl : LibE w) : Calls Tryz.prog 51 #[.agg #[.string ⟨#[105, 110, 115, 101, 114, 116]⟩, .string ⟨#[116]⟩, .string ⟨#[]⟩, .slice none 0 0, .slice none 0 0, .string ⟨#[]⟩, .slice none 0 0, .slice none 0 0, .string ⟨#[]⟩, .int .i64 0, .int .i64 0, .string ⟨#[]⟩, .string ⟨#[]⟩, .slice none 0 0, .slice A 3 cap, .slice none 0 0, .string ⟨#[]⟩, .int .i64 0, .int .i64 0, .string ⟨#[]⟩, .string ⟨#[]⟩, .slice none 0 0, .string ⟨#[]⟩]] w fun e w' => e = .returned (.tuple #[.string ⟨#[73, 78, 83, 69, 82, 84, 32, 73, 78, 84, 79, 32, 116, 32, 86, 65, 76, 85, 69, 83, 32, 40, 32, 49, 32, 44, 32, 39, 97, 39, 32, 44, 32, 78, 85, 76, 76, 32, 41]⟩, .int .i64 0]) ∧ Below w.heap.size w w' := by
  have HT := Lib.hid (And.intro hv hl)
  clear hv hl
  have HC : Hid (cutR (⟨#[73, 78, 83, 69, 82, 84, 32, 73, 78, 84, 79, 32, 116, 32, 86, 65, 76, 85, 69, 83, 32, 40, 32, 49, 32, 44, 32, 39, 97, 39, 32, 44, 32, 78, 85, 76, 76, 32, 41]⟩ : ByteArray).data.toList = some tsI) := Lib.hid cut_ins
  have H0 : Hid (Below w.heap.size w (w.alloc (.cells #[.string ⟨#[105, 110, 115, 101, 114, 116]⟩, .string ⟨#[116]⟩, .string ⟨#[]⟩, .slice none 0 0, .slice none 0 0, .string ⟨#[]⟩, .slice none 0 0, .slice none 0 0, .string ⟨#[]⟩, .int .i64 0, .int .i64 0, .string ⟨#[]⟩, .string ⟨#[]⟩, .slice none 0 0, .slice A 3 cap, .slice none 0 0, .string ⟨#[]⟩, .int .i64 0, .int .i64 0, .string ⟨#[]⟩, .string ⟨#[]⟩, .slice none 0 0, .string ⟨#[]⟩] 34)) ∧ (w.alloc (.cells #[.string ⟨#[105, 110, 115, 101, 114, 116]⟩, .string ⟨#[116]⟩, .string ⟨#[]⟩, .slice none 0 0, .slice none 0 0, .string ⟨#[]⟩, .slice none 0 0, .slice none 0 0, .string ⟨#[]⟩, .int .i64 0, .int .i64 0, .string ⟨#[]⟩, .string ⟨#[]⟩, .slice none 0 0, .slice A 3 cap, .slice none 0 0, .string ⟨#[]⟩, .int .i64 0, .int .i64 0, .string ⟨#[]⟩, .string ⟨#[]⟩, .slice none 0 0, .string ⟨#[]⟩] 34)).heap[w.heap.size]? = some (.cells #[.string ⟨#[105, 110, 115, 101, 114, 116]⟩, .string ⟨#[116]⟩, .string ⟨#[]⟩, .slice none 0 0, .slice none 0 0, .string ⟨#[]⟩, .slice none 0 0, .slice none 0 0, .string ⟨#[]⟩, .int .i64 0, .int .i64 0, .string ⟨#[]⟩, .string ⟨#[]⟩, .slice none 0 0, .slice A 3 cap, .slice none 0 0, .string ⟨#[]⟩, .int .i64 0, .int .i64 0, .string ⟨#[]⟩, .string ⟨#[]⟩, .slice none 0 0, .string ⟨#[]⟩] 34 (0, 0))) := ⟨(Below.refl _ _).alloc (Nat.le_refl _) _, alloc_at rfl _⟩
  have hbx := H0.out.2
  have STEP : Hid (∀ W W' : World, (Below w.heap.size w W ∧ W.heap[w.heap.size]? = some (.cells #[.string ⟨#[105, 110, 115, 101, 114, 116]⟩, .string ⟨#[116]⟩, .string ⟨#[]⟩, .slice none 0 0, .slice none 0 0, .string ⟨#[]⟩, .slice none 0 0, .slice none 0 0, .string ⟨#[]⟩, .int .i64 0, .int .i64 0, .string ⟨#[]⟩, .string ⟨#[]⟩, .slice none 0 0, .slice A 3 cap, .slice none 0 0, .string ⟨#[]⟩, .int .i64 0, .int .i64 0, .string ⟨#[]⟩, .string ⟨#[]⟩, .slice none 0 0, .string ⟨#[]⟩] 34 (0, 0))) → Below W.heap.size W W' → (Below w.heap.size w W' ∧ W'.heap[w.heap.size]? = some (.cells #[.string ⟨#[105, 110, 115, 101, 114, 116]⟩, .string ⟨#[116]⟩, .string ⟨#[]⟩, .slice none 0 0, .slice none 0 0, .string ⟨#[]⟩, .slice none 0 0, .slice none 0 0, .string ⟨#[]⟩, .int .i64 0, .int .i64 0, .string ⟨#[]⟩, .string ⟨#[]⟩, .slice none 0 0, .slice A 3 cap, .slice none 0 0, .string ⟨#[]⟩, .int .i64 0, .int .i64 0, .string ⟨#[]⟩, .string ⟨#[]⟩, .slice none 0 0, .string ⟨#[]⟩] 34 (0, 0)))) := Lib.hid fun W W' h hb => ⟨h.1.trans (hb.mono h.1.size), (hb.block _ (lt_of_block h.2)).trans h.2⟩
  go_enter Tryz.func51, Tryz.ntmps51
  go_wp2_with (first
    | (go_at_call 102; (with_reducible refine (formed_ins A cap _ ((HT.out.1.keep H0.out.1).more H0.out.1.size) (HT.out.2.keep H0.out.1 (Nat.le_refl _))).mono ?_); rintro e w1 ⟨rfl, hb1⟩; have H0 := Lib.hid (STEP.out _ _ H0.out hb1); have hbx := H0.out.2; clear hb1)
    | (go_at_call 103; (with_reducible refine (written_ins A cap _ ((HT.out.1.keep H0.out.1).more H0.out.1.size) (HT.out.2.keep H0.out.1 (Nat.le_refl _))).mono ?_); rintro e w1 ⟨rfl, hb1⟩; have H0 := Lib.hid (STEP.out _ _ H0.out hb1); have hbx := H0.out.2; clear hb1)
    | (go_at_call 17; (with_reducible refine (cut_ok ⟨#[73, 78, 83, 69, 82, 84, 32, 73, 78, 84, 79, 32, 116, 32, 86, 65, 76, 85, 69, 83, 32, 40, 32, 49, 32, 44, 32, 39, 97, 39, 32, 44, 32, 78, 85, 76, 76, 32, 41]⟩ _ (by decide) (HT.out.2.keep H0.out.1 (Nat.le_refl _)) _ HC.out).mono ?_); rintro e w1 ⟨vv, rfl, _, hb1⟩; have H0 := Lib.hid (STEP.out _ _ H0.out hb1); have hbx := H0.out.2; clear hb1)
    | (refine wpList_load_row_on rfl 34 (.tmp 1) rfl w.heap.size rfl 34 #[.string ⟨#[105, 110, 115, 101, 114, 116]⟩, .string ⟨#[116]⟩, .string ⟨#[]⟩, .slice none 0 0, .slice none 0 0, .string ⟨#[]⟩, .slice none 0 0, .slice none 0 0, .string ⟨#[]⟩, .int .i64 0, .int .i64 0, .string ⟨#[]⟩, .string ⟨#[]⟩, .slice none 0 0, .slice A 3 cap, .slice none 0 0, .string ⟨#[]⟩, .int .i64 0, .int .i64 0, .string ⟨#[]⟩, .string ⟨#[]⟩, .slice none 0 0, .string ⟨#[]⟩] (0, 0) _ hbx Tryz.underlying34 rfl stSize ?_))
  go_ret2
  exact ⟨rfl, H0.out.1⟩
set_option maxRecDepth 100000 in
set_option maxHeartbeats 4000000 in
theorem may_ins (A : Option Addr) (cap : Nat) (w : World) (hv : Vals w w.heap.size A 3 rowI) (hl : LibE w) : Calls Tryz.prog 19 #[.agg #[.string ⟨#[105, 110, 115, 101, 114, 116]⟩, .string ⟨#[116]⟩, .string ⟨#[]⟩, .slice none 0 0, .slice none 0 0, .string ⟨#[]⟩, .slice none 0 0, .slice none 0 0, .string ⟨#[]⟩, .int .i64 0, .int .i64 0, .string ⟨#[]⟩, .string ⟨#[]⟩, .slice none 0 0, .slice A 3 cap, .slice none 0 0, .string ⟨#[]⟩, .int .i64 0, .int .i64 0, .string ⟨#[]⟩, .string ⟨#[]⟩, .slice none 0 0, .string ⟨#[]⟩]] w fun e w' => e = .returned (.bool true) ∧ Below w.heap.size w w' := by
  have HT := Lib.hid (And.intro hv hl)
  clear hv hl
  have H0 : Hid (Below w.heap.size w (w.alloc (.cells #[.string ⟨#[105, 110, 115, 101, 114, 116]⟩, .string ⟨#[116]⟩, .string ⟨#[]⟩, .slice none 0 0, .slice none 0 0, .string ⟨#[]⟩, .slice none 0 0, .slice none 0 0, .string ⟨#[]⟩, .int .i64 0, .int .i64 0, .string ⟨#[]⟩, .string ⟨#[]⟩, .slice none 0 0, .slice A 3 cap, .slice none 0 0, .string ⟨#[]⟩, .int .i64 0, .int .i64 0, .string ⟨#[]⟩, .string ⟨#[]⟩, .slice none 0 0, .string ⟨#[]⟩] 34)) ∧ (w.alloc (.cells #[.string ⟨#[105, 110, 115, 101, 114, 116]⟩, .string ⟨#[116]⟩, .string ⟨#[]⟩, .slice none 0 0, .slice none 0 0, .string ⟨#[]⟩, .slice none 0 0, .slice none 0 0, .string ⟨#[]⟩, .int .i64 0, .int .i64 0, .string ⟨#[]⟩, .string ⟨#[]⟩, .slice none 0 0, .slice A 3 cap, .slice none 0 0, .string ⟨#[]⟩, .int .i64 0, .int .i64 0, .string ⟨#[]⟩, .string ⟨#[]⟩, .slice none 0 0, .string ⟨#[]⟩] 34)).heap[w.heap.size]? = some (.cells #[.string ⟨#[105, 110, 115, 101, 114, 116]⟩, .string ⟨#[116]⟩, .string ⟨#[]⟩, .slice none 0 0, .slice none 0 0, .string ⟨#[]⟩, .slice none 0 0, .slice none 0 0, .string ⟨#[]⟩, .int .i64 0, .int .i64 0, .string ⟨#[]⟩, .string ⟨#[]⟩, .slice none 0 0, .slice A 3 cap, .slice none 0 0, .string ⟨#[]⟩, .int .i64 0, .int .i64 0, .string ⟨#[]⟩, .string ⟨#[]⟩, .slice none 0 0, .string ⟨#[]⟩] 34 (0, 0))) := ⟨(Below.refl _ _).alloc (Nat.le_refl _) _, alloc_at rfl _⟩
  have hbx := H0.out.2
  have STEP : Hid (∀ W W' : World, (Below w.heap.size w W ∧ W.heap[w.heap.size]? = some (.cells #[.string ⟨#[105, 110, 115, 101, 114, 116]⟩, .string ⟨#[116]⟩, .string ⟨#[]⟩, .slice none 0 0, .slice none 0 0, .string ⟨#[]⟩, .slice none 0 0, .slice none 0 0, .string ⟨#[]⟩, .int .i64 0, .int .i64 0, .string ⟨#[]⟩, .string ⟨#[]⟩, .slice none 0 0, .slice A 3 cap, .slice none 0 0, .string ⟨#[]⟩, .int .i64 0, .int .i64 0, .string ⟨#[]⟩, .string ⟨#[]⟩, .slice none 0 0, .string ⟨#[]⟩] 34 (0, 0))) → Below W.heap.size W W' → (Below w.heap.size w W' ∧ W'.heap[w.heap.size]? = some (.cells #[.string ⟨#[105, 110, 115, 101, 114, 116]⟩, .string ⟨#[116]⟩, .string ⟨#[]⟩, .slice none 0 0, .slice none 0 0, .string ⟨#[]⟩, .slice none 0 0, .slice none 0 0, .string ⟨#[]⟩, .int .i64 0, .int .i64 0, .string ⟨#[]⟩, .string ⟨#[]⟩, .slice none 0 0, .slice A 3 cap, .slice none 0 0, .string ⟨#[]⟩, .int .i64 0, .int .i64 0, .string ⟨#[]⟩, .string ⟨#[]⟩, .slice none 0 0, .string ⟨#[]⟩] 34 (0, 0)))) := Lib.hid fun W W' h hb => ⟨h.1.trans (hb.mono h.1.size), (hb.block _ (lt_of_block h.2)).trans h.2⟩
  go_enter Tryz.func19, Tryz.ntmps19
  go_wp2_with (first
    | (go_at_call 51; (with_reducible refine (text_ins A cap _ ((HT.out.1.keep H0.out.1).more H0.out.1.size) (HT.out.2.keep H0.out.1 (Nat.le_refl _))).mono ?_); rintro e w1 ⟨rfl, hb1⟩; have H0 := Lib.hid (STEP.out _ _ H0.out hb1); have hbx := H0.out.2; clear hb1)
    | (refine wpList_load_row_on rfl 34 (.tmp 1) rfl w.heap.size rfl 34 #[.string ⟨#[105, 110, 115, 101, 114, 116]⟩, .string ⟨#[116]⟩, .string ⟨#[]⟩, .slice none 0 0, .slice none 0 0, .string ⟨#[]⟩, .slice none 0 0, .slice none 0 0, .string ⟨#[]⟩, .int .i64 0, .int .i64 0, .string ⟨#[]⟩, .string ⟨#[]⟩, .slice none 0 0, .slice A 3 cap, .slice none 0 0, .string ⟨#[]⟩, .int .i64 0, .int .i64 0, .string ⟨#[]⟩, .string ⟨#[]⟩, .slice none 0 0, .string ⟨#[]⟩] (0, 0) _ hbx Tryz.underlying34 rfl stSize ?_))
  go_ret
  exact ⟨rfl, H0.out.1⟩
end Go.Proofs.YtlilnbcklplmfaaGreatDoor

/- Plain: what a text that stands between words does to the row of tokens. -/
namespace Go.Proofs.YtlilnbcklplmfaaGreatDoor
open Go.RowKit Go.Lib

/-- What is no token at the beginning is none with more behind it, or it is a text in quotes. -/
theorem fst_more {x b : List UInt8} (hx : x ≠ []) (h : fst x = none) (hb : After b) : fst (x ++ b) = none ∨ ∃ t n, fst (x ++ b) = some (t, n) ∧ t.k = 3 := by
  cases x with
  | nil => exact absurd rfl hx
  | cons c r =>
    have hp := tw_app (q := parB) r (hb.no parB par_32.1 par_32.2)
    have hd := tw_app (q := digB) r (hb.no digB dig_32.1 dig_32.2)
    rw [List.cons_append]
    unfold fst at h ⊢
    simp only at h ⊢
    by_cases h39 : c = 39
    · rw [if_pos h39]
      cases hq : qscan (r ++ b) with
      | none => exact .inl rfl
      | some y =>
        obtain ⟨y1, y2⟩ := y
        simp only
        split
        · exact .inr ⟨_, _, rfl, rfl⟩
        · exact .inl rfl
    · rw [if_neg h39] at h ⊢
      rw [hp, hd]
      refine .inl ?_
      by_cases hl : letB c = true
      · rw [if_pos hl] at h ⊢
        split at h
        · cases h
        · rename_i hz
          rw [if_neg hz]
      · rw [if_neg hl] at h ⊢
        by_cases hg : digB c = true
        · rw [if_pos hg] at h ⊢
          split at h
          · cases h
          · rename_i hz
            rw [if_neg hz]
        · rw [if_neg hg] at h ⊢
          exact h
theorem cut_more3 : ∀ (k : Nat) (s : List UInt8), s.length ≤ k → ∀ (b : List UInt8), cut s = none → After b → cut (s ++ b) = none ∨ ∃ ts, cut (s ++ b) = some ts ∧ ∃ t ∈ ts, t.k = 3
  | k, s, hk, b, h, ha => by
    cases hf : fst (skip s) with
    | none =>
      by_cases hn : skip s = []
      · rw [cut_end hn] at h; cases h
      · have e := skip_app_of b hn
        rcases fst_more hn hf ha with h1 | ⟨t, n, h1, h2⟩
        · exact .inl (cut_none (by rw [e]; exact h1) (by rw [e]; simp [hn]))
        · rw [cut_more (by rw [e]; exact h1)]
          cases hc : cut ((skip (s ++ b)).drop n) with
          | none => exact .inl rfl
          | some a => exact .inr ⟨_, rfl, t, by simp, h2⟩
    | some y =>
      obtain ⟨t, n⟩ := y
      obtain ⟨p1, p2⟩ := fst_pos hf
      have hsk := skip_len s
      have hn : skip s ≠ [] := fun e => by rw [e] at hf; cases hf
      rw [cut_more hf] at h
      have hr : cut ((skip s).drop n) = none := by
        cases hr : cut ((skip s).drop n) with
        | none => rfl
        | some a' => rw [hr] at h; cases h
      have e := skip_app_of b hn
      have hf' : fst (skip (s ++ b)) = some (t, n) := by rw [e]; exact fst_app hf ha
      rw [cut_more hf', e, List.drop_append_of_le_length p2]
      cases k with
      | zero => omega
      | succ k =>
        rcases cut_more3 k ((skip s).drop n) (by rw [List.length_drop]; omega) b hr ha with h1 | ⟨ts, h1, u, h2, h3⟩
        · exact .inl (by rw [h1]; rfl)
        · exact .inr ⟨t :: ts, by rw [h1]; rfl, u, List.mem_cons_of_mem _ h2, h3⟩
theorem after_32 (r : List UInt8) : After (32 :: r) := fun c hc => by
  simp only [List.head?_cons, Option.some.injEq] at hc
  subst hc
  rfl
theorem cut_32 (r : List UInt8) : cut (32 :: r) = cut r := cut_front (b := [32]) (by simp [blankB]) r
/-- A word between blanks. -/
theorem cut_mid {m : List UInt8} (hm : Tk.may ⟨1, m⟩ = true) (r : List UInt8) : cut (32 :: (m ++ 32 :: r)) = (cut r).map (⟨1, m⟩ :: ·) := by
  have h := cut_tk hm (after_32 r)
  have e : tkO ⟨1, m⟩ = m := by unfold tkO; rw [if_neg (show ¬ (1 : Int) = 3 by decide)]
  rw [e] at h
  rw [cut_32, h, cut_32]
theorem cut_table {tb m ro : List UInt8} {x : List Tk} (hm : Tk.may ⟨1, m⟩ = true) (h : cut tb = some x) : cut (tb ++ 32 :: (m ++ 32 :: ro)) = (cut ro).map (fun y => x ++ ⟨1, m⟩ :: y) := by
  rw [cut_app tb.length tb (Nat.le_refl _) x _ h (after_32 _), cut_mid hm]
  cases cut ro <;> rfl
/-- The word ahead of a text. -/
theorem cut_word {m : List UInt8} (hm : Tk.may ⟨1, m⟩ = true) (r : List UInt8) : cut (m ++ 32 :: r) = (cut r).map (⟨1, m⟩ :: ·) := by
  have h := cut_tk hm (after_32 r)
  have e : tkO ⟨1, m⟩ = m := by unfold tkO; rw [if_neg (show ¬ (1 : Int) = 3 by decide)]
  rw [e] at h
  rw [h, cut_32]
/-- What tokens behind the first three are taken. -/
def Acc (m : ByteArray) (ts : List Tk) : Prop := (stD (ts.map tnOf) m).2 = false ∧ (stD (ts.map tnOf) m).1 = ts.length
theorem acc_of {m : ByteArray} {t0 t1 t2 a c b : Tk} (h2 : isB (tnOf t2) ⟨#[79, 78]⟩ = true) (ha : isNm (tnOf a) = true) (hc : isB (tnOf c) m = true) (hb : isNm (tnOf b) = true) :
    Acc m [t0, t1, t2, a, c, b] ∧ tokN ([t0, t1, t2, a, c, b].map tnOf) (stA ([t0, t1, t2, a, c, b].map tnOf) m) = tnOf a ∧ tokN ([t0, t1, t2, a, c, b].map tnOf) (stC ([t0, t1, t2, a, c, b].map tnOf) m) = tnOf b := by
  have e1 : stA ([t0, t1, t2, a, c, b].map tnOf) m = (3, false) := (stp_do (p := fun t => isB t ⟨#[79, 78]⟩) rfl rfl h2).1
  have e2 := stp_do (l := [t0, t1, t2, a, c, b].map tnOf) (st := (3, false)) rfl rfl ha
  have e3 : stB ([t0, t1, t2, a, c, b].map tnOf) m = (4, false) := by unfold stB; rw [e1]; exact e2.1
  have e4 : stC ([t0, t1, t2, a, c, b].map tnOf) m = (5, false) := by unfold stC; rw [e3]; exact (stp_do (p := fun t => isB t m) rfl rfl hc).1
  have e5 := stp_do (l := [t0, t1, t2, a, c, b].map tnOf) (st := (5, false)) rfl rfl hb
  have e6 : stD ([t0, t1, t2, a, c, b].map tnOf) m = (6, false) := by unfold stD; rw [e4]; exact e5.1
  refine ⟨⟨by rw [e6], by rw [e6]; rfl⟩, ?_, ?_⟩
  · rw [e1]; exact e2.2
  · rw [e4]; exact e5.2
theorem acc_is {m : ByteArray} {t0 t1 t2 : Tk} {z : List Tk} (h2 : isB (tnOf t2) ⟨#[79, 78]⟩ = true) (h : Acc m (t0 :: t1 :: t2 :: z)) : ∃ a c b, z = [a, c, b] ∧ isNm (tnOf a) = true ∧ isB (tnOf c) m = true ∧ isNm (tnOf b) = true := by
  obtain ⟨hf, hn⟩ := h
  generalize hl : (t0 :: t1 :: t2 :: z).map tnOf = l at hf hn
  have e1 : stA l m = (3, false) := (stp_do (p := fun t => isB t ⟨#[79, 78]⟩) rfl (by rw [← hl]; rfl) h2).1
  obtain ⟨c2, c3, c4, c5⟩ := stp_ok isNm_z hf
  obtain ⟨b2, b3, b4, b5⟩ := stp_ok (p := fun t => isB t m) (isB_z _) c2
  obtain ⟨a2, a3, a4, a5⟩ := stp_ok isNm_z b2
  have n3 : (stB l m).1 = 4 := by unfold stB; rw [a5, e1]
  have n4 : (stC l m).1 = 5 := by unfold stC; rw [b5, n3]
  have n5 : (stD l m).1 = 6 := by unfold stD; rw [c5, n4]
  rw [n5] at hn
  match z, hn with
  | [a, c, b], _ =>
    refine ⟨a, c, b, rfl, ?_, ?_, ?_⟩
    · have k := a3.symm.trans (show l[(stA l m).1]? = some (tnOf a) by rw [e1, ← hl]; rfl)
      rw [Option.some.inj k] at a4
      exact a4
    · have k := b3.symm.trans (show l[(stB l m).1]? = some (tnOf c) by rw [n3, ← hl]; rfl)
      rw [Option.some.inj k] at b4
      exact b4
    · have k := c3.symm.trans (show l[(stC l m).1]? = some (tnOf b) by rw [n4, ← hl]; rfl)
      rw [Option.some.inj k] at c4
      exact c4
end Go.Proofs.YtlilnbcklplmfaaGreatDoor

/- Plain: which texts make a right, whatever the words around them. -/
namespace Go.Proofs.YtlilnbcklplmfaaGreatDoor
open Go.RowKit Go.Lib

/-- A text of one name, and another one. -/
def Two (tb ro : List UInt8) (a b : Tk) : Prop := cut tb = some [a] ∧ cut ro = some [b] ∧ isNm (tnOf a) = true ∧ isNm (tnOf b) = true
theorem nm_k {t : Tk} (h : isNm (tnOf t) = true) : t.k = 1 := by
  unfold isNm at h
  have := (Bool.and_eq_true _ _ ▸ h).1
  exact of_decide_eq_true this
theorem b_k {t : Tk} {m : ByteArray} (h : isB (tnOf t) m = true) : t.k = 1 ∨ t.k = 4 := by
  unfold isB at h
  have h1 := (Bool.and_eq_true _ _ ▸ h).1
  rcases (Bool.or_eq_true _ _ ▸ h1) with h2 | h2
  · exact .inl (of_decide_eq_true h2)
  · exact .inr (of_decide_eq_true h2)
theorem two_yes {tb ro m : List UInt8} {a b : Tk} (hm : Tk.may ⟨1, m⟩ = true) (h : Two tb ro a b) : cut (tb ++ 32 :: (m ++ 32 :: ro)) = some [a, ⟨1, m⟩, b] := by
  rw [cut_table hm h.1, h.2.1]
  rfl
theorem two_no {tb ro m : List UInt8} (hm : Tk.may ⟨1, m⟩ = true) (hr : isNm (tnOf ⟨1, m⟩) = false) (h : ¬ ∃ a b, Two tb ro a b) {t0 t1 t2 : Tk} (h2 : isB (tnOf t2) ⟨#[79, 78]⟩ = true)
    {z : List Tk} (hz : cut (tb ++ 32 :: (m ++ 32 :: ro)) = some z) : ¬ Acc ⟨m.toArray⟩ (t0 :: t1 :: t2 :: z) := by
  intro hA
  obtain ⟨a, c, b, rfl, ha, hc, hb⟩ := acc_is h2 hA
  cases hx : cut tb with
  | none =>
    rcases cut_more3 tb.length tb (Nat.le_refl _) _ hx (after_32 (m ++ 32 :: ro)) with h1 | ⟨ts, h1, u, h3, h4⟩
    · rw [h1] at hz; cases hz
    · rw [h1] at hz
      obtain rfl := Option.some.inj hz
      have ka := nm_k ha
      have kb := nm_k hb
      have kc := b_k hc
      simp only [List.mem_cons, List.not_mem_nil, or_false] at h3
      rcases h3 with rfl | rfl | rfl <;> omega
  | some x =>
    rw [cut_table hm hx] at hz
    cases hy : cut ro with
    | none => rw [hy] at hz; cases hz
    | some y =>
      rw [hy] at hz
      have e : x ++ (⟨1, m⟩ : Tk) :: y = [a, c, b] := Option.some.inj hz
      match x, e with
      | [], e =>
        simp only [List.nil_append, List.cons.injEq] at e
        rw [← e.1, hr] at ha
        cases ha
      | [x1], e =>
        simp only [List.cons_append, List.nil_append, List.cons.injEq] at e
        obtain ⟨rfl, _, rfl⟩ := e
        exact h ⟨_, _, hx, hy, ha, hb⟩
      | [x1, x2], e =>
        simp only [List.cons_append, List.nil_append, List.cons.injEq] at e
        rw [← e.2.2.1, hr] at hb
        cases hb
      | x1 :: x2 :: x3 :: x, e =>
        have := congrArg List.length e
        simp at this
end Go.Proofs.YtlilnbcklplmfaaGreatDoor
