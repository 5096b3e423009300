import Derived.Test.YtljcdebaoceimaaDoorVq
/- The law ValueSums: sums of three numbers that are not too great are the same, however they are taken. -/
namespace Go.Proofs.YtljcdebaoceimaaDoor
open Go.RowKit Go.Lib

def In32 (a : Int) : Prop := -2147483648 ≤ a ∧ a ≤ 2147483647
theorem num_plus_as (a b c : Int) (w : World) (h1 : In64 a) (h2 : In64 (b + c)) (h3 : In64 (a + b + c)) :
    Calls Tryd.prog 25 #[.agg #[.int .i64 1, .int .i64 a, .string ⟨#[]⟩], .agg #[.int .i64 1, .int .i64 (b + c), .string ⟨#[]⟩]] w fun e w' => e = .returned (.agg #[.int .i64 1, .int .i64 (a + b + c), .string ⟨#[]⟩]) ∧ Below w.heap.size w w' := by
  rw [Int.add_assoc] at h3 ⊢
  exact num_plus_ok a (b + c) w h1 h2 h3
theorem num_plus_am (a b c : Int) (w : World) (h1 : In64 a) (h2 : In64 (b - c)) (h3 : In64 (a + b - c)) :
    Calls Tryd.prog 25 #[.agg #[.int .i64 1, .int .i64 a, .string ⟨#[]⟩], .agg #[.int .i64 1, .int .i64 (b - c), .string ⟨#[]⟩]] w fun e w' => e = .returned (.agg #[.int .i64 1, .int .i64 (a + b - c), .string ⟨#[]⟩]) ∧ Below w.heap.size w w' := by
  have e : a + b - c = a + (b - c) := by omega
  rw [e] at h3 ⊢
  exact num_plus_ok a (b - c) w h1 h2 h3
theorem nums_not1_l (k i : Int) (s : ByteArray) (a : Int) (h : ¬ k = 1) : numsB k i s 1 a ⟨#[]⟩ = false := by
  unfold numsB hK
  have : ((if mayB k i s = true then k else 0) == 1) = false := by split <;> rw [beq_eq_false_iff_ne] <;> omega
  rw [this]; rfl
theorem nums_not1_r (k i : Int) (s : ByteArray) (a : Int) (h : ¬ k = 1) : numsB 1 a ⟨#[]⟩ k i s = false := by
  unfold numsB hK
  have : ((if mayB k i s = true then k else 0) == 1) = false := by split <;> rw [beq_eq_false_iff_ne] <;> omega
  rw [this, Bool.and_false]

set_option maxRecDepth 100000 in
set_option maxHeartbeats 40000000 in
theorem sums_one (a b c k i : Int) (s : ByteArray) (w : World) (ha0 : In32 a) (hb0 : In32 b) (hc0 : In32 c) (hs : s.size ≤ maxLen) (hk0 : k = 1) (m : Int) (hm : w.cell? ⟨0, 0, none⟩ = some (.int .i64 m)) :
    Calls Tryd.prog 10 #[.agg #[.int .i32 a, .int .i32 b, .int .i32 c, .int .i64 k, .int .i64 i, .string s]] w fun e w' => e = .returned (.bool true) ∧ Below w.heap.size w w' := by
  have hlt : 0 < w.heap.size := World.block_lt_of_cell? w _ hm
  have ha : Hid (In64 a) := Lib.hid (by unfold In32 at *; unfold In64; omega)
  have hb : Hid (In64 b) := Lib.hid (by unfold In32 at *; unfold In64; omega)
  have hc : Hid (In64 c) := Lib.hid (by unfold In32 at *; unfold In64; omega)
  have p1 : Hid (In64 (a + b)) := Lib.hid (by unfold In32 at *; unfold In64; omega)
  have p2 : Hid (In64 (a + b + c)) := Lib.hid (by unfold In32 at *; unfold In64; omega)
  have p3 : Hid (In64 (b + c)) := Lib.hid (by unfold In32 at *; unfold In64; omega)
  have m1 : Hid (In64 (a + b - c)) := Lib.hid (by unfold In32 at *; unfold In64; omega)
  have m2 : Hid (In64 (b - c)) := Lib.hid (by unfold In32 at *; unfold In64; omega)
  unfold In32 at ha0 hb0 hc0
  have hk1 : (k == 1) = true := beq_iff_eq.2 hk0
  clear hk0
  go_enter Tryd.func10, Tryd.ntmps10
  go_wp2
  refine detL_begin [.val (.pointer (some ⟨w.heap.size, 0, none⟩)), .val (.int .i32 a), .val (.pointer (some ⟨w.heap.size, 1, none⟩)), .val (.int .i32 b), .val (.pointer (some ⟨w.heap.size, 2, none⟩)), .val (.int .i32 c), .val (.pointer (some ⟨w.heap.size, 3, none⟩)), .val (.agg #[.int .i64 k, .int .i64 i, .string s]), .rel newR, .val (.int .i32 a), .val (.int .i32 b), .val (.int .i32 c)] 12 (by kernel_rfl) ?_
  refine detL_val (by kernel_rfl) (yields_of rfl fun w1 hb1 => ?_) ?_
  · have hc1 := bcellD hb1
    clear hb1
    go_simp
    exact Det1_same
  simp only [Act.put, List.setIfInBounds_toArray, List.set_cons_zero, List.set_cons_succ]
  refine detL_val (by kernel_rfl) (yields_of rfl fun w1 hb1 => ?_) ?_
  · have hc1 := bcellD hb1
    clear hb1
    go_simp
    exact Det1_same
  simp only [Act.put, List.setIfInBounds_toArray, List.set_cons_zero, List.set_cons_succ]
  refine detL_val (by kernel_rfl) (yields_of rfl fun w1 hb1 => ?_) ?_
  · have hc1 := bcellD hb1
    clear hb1
    go_simp
    exact Det1_same
  simp only [Act.put, List.setIfInBounds_toArray, List.set_cons_zero, List.set_cons_succ]
  refine detL_val (by kernel_rfl) (yields_of rfl fun w1 hb1 => ?_) ?_
  · have hc1 := bcellD hb1
    clear hb1
    go_simp
    exact Det1_same
  simp only [Act.put, List.setIfInBounds_toArray, List.set_cons_zero, List.set_cons_succ]
  refine detL_val (by kernel_rfl) (yields_of rfl fun w1 hb1 => ?_) ?_
  · have hc1 := bcellD hb1
    clear hb1
    go_simp
    exact Det1_same
  simp only [Act.put, List.setIfInBounds_toArray, List.set_cons_zero, List.set_cons_succ]
  refine detL_val (by kernel_rfl) (yields_of rfl fun w1 hb1 => ?_) ?_
  · have hc1 := bcellD hb1
    clear hb1
    go_simp
    exact Det1_same
  simp only [Act.put, List.setIfInBounds_toArray, List.set_cons_zero, List.set_cons_succ]
  refine detL_val (by kernel_rfl) (yields_of rfl fun w1 hb1 => ?_) ?_
  · have hc1 := bcellD hb1
    clear hb1
    go_simp
    exact Det1_same
  simp only [Act.put, List.setIfInBounds_toArray, List.set_cons_zero, List.set_cons_succ]
  refine detL_val (by kernel_rfl) (yields_of rfl fun w1 hb1 => ?_) ?_
  · have hc1 := bcellD hb1
    clear hb1
    go_simp
    exact Det1_same
  simp only [Act.put, List.setIfInBounds_toArray, List.set_cons_zero, List.set_cons_succ]
  refine detL_rel (by kernel_rfl) (yields_rel (by rfl) newR_lasting fun w1 hw1 => ?_) ?_
  · clear hw1
    go_simp
    exact newR_made
  rintro v F w1 hw1
  obtain ⟨b0, rfl, rfl, -⟩ := (hw1.ents _ List.mem_cons_self).1
  clear hw1
  simp only [Act.put, List.setIfInBounds_toArray, List.set_cons_zero, List.set_cons_succ]
  refine detL_val (by kernel_rfl) (yields_of rfl fun w1 hb1 => ?_) ?_
  · clear hb1
    go_simp
    exact Det1_same
  simp only [Act.put, List.setIfInBounds_toArray, List.set_cons_zero, List.set_cons_succ]
  refine detL_val (by kernel_rfl) (yields_of rfl fun w1 hb1 => ?_) ?_
  · clear hb1
    go_simp
    exact Det1_same
  simp only [Act.put, List.setIfInBounds_toArray, List.set_cons_zero, List.set_cons_succ]
  refine detL_val (by kernel_rfl) (yields_of rfl fun w1 hb1 => ?_) ?_
  · clear hb1
    go_simp
    exact Det1_same
  simp only [Act.put, List.setIfInBounds_toArray, List.set_cons_zero, List.set_cons_succ]
  refine detL_tail rfl (by kernel_rfl) fun w1 hw1 => ?_
  have e0 := hw1.ents _ List.mem_cons_self
  have B0 : At3 w1 b0 0 0 ⟨#[]⟩ := (newR_at e0.1).1
  have z0 := (newR_at e0.1).2
  have n0 : w.heap.size ≤ b0 := Nat.le_trans (by simp) (e0.2.2 b0 List.mem_cons_self).1
  have blt : b0 < w1.heap.size := B0.lt
  have hb1 : Below w.heap.size w w1 := ((Below.refl _ _).alloc (Nat.le_refl _) _).drew.trans (hw1.below.mono (by simp))
  have hy1 : w.heap.size ≤ w1.heap.size := hb1.size
  clear hw1 e0
  have HH := Lib.hid (And.intro B0 hb1)
  have k0 := B0.k
  have i0 := B0.i
  have s0 := B0.s
  clear B0 hb1
  go_upto_region 3 with (fail)
  have B0 := HH.out.1
  have hb1 := HH.out.2
  refine wp_gen (fun W => Below w.heap.size w W ∧ At3 W b0 k i s ∧ (∀ o, W.frozen? ⟨b0, o, none⟩ = false) ∧ At3 W w1.heap.size 1 a ⟨#[]⟩ ∧ At3 W (w1.heap.size + 1) 1 b ⟨#[]⟩ ∧ At3 W (w1.heap.size + 1 + 1) 1 c ⟨#[]⟩) ⟨?_, ?_, ?_, ?_, ?_, ?_⟩ ?_
  · repeat (first | (with_reducible exact Below.refl _ _) | ((with_reducible refine cSet3 ?_ ?_ _ _ _); (· ((try simp) <;> omega))) | (with_reducible refine Below.drew ?_) | ((with_reducible refine cAlloc ?_ ?_ _); (· ((try simp) <;> omega))) | ((with_reducible refine cOn (by assumption) ?_ ?_); (· ((try simp) <;> omega))))
  · repeat (first | (with_reducible assumption) | (with_reducible exact Box.of (by assumption)) | ((with_reducible refine At3.new ?_); simp) | (with_reducible refine At3.drew ?_) | (with_reducible refine At3.alloc ?_ _) | (with_reducible refine Box.drew ?_) | (with_reducible refine Box.alloc ?_ _) | (with_reducible refine Box.set ?_ _ _ _) | ((with_reducible refine At3.set_other' ?_ ?_ _ _ _); (· omega)) | ((with_reducible refine Box.set_other ?_ ?_ _ _ _); (· omega)))
  · intro o
    rw [Go.RowKit.frozen?_alloc_cells, Go.RowKit.frozen?_alloc_cells, Go.RowKit.frozen?_alloc_cells, World.frozen?_setCell, World.frozen?_setCell, World.frozen?_setCell]
    exact z0 o
  · repeat (first | (with_reducible assumption) | (with_reducible exact Box.of (by assumption)) | ((with_reducible refine At3.new ?_); simp) | (with_reducible refine At3.drew ?_) | (with_reducible refine At3.alloc ?_ _) | (with_reducible refine Box.drew ?_) | (with_reducible refine Box.alloc ?_ _) | (with_reducible refine Box.set ?_ _ _ _) | ((with_reducible refine At3.set_other' ?_ ?_ _ _ _); (· omega)) | ((with_reducible refine Box.set_other ?_ ?_ _ _ _); (· omega)))
  · repeat (first | (with_reducible assumption) | (with_reducible exact Box.of (by assumption)) | ((with_reducible refine At3.new ?_); simp) | (with_reducible refine At3.drew ?_) | (with_reducible refine At3.alloc ?_ _) | (with_reducible refine Box.drew ?_) | (with_reducible refine Box.alloc ?_ _) | (with_reducible refine Box.set ?_ _ _ _) | ((with_reducible refine At3.set_other' ?_ ?_ _ _ _); (· omega)) | ((with_reducible refine Box.set_other ?_ ?_ _ _ _); (· omega)))
  · repeat (first | (with_reducible assumption) | (with_reducible exact Box.of (by assumption)) | ((with_reducible refine At3.new ?_); simp) | (with_reducible refine At3.drew ?_) | (with_reducible refine At3.alloc ?_ _) | (with_reducible refine Box.drew ?_) | (with_reducible refine Box.alloc ?_ _) | (with_reducible refine Box.set ?_ _ _ _) | ((with_reducible refine At3.set_other' ?_ ?_ _ _ _); (· omega)) | ((with_reducible refine Box.set_other ?_ ?_ _ _ _); (· omega)))
  clear k0 i0 s0 z0 B0 hb1 HH
  rintro W ⟨hB, A0, ZF, A1, A2, A3⟩
  have HH := Lib.hid (And.intro hB (And.intro A0 (And.intro A1 (And.intro A2 A3))))
  have k0 := A0.k
  have i0 := A0.i
  have s0 := A0.s
  clear hB A0 A1 A2 A3
  go_upto_region 4 with (go_at_call 13; refine (few_any _ _ _ _ hs).mono ?_; rintro e w2 ⟨rfl, hb2⟩; have B0 := HH.out.2.1.later hb2; have k2 := B0.k; have i2 := B0.i; have s2 := B0.s; have z2 : ∀ o, w2.frozen? ⟨b0, o, none⟩ = false := (fun o => (hb2.frozen (p := ⟨b0, o, none⟩) HH.out.2.1.lt).trans (ZF o)); clear B0)
  have hB := HH.out.1
  have B0 := HH.out.2.1.later hb2
  have B1 := HH.out.2.2.1.later hb2
  have B2 := HH.out.2.2.2.1.later hb2
  have B3 := HH.out.2.2.2.2.later hb2
  have hBB : Below w.heap.size w w2 := hB.trans (hb2.mono hB.size)
  refine wp_gen (fun W => Below w.heap.size w W ∧ At3 W b0 k i (fewS s) ∧ At3 W w1.heap.size 1 a ⟨#[]⟩ ∧ At3 W (w1.heap.size + 1) 1 b ⟨#[]⟩ ∧ At3 W (w1.heap.size + 1 + 1) 1 c ⟨#[]⟩) ⟨cSet3 n0 hBB _ _ _, ?_, ?_, ?_, ?_⟩ ?_
  · repeat (first | (with_reducible assumption) | (with_reducible exact Box.of (by assumption)) | ((with_reducible refine At3.new ?_); simp) | (with_reducible refine At3.drew ?_) | (with_reducible refine At3.alloc ?_ _) | (with_reducible refine Box.drew ?_) | (with_reducible refine Box.alloc ?_ _) | (with_reducible refine Box.set ?_ _ _ _) | ((with_reducible refine At3.set_other' ?_ ?_ _ _ _); (· omega)) | ((with_reducible refine Box.set_other ?_ ?_ _ _ _); (· omega)))
  · repeat (first | (with_reducible assumption) | (with_reducible exact Box.of (by assumption)) | ((with_reducible refine At3.new ?_); simp) | (with_reducible refine At3.drew ?_) | (with_reducible refine At3.alloc ?_ _) | (with_reducible refine Box.drew ?_) | (with_reducible refine Box.alloc ?_ _) | (with_reducible refine Box.set ?_ _ _ _) | ((with_reducible refine At3.set_other' ?_ ?_ _ _ _); (· omega)) | ((with_reducible refine Box.set_other ?_ ?_ _ _ _); (· omega)))
  · repeat (first | (with_reducible assumption) | (with_reducible exact Box.of (by assumption)) | ((with_reducible refine At3.new ?_); simp) | (with_reducible refine At3.drew ?_) | (with_reducible refine At3.alloc ?_ _) | (with_reducible refine Box.drew ?_) | (with_reducible refine Box.alloc ?_ _) | (with_reducible refine Box.set ?_ _ _ _) | ((with_reducible refine At3.set_other' ?_ ?_ _ _ _); (· omega)) | ((with_reducible refine Box.set_other ?_ ?_ _ _ _); (· omega)))
  · repeat (first | (with_reducible assumption) | (with_reducible exact Box.of (by assumption)) | ((with_reducible refine At3.new ?_); simp) | (with_reducible refine At3.drew ?_) | (with_reducible refine At3.alloc ?_ _) | (with_reducible refine Box.drew ?_) | (with_reducible refine Box.alloc ?_ _) | (with_reducible refine Box.set ?_ _ _ _) | ((with_reducible refine At3.set_other' ?_ ?_ _ _ _); (· omega)) | ((with_reducible refine Box.set_other ?_ ?_ _ _ _); (· omega)))
  clear k0 i0 s0 k2 i2 s2 z2 ZF B0 B1 B2 B3 hBB hB HH hb2
  rintro W ⟨hB, A0, A1, A2, A3⟩
  have c1k := A1.k
  have c1i := A1.i
  have c1s := A1.s
  have l1 := A1.lt
  have c2k := A2.k
  have c2i := A2.i
  have c2s := A2.s
  have l2 := A2.lt
  have c3k := A3.k
  have c3i := A3.i
  have c3s := A3.s
  have l3 := A3.lt
  have hW0 : 0 < W.heap.size := wlt hB hlt
  have hmW : W.cell? ⟨0, 0, none⟩ = some (.int .i64 m) := (hB.cell (p := ⟨0, 0, none⟩) hlt).trans hm
  refine detL_begin [.val (.agg #[.int .i64 1, .int .i64 a, .string ⟨#[]⟩]), .val (.agg #[.int .i64 1, .int .i64 b, .string ⟨#[]⟩]), .val (.agg #[.int .i64 1, .int .i64 (a + b), .string ⟨#[]⟩]), .val (.agg #[.int .i64 1, .int .i64 c, .string ⟨#[]⟩]), .val (.agg #[.int .i64 1, .int .i64 (a + b + c), .string ⟨#[]⟩]), .val (.agg #[.int .i64 1, .int .i64 a, .string ⟨#[]⟩]), .val (.agg #[.int .i64 1, .int .i64 b, .string ⟨#[]⟩]), .val (.agg #[.int .i64 1, .int .i64 c, .string ⟨#[]⟩]), .val (.agg #[.int .i64 1, .int .i64 (b + c), .string ⟨#[]⟩]), .val (.agg #[.int .i64 1, .int .i64 (a + b + c), .string ⟨#[]⟩]), .val (.bool false), .val (.bool false), .val (.agg #[.int .i64 1, .int .i64 a, .string ⟨#[]⟩]), .val (.agg #[.int .i64 1, .int .i64 b, .string ⟨#[]⟩]), .val (.agg #[.int .i64 1, .int .i64 (a + b), .string ⟨#[]⟩]), .val (.agg #[.int .i64 1, .int .i64 c, .string ⟨#[]⟩]), .val (.agg #[.int .i64 1, .int .i64 (a + b - c), .string ⟨#[]⟩]), .val (.agg #[.int .i64 1, .int .i64 a, .string ⟨#[]⟩]), .val (.agg #[.int .i64 1, .int .i64 b, .string ⟨#[]⟩]), .val (.agg #[.int .i64 1, .int .i64 c, .string ⟨#[]⟩]), .val (.agg #[.int .i64 1, .int .i64 (b - c), .string ⟨#[]⟩]), .val (.agg #[.int .i64 1, .int .i64 (a + b - c), .string ⟨#[]⟩]), .val (.bool false), .val (.bool false)] 24 (by kernel_rfl) ?_
  refine detL_val (by kernel_rfl) (yields_of rfl fun w1 hb1 => ?_) ?_
  · have hc1 := bcellD hb1
    clear hb1
    go_simp
    exact Det1_same
  simp only [Act.put, List.setIfInBounds_toArray, List.set_cons_zero, List.set_cons_succ]
  refine detL_val (by kernel_rfl) (yields_of rfl fun w1 hb1 => ?_) ?_
  · have hc1 := bcellD hb1
    clear hb1
    go_simp
    exact Det1_same
  simp only [Act.put, List.setIfInBounds_toArray, List.set_cons_zero, List.set_cons_succ]
  refine detL_val (by kernel_rfl) (yields_of rfl fun w1 hb1 => ?_) ?_
  · have hc1 := bcellD hb1
    clear hb1
    go_simp
    exact Det1_enter (num_plus_ok _ _ _ ha.out hb.out p1.out)
  simp only [Act.put, List.setIfInBounds_toArray, List.set_cons_zero, List.set_cons_succ]
  refine detL_val (by kernel_rfl) (yields_of rfl fun w1 hb1 => ?_) ?_
  · have hc1 := bcellD hb1
    clear hb1
    go_simp
    exact Det1_same
  simp only [Act.put, List.setIfInBounds_toArray, List.set_cons_zero, List.set_cons_succ]
  refine detL_val (by kernel_rfl) (yields_of rfl fun w1 hb1 => ?_) ?_
  · have hc1 := bcellD hb1
    clear hb1
    go_simp
    exact Det1_enter (num_plus_ok _ _ _ p1.out hc.out p2.out)
  simp only [Act.put, List.setIfInBounds_toArray, List.set_cons_zero, List.set_cons_succ]
  refine detL_val (by kernel_rfl) (yields_of rfl fun w1 hb1 => ?_) ?_
  · have hc1 := bcellD hb1
    clear hb1
    go_simp
    exact Det1_same
  simp only [Act.put, List.setIfInBounds_toArray, List.set_cons_zero, List.set_cons_succ]
  refine detL_val (by kernel_rfl) (yields_of rfl fun w1 hb1 => ?_) ?_
  · have hc1 := bcellD hb1
    clear hb1
    go_simp
    exact Det1_same
  simp only [Act.put, List.setIfInBounds_toArray, List.set_cons_zero, List.set_cons_succ]
  refine detL_val (by kernel_rfl) (yields_of rfl fun w1 hb1 => ?_) ?_
  · have hc1 := bcellD hb1
    clear hb1
    go_simp
    exact Det1_same
  simp only [Act.put, List.setIfInBounds_toArray, List.set_cons_zero, List.set_cons_succ]
  refine detL_val (by kernel_rfl) (yields_of rfl fun w1 hb1 => ?_) ?_
  · have hc1 := bcellD hb1
    clear hb1
    go_simp
    exact Det1_enter (num_plus_ok _ _ _ hb.out hc.out p3.out)
  simp only [Act.put, List.setIfInBounds_toArray, List.set_cons_zero, List.set_cons_succ]
  refine detL_val (by kernel_rfl) (yields_of rfl fun w1 hb1 => ?_) ?_
  · have hc1 := bcellD hb1
    clear hb1
    go_simp
    exact Det1_enter (num_plus_as _ _ _ _ ha.out p3.out p2.out)
  simp only [Act.put, List.setIfInBounds_toArray, List.set_cons_zero, List.set_cons_succ]
  refine detL_val (by kernel_rfl) (yields_of rfl fun w1 hb1 => ?_) ?_
  · have hc1 := bcellD hb1
    clear hb1
    go_simp
    exact Det1_same
  simp only [Act.put, List.setIfInBounds_toArray, List.set_cons_zero, List.set_cons_succ]
  refine detL_val (by kernel_rfl) (yields_of rfl fun w1 hb1 => ?_) ?_
  · have hc1 := bcellD hb1
    clear hb1
    go_simp
    exact Det1_same
  simp only [Act.put, List.setIfInBounds_toArray, List.set_cons_zero, List.set_cons_succ]
  refine detL_val (by kernel_rfl) (yields_of rfl fun w1 hb1 => ?_) ?_
  · have hc1 := bcellD hb1
    clear hb1
    go_simp
    exact Det1_same
  simp only [Act.put, List.setIfInBounds_toArray, List.set_cons_zero, List.set_cons_succ]
  refine detL_val (by kernel_rfl) (yields_of rfl fun w1 hb1 => ?_) ?_
  · have hc1 := bcellD hb1
    clear hb1
    go_simp
    exact Det1_same
  simp only [Act.put, List.setIfInBounds_toArray, List.set_cons_zero, List.set_cons_succ]
  refine detL_val (by kernel_rfl) (yields_of rfl fun w1 hb1 => ?_) ?_
  · have hc1 := bcellD hb1
    clear hb1
    go_simp
    exact Det1_enter (num_plus_ok _ _ _ ha.out hb.out p1.out)
  simp only [Act.put, List.setIfInBounds_toArray, List.set_cons_zero, List.set_cons_succ]
  refine detL_val (by kernel_rfl) (yields_of rfl fun w1 hb1 => ?_) ?_
  · have hc1 := bcellD hb1
    clear hb1
    go_simp
    exact Det1_same
  simp only [Act.put, List.setIfInBounds_toArray, List.set_cons_zero, List.set_cons_succ]
  refine detL_val (by kernel_rfl) (yields_of rfl fun w1 hb1 => ?_) ?_
  · have hc1 := bcellD hb1
    clear hb1
    go_simp
    exact Det1_enter (num_minus_ok _ _ _ p1.out hc.out m1.out)
  simp only [Act.put, List.setIfInBounds_toArray, List.set_cons_zero, List.set_cons_succ]
  refine detL_val (by kernel_rfl) (yields_of rfl fun w1 hb1 => ?_) ?_
  · have hc1 := bcellD hb1
    clear hb1
    go_simp
    exact Det1_same
  simp only [Act.put, List.setIfInBounds_toArray, List.set_cons_zero, List.set_cons_succ]
  refine detL_val (by kernel_rfl) (yields_of rfl fun w1 hb1 => ?_) ?_
  · have hc1 := bcellD hb1
    clear hb1
    go_simp
    exact Det1_same
  simp only [Act.put, List.setIfInBounds_toArray, List.set_cons_zero, List.set_cons_succ]
  refine detL_val (by kernel_rfl) (yields_of rfl fun w1 hb1 => ?_) ?_
  · have hc1 := bcellD hb1
    clear hb1
    go_simp
    exact Det1_same
  simp only [Act.put, List.setIfInBounds_toArray, List.set_cons_zero, List.set_cons_succ]
  refine detL_val (by kernel_rfl) (yields_of rfl fun w1 hb1 => ?_) ?_
  · have hc1 := bcellD hb1
    clear hb1
    go_simp
    exact Det1_enter (num_minus_ok _ _ _ hb.out hc.out m2.out)
  simp only [Act.put, List.setIfInBounds_toArray, List.set_cons_zero, List.set_cons_succ]
  refine detL_val (by kernel_rfl) (yields_of rfl fun w1 hb1 => ?_) ?_
  · have hc1 := bcellD hb1
    clear hb1
    go_simp
    exact Det1_enter (num_plus_am _ _ _ _ ha.out m2.out m1.out)
  simp only [Act.put, List.setIfInBounds_toArray, List.set_cons_zero, List.set_cons_succ]
  refine detL_val (by kernel_rfl) (yields_of rfl fun w1 hb1 => ?_) ?_
  · have hc1 := bcellD hb1
    clear hb1
    go_simp
    exact Det1_same
  simp only [Act.put, List.setIfInBounds_toArray, List.set_cons_zero, List.set_cons_succ]
  refine detL_val (by kernel_rfl) (yields_of rfl fun w1 hb1 => ?_) ?_
  · have hc1 := bcellD hb1
    clear hb1
    go_simp
    exact Det1_same
  simp only [Act.put, List.setIfInBounds_toArray, List.set_cons_zero, List.set_cons_succ]
  refine detL_done (by kernel_rfl) fun w2 hw2 => ?_
  have hb2 := hw2.below
  have hB2 : Below w.heap.size w w2 := hB.drew.trans (hb2.mono hB.size)
  have B0 := A0.drew.later hb2
  have B1 := A1.drew.later hb2
  have hm2 : w2.cell? ⟨0, 0, none⟩ = some (.int .i64 m) := (hB2.cell (p := ⟨0, 0, none⟩) hlt).trans hm
  have lz : 0 < w2.heap.size := wlt hB2 hlt
  clear hw2 hb2 hB A0 A1 A2 A3 c1k c1i c1s l1 c2k c2i c2s l2 c3k c3i c3s l3 hW0 hmW
  have HH := Lib.hid (And.intro hB2 (And.intro B0 B1))
  have k0 := B0.k
  have i0 := B0.i
  have s0 := B0.s
  have k1 := B1.k
  have i1 := B1.i
  have s1 := B1.s
  clear hB2 B0 B1
  go_wp2_with (go_at_call 20; refine (awake_any _ m hm2).mono ?_; rintro e w3 ⟨rfl, hb3⟩)
  go_ret
  exact ⟨rfl, HH.out.1.trans (hb3.mono HH.out.1.size)⟩

set_option maxRecDepth 100000 in
set_option maxHeartbeats 40000000 in
theorem sums_not (a b c k i : Int) (s : ByteArray) (w : World) (ha0 : In32 a) (hb0 : In32 b) (hc0 : In32 c) (hs : s.size ≤ maxLen) (hk0 : ¬ k = 1) (m : Int) (hm : w.cell? ⟨0, 0, none⟩ = some (.int .i64 m)) :
    Calls Tryd.prog 10 #[.agg #[.int .i32 a, .int .i32 b, .int .i32 c, .int .i64 k, .int .i64 i, .string s]] w fun e w' => e = .returned (.bool true) ∧ Below w.heap.size w w' := by
  have hlt : 0 < w.heap.size := World.block_lt_of_cell? w _ hm
  have ha : Hid (In64 a) := Lib.hid (by unfold In32 at *; unfold In64; omega)
  have hb : Hid (In64 b) := Lib.hid (by unfold In32 at *; unfold In64; omega)
  have hc : Hid (In64 c) := Lib.hid (by unfold In32 at *; unfold In64; omega)
  have p1 : Hid (In64 (a + b)) := Lib.hid (by unfold In32 at *; unfold In64; omega)
  have p2 : Hid (In64 (a + b + c)) := Lib.hid (by unfold In32 at *; unfold In64; omega)
  have p3 : Hid (In64 (b + c)) := Lib.hid (by unfold In32 at *; unfold In64; omega)
  have m1 : Hid (In64 (a + b - c)) := Lib.hid (by unfold In32 at *; unfold In64; omega)
  have m2 : Hid (In64 (b - c)) := Lib.hid (by unfold In32 at *; unfold In64; omega)
  unfold In32 at ha0 hb0 hc0
  have hk1 : (k == 1) = false := beq_eq_false_iff_ne.2 hk0
  have HL := Lib.hid (nums_not1_l k i (fewS s) a hk0)
  have HR := Lib.hid (nums_not1_r k i (fewS s) a hk0)
  clear hk0
  go_enter Tryd.func10, Tryd.ntmps10
  go_wp2
  refine detL_begin [.val (.pointer (some ⟨w.heap.size, 0, none⟩)), .val (.int .i32 a), .val (.pointer (some ⟨w.heap.size, 1, none⟩)), .val (.int .i32 b), .val (.pointer (some ⟨w.heap.size, 2, none⟩)), .val (.int .i32 c), .val (.pointer (some ⟨w.heap.size, 3, none⟩)), .val (.agg #[.int .i64 k, .int .i64 i, .string s]), .rel newR, .val (.int .i32 a), .val (.int .i32 b), .val (.int .i32 c)] 12 (by kernel_rfl) ?_
  refine detL_val (by kernel_rfl) (yields_of rfl fun w1 hb1 => ?_) ?_
  · have hc1 := bcellD hb1
    clear hb1
    go_simp
    exact Det1_same
  simp only [Act.put, List.setIfInBounds_toArray, List.set_cons_zero, List.set_cons_succ]
  refine detL_val (by kernel_rfl) (yields_of rfl fun w1 hb1 => ?_) ?_
  · have hc1 := bcellD hb1
    clear hb1
    go_simp
    exact Det1_same
  simp only [Act.put, List.setIfInBounds_toArray, List.set_cons_zero, List.set_cons_succ]
  refine detL_val (by kernel_rfl) (yields_of rfl fun w1 hb1 => ?_) ?_
  · have hc1 := bcellD hb1
    clear hb1
    go_simp
    exact Det1_same
  simp only [Act.put, List.setIfInBounds_toArray, List.set_cons_zero, List.set_cons_succ]
  refine detL_val (by kernel_rfl) (yields_of rfl fun w1 hb1 => ?_) ?_
  · have hc1 := bcellD hb1
    clear hb1
    go_simp
    exact Det1_same
  simp only [Act.put, List.setIfInBounds_toArray, List.set_cons_zero, List.set_cons_succ]
  refine detL_val (by kernel_rfl) (yields_of rfl fun w1 hb1 => ?_) ?_
  · have hc1 := bcellD hb1
    clear hb1
    go_simp
    exact Det1_same
  simp only [Act.put, List.setIfInBounds_toArray, List.set_cons_zero, List.set_cons_succ]
  refine detL_val (by kernel_rfl) (yields_of rfl fun w1 hb1 => ?_) ?_
  · have hc1 := bcellD hb1
    clear hb1
    go_simp
    exact Det1_same
  simp only [Act.put, List.setIfInBounds_toArray, List.set_cons_zero, List.set_cons_succ]
  refine detL_val (by kernel_rfl) (yields_of rfl fun w1 hb1 => ?_) ?_
  · have hc1 := bcellD hb1
    clear hb1
    go_simp
    exact Det1_same
  simp only [Act.put, List.setIfInBounds_toArray, List.set_cons_zero, List.set_cons_succ]
  refine detL_val (by kernel_rfl) (yields_of rfl fun w1 hb1 => ?_) ?_
  · have hc1 := bcellD hb1
    clear hb1
    go_simp
    exact Det1_same
  simp only [Act.put, List.setIfInBounds_toArray, List.set_cons_zero, List.set_cons_succ]
  refine detL_rel (by kernel_rfl) (yields_rel (by rfl) newR_lasting fun w1 hw1 => ?_) ?_
  · clear hw1
    go_simp
    exact newR_made
  rintro v F w1 hw1
  obtain ⟨b0, rfl, rfl, -⟩ := (hw1.ents _ List.mem_cons_self).1
  clear hw1
  simp only [Act.put, List.setIfInBounds_toArray, List.set_cons_zero, List.set_cons_succ]
  refine detL_val (by kernel_rfl) (yields_of rfl fun w1 hb1 => ?_) ?_
  · clear hb1
    go_simp
    exact Det1_same
  simp only [Act.put, List.setIfInBounds_toArray, List.set_cons_zero, List.set_cons_succ]
  refine detL_val (by kernel_rfl) (yields_of rfl fun w1 hb1 => ?_) ?_
  · clear hb1
    go_simp
    exact Det1_same
  simp only [Act.put, List.setIfInBounds_toArray, List.set_cons_zero, List.set_cons_succ]
  refine detL_val (by kernel_rfl) (yields_of rfl fun w1 hb1 => ?_) ?_
  · clear hb1
    go_simp
    exact Det1_same
  simp only [Act.put, List.setIfInBounds_toArray, List.set_cons_zero, List.set_cons_succ]
  refine detL_tail rfl (by kernel_rfl) fun w1 hw1 => ?_
  have e0 := hw1.ents _ List.mem_cons_self
  have B0 : At3 w1 b0 0 0 ⟨#[]⟩ := (newR_at e0.1).1
  have z0 := (newR_at e0.1).2
  have n0 : w.heap.size ≤ b0 := Nat.le_trans (by simp) (e0.2.2 b0 List.mem_cons_self).1
  have blt : b0 < w1.heap.size := B0.lt
  have hb1 : Below w.heap.size w w1 := ((Below.refl _ _).alloc (Nat.le_refl _) _).drew.trans (hw1.below.mono (by simp))
  have hy1 : w.heap.size ≤ w1.heap.size := hb1.size
  clear hw1 e0
  have HH := Lib.hid (And.intro B0 hb1)
  have k0 := B0.k
  have i0 := B0.i
  have s0 := B0.s
  clear B0 hb1
  go_upto_region 3 with (fail)
  have B0 := HH.out.1
  have hb1 := HH.out.2
  refine wp_gen (fun W => Below w.heap.size w W ∧ At3 W b0 k i s ∧ (∀ o, W.frozen? ⟨b0, o, none⟩ = false) ∧ At3 W w1.heap.size 1 a ⟨#[]⟩ ∧ At3 W (w1.heap.size + 1) 1 b ⟨#[]⟩ ∧ At3 W (w1.heap.size + 1 + 1) 1 c ⟨#[]⟩) ⟨?_, ?_, ?_, ?_, ?_, ?_⟩ ?_
  · repeat (first | (with_reducible exact Below.refl _ _) | ((with_reducible refine cSet3 ?_ ?_ _ _ _); (· ((try simp) <;> omega))) | (with_reducible refine Below.drew ?_) | ((with_reducible refine cAlloc ?_ ?_ _); (· ((try simp) <;> omega))) | ((with_reducible refine cOn (by assumption) ?_ ?_); (· ((try simp) <;> omega))))
  · repeat (first | (with_reducible assumption) | (with_reducible exact Box.of (by assumption)) | ((with_reducible refine At3.new ?_); simp) | (with_reducible refine At3.drew ?_) | (with_reducible refine At3.alloc ?_ _) | (with_reducible refine Box.drew ?_) | (with_reducible refine Box.alloc ?_ _) | (with_reducible refine Box.set ?_ _ _ _) | ((with_reducible refine At3.set_other' ?_ ?_ _ _ _); (· omega)) | ((with_reducible refine Box.set_other ?_ ?_ _ _ _); (· omega)))
  · intro o
    rw [Go.RowKit.frozen?_alloc_cells, Go.RowKit.frozen?_alloc_cells, Go.RowKit.frozen?_alloc_cells, World.frozen?_setCell, World.frozen?_setCell, World.frozen?_setCell]
    exact z0 o
  · repeat (first | (with_reducible assumption) | (with_reducible exact Box.of (by assumption)) | ((with_reducible refine At3.new ?_); simp) | (with_reducible refine At3.drew ?_) | (with_reducible refine At3.alloc ?_ _) | (with_reducible refine Box.drew ?_) | (with_reducible refine Box.alloc ?_ _) | (with_reducible refine Box.set ?_ _ _ _) | ((with_reducible refine At3.set_other' ?_ ?_ _ _ _); (· omega)) | ((with_reducible refine Box.set_other ?_ ?_ _ _ _); (· omega)))
  · repeat (first | (with_reducible assumption) | (with_reducible exact Box.of (by assumption)) | ((with_reducible refine At3.new ?_); simp) | (with_reducible refine At3.drew ?_) | (with_reducible refine At3.alloc ?_ _) | (with_reducible refine Box.drew ?_) | (with_reducible refine Box.alloc ?_ _) | (with_reducible refine Box.set ?_ _ _ _) | ((with_reducible refine At3.set_other' ?_ ?_ _ _ _); (· omega)) | ((with_reducible refine Box.set_other ?_ ?_ _ _ _); (· omega)))
  · repeat (first | (with_reducible assumption) | (with_reducible exact Box.of (by assumption)) | ((with_reducible refine At3.new ?_); simp) | (with_reducible refine At3.drew ?_) | (with_reducible refine At3.alloc ?_ _) | (with_reducible refine Box.drew ?_) | (with_reducible refine Box.alloc ?_ _) | (with_reducible refine Box.set ?_ _ _ _) | ((with_reducible refine At3.set_other' ?_ ?_ _ _ _); (· omega)) | ((with_reducible refine Box.set_other ?_ ?_ _ _ _); (· omega)))
  clear k0 i0 s0 z0 B0 hb1 HH
  rintro W ⟨hB, A0, ZF, A1, A2, A3⟩
  have HH := Lib.hid (And.intro hB (And.intro A0 (And.intro A1 (And.intro A2 A3))))
  have k0 := A0.k
  have i0 := A0.i
  have s0 := A0.s
  clear hB A0 A1 A2 A3
  go_upto_region 4 with (go_at_call 13; refine (few_any _ _ _ _ hs).mono ?_; rintro e w2 ⟨rfl, hb2⟩; have B0 := HH.out.2.1.later hb2; have k2 := B0.k; have i2 := B0.i; have s2 := B0.s; have z2 : ∀ o, w2.frozen? ⟨b0, o, none⟩ = false := (fun o => (hb2.frozen (p := ⟨b0, o, none⟩) HH.out.2.1.lt).trans (ZF o)); clear B0)
  have hB := HH.out.1
  have B0 := HH.out.2.1.later hb2
  have B1 := HH.out.2.2.1.later hb2
  have B2 := HH.out.2.2.2.1.later hb2
  have B3 := HH.out.2.2.2.2.later hb2
  have hBB : Below w.heap.size w w2 := hB.trans (hb2.mono hB.size)
  refine wp_gen (fun W => Below w.heap.size w W ∧ At3 W b0 k i (fewS s) ∧ At3 W w1.heap.size 1 a ⟨#[]⟩ ∧ At3 W (w1.heap.size + 1) 1 b ⟨#[]⟩ ∧ At3 W (w1.heap.size + 1 + 1) 1 c ⟨#[]⟩) ⟨cSet3 n0 hBB _ _ _, ?_, ?_, ?_, ?_⟩ ?_
  · repeat (first | (with_reducible assumption) | (with_reducible exact Box.of (by assumption)) | ((with_reducible refine At3.new ?_); simp) | (with_reducible refine At3.drew ?_) | (with_reducible refine At3.alloc ?_ _) | (with_reducible refine Box.drew ?_) | (with_reducible refine Box.alloc ?_ _) | (with_reducible refine Box.set ?_ _ _ _) | ((with_reducible refine At3.set_other' ?_ ?_ _ _ _); (· omega)) | ((with_reducible refine Box.set_other ?_ ?_ _ _ _); (· omega)))
  · repeat (first | (with_reducible assumption) | (with_reducible exact Box.of (by assumption)) | ((with_reducible refine At3.new ?_); simp) | (with_reducible refine At3.drew ?_) | (with_reducible refine At3.alloc ?_ _) | (with_reducible refine Box.drew ?_) | (with_reducible refine Box.alloc ?_ _) | (with_reducible refine Box.set ?_ _ _ _) | ((with_reducible refine At3.set_other' ?_ ?_ _ _ _); (· omega)) | ((with_reducible refine Box.set_other ?_ ?_ _ _ _); (· omega)))
  · repeat (first | (with_reducible assumption) | (with_reducible exact Box.of (by assumption)) | ((with_reducible refine At3.new ?_); simp) | (with_reducible refine At3.drew ?_) | (with_reducible refine At3.alloc ?_ _) | (with_reducible refine Box.drew ?_) | (with_reducible refine Box.alloc ?_ _) | (with_reducible refine Box.set ?_ _ _ _) | ((with_reducible refine At3.set_other' ?_ ?_ _ _ _); (· omega)) | ((with_reducible refine Box.set_other ?_ ?_ _ _ _); (· omega)))
  · repeat (first | (with_reducible assumption) | (with_reducible exact Box.of (by assumption)) | ((with_reducible refine At3.new ?_); simp) | (with_reducible refine At3.drew ?_) | (with_reducible refine At3.alloc ?_ _) | (with_reducible refine Box.drew ?_) | (with_reducible refine Box.alloc ?_ _) | (with_reducible refine Box.set ?_ _ _ _) | ((with_reducible refine At3.set_other' ?_ ?_ _ _ _); (· omega)) | ((with_reducible refine Box.set_other ?_ ?_ _ _ _); (· omega)))
  clear k0 i0 s0 k2 i2 s2 z2 ZF B0 B1 B2 B3 hBB hB HH hb2
  rintro W ⟨hB, A0, A1, A2, A3⟩
  have c1k := A1.k
  have c1i := A1.i
  have c1s := A1.s
  have l1 := A1.lt
  have c2k := A2.k
  have c2i := A2.i
  have c2s := A2.s
  have l2 := A2.lt
  have c3k := A3.k
  have c3i := A3.i
  have c3s := A3.s
  have l3 := A3.lt
  have hW0 : 0 < W.heap.size := wlt hB hlt
  have hmW : W.cell? ⟨0, 0, none⟩ = some (.int .i64 m) := (hB.cell (p := ⟨0, 0, none⟩) hlt).trans hm
  refine detL_begin [.val (.agg #[.int .i64 1, .int .i64 a, .string ⟨#[]⟩]), .val (.agg #[.int .i64 1, .int .i64 b, .string ⟨#[]⟩]), .val (.agg #[.int .i64 1, .int .i64 (a + b), .string ⟨#[]⟩]), .val (.agg #[.int .i64 1, .int .i64 c, .string ⟨#[]⟩]), .val (.agg #[.int .i64 1, .int .i64 (a + b + c), .string ⟨#[]⟩]), .val (.agg #[.int .i64 1, .int .i64 a, .string ⟨#[]⟩]), .val (.agg #[.int .i64 1, .int .i64 b, .string ⟨#[]⟩]), .val (.agg #[.int .i64 1, .int .i64 c, .string ⟨#[]⟩]), .val (.agg #[.int .i64 1, .int .i64 (b + c), .string ⟨#[]⟩]), .val (.agg #[.int .i64 1, .int .i64 (a + b + c), .string ⟨#[]⟩]), .val (.bool false), .val (.bool false), .val (.agg #[.int .i64 1, .int .i64 a, .string ⟨#[]⟩]), .val (.agg #[.int .i64 1, .int .i64 b, .string ⟨#[]⟩]), .val (.agg #[.int .i64 1, .int .i64 (a + b), .string ⟨#[]⟩]), .val (.agg #[.int .i64 1, .int .i64 c, .string ⟨#[]⟩]), .val (.agg #[.int .i64 1, .int .i64 (a + b - c), .string ⟨#[]⟩]), .val (.agg #[.int .i64 1, .int .i64 a, .string ⟨#[]⟩]), .val (.agg #[.int .i64 1, .int .i64 b, .string ⟨#[]⟩]), .val (.agg #[.int .i64 1, .int .i64 c, .string ⟨#[]⟩]), .val (.agg #[.int .i64 1, .int .i64 (b - c), .string ⟨#[]⟩]), .val (.agg #[.int .i64 1, .int .i64 (a + b - c), .string ⟨#[]⟩]), .val (.bool false), .val (.bool false)] 24 (by kernel_rfl) ?_
  refine detL_val (by kernel_rfl) (yields_of rfl fun w1 hb1 => ?_) ?_
  · have hc1 := bcellD hb1
    clear hb1
    go_simp
    exact Det1_same
  simp only [Act.put, List.setIfInBounds_toArray, List.set_cons_zero, List.set_cons_succ]
  refine detL_val (by kernel_rfl) (yields_of rfl fun w1 hb1 => ?_) ?_
  · have hc1 := bcellD hb1
    clear hb1
    go_simp
    exact Det1_same
  simp only [Act.put, List.setIfInBounds_toArray, List.set_cons_zero, List.set_cons_succ]
  refine detL_val (by kernel_rfl) (yields_of rfl fun w1 hb1 => ?_) ?_
  · have hc1 := bcellD hb1
    clear hb1
    go_simp
    exact Det1_enter (num_plus_ok _ _ _ ha.out hb.out p1.out)
  simp only [Act.put, List.setIfInBounds_toArray, List.set_cons_zero, List.set_cons_succ]
  refine detL_val (by kernel_rfl) (yields_of rfl fun w1 hb1 => ?_) ?_
  · have hc1 := bcellD hb1
    clear hb1
    go_simp
    exact Det1_same
  simp only [Act.put, List.setIfInBounds_toArray, List.set_cons_zero, List.set_cons_succ]
  refine detL_val (by kernel_rfl) (yields_of rfl fun w1 hb1 => ?_) ?_
  · have hc1 := bcellD hb1
    clear hb1
    go_simp
    exact Det1_enter (num_plus_ok _ _ _ p1.out hc.out p2.out)
  simp only [Act.put, List.setIfInBounds_toArray, List.set_cons_zero, List.set_cons_succ]
  refine detL_val (by kernel_rfl) (yields_of rfl fun w1 hb1 => ?_) ?_
  · have hc1 := bcellD hb1
    clear hb1
    go_simp
    exact Det1_same
  simp only [Act.put, List.setIfInBounds_toArray, List.set_cons_zero, List.set_cons_succ]
  refine detL_val (by kernel_rfl) (yields_of rfl fun w1 hb1 => ?_) ?_
  · have hc1 := bcellD hb1
    clear hb1
    go_simp
    exact Det1_same
  simp only [Act.put, List.setIfInBounds_toArray, List.set_cons_zero, List.set_cons_succ]
  refine detL_val (by kernel_rfl) (yields_of rfl fun w1 hb1 => ?_) ?_
  · have hc1 := bcellD hb1
    clear hb1
    go_simp
    exact Det1_same
  simp only [Act.put, List.setIfInBounds_toArray, List.set_cons_zero, List.set_cons_succ]
  refine detL_val (by kernel_rfl) (yields_of rfl fun w1 hb1 => ?_) ?_
  · have hc1 := bcellD hb1
    clear hb1
    go_simp
    exact Det1_enter (num_plus_ok _ _ _ hb.out hc.out p3.out)
  simp only [Act.put, List.setIfInBounds_toArray, List.set_cons_zero, List.set_cons_succ]
  refine detL_val (by kernel_rfl) (yields_of rfl fun w1 hb1 => ?_) ?_
  · have hc1 := bcellD hb1
    clear hb1
    go_simp
    exact Det1_enter (num_plus_as _ _ _ _ ha.out p3.out p2.out)
  simp only [Act.put, List.setIfInBounds_toArray, List.set_cons_zero, List.set_cons_succ]
  refine detL_val (by kernel_rfl) (yields_of rfl fun w1 hb1 => ?_) ?_
  · have hc1 := bcellD hb1
    clear hb1
    go_simp
    exact Det1_same
  simp only [Act.put, List.setIfInBounds_toArray, List.set_cons_zero, List.set_cons_succ]
  refine detL_val (by kernel_rfl) (yields_of rfl fun w1 hb1 => ?_) ?_
  · have hc1 := bcellD hb1
    clear hb1
    go_simp
    exact Det1_same
  simp only [Act.put, List.setIfInBounds_toArray, List.set_cons_zero, List.set_cons_succ]
  refine detL_val (by kernel_rfl) (yields_of rfl fun w1 hb1 => ?_) ?_
  · have hc1 := bcellD hb1
    clear hb1
    go_simp
    exact Det1_same
  simp only [Act.put, List.setIfInBounds_toArray, List.set_cons_zero, List.set_cons_succ]
  refine detL_val (by kernel_rfl) (yields_of rfl fun w1 hb1 => ?_) ?_
  · have hc1 := bcellD hb1
    clear hb1
    go_simp
    exact Det1_same
  simp only [Act.put, List.setIfInBounds_toArray, List.set_cons_zero, List.set_cons_succ]
  refine detL_val (by kernel_rfl) (yields_of rfl fun w1 hb1 => ?_) ?_
  · have hc1 := bcellD hb1
    clear hb1
    go_simp
    exact Det1_enter (num_plus_ok _ _ _ ha.out hb.out p1.out)
  simp only [Act.put, List.setIfInBounds_toArray, List.set_cons_zero, List.set_cons_succ]
  refine detL_val (by kernel_rfl) (yields_of rfl fun w1 hb1 => ?_) ?_
  · have hc1 := bcellD hb1
    clear hb1
    go_simp
    exact Det1_same
  simp only [Act.put, List.setIfInBounds_toArray, List.set_cons_zero, List.set_cons_succ]
  refine detL_val (by kernel_rfl) (yields_of rfl fun w1 hb1 => ?_) ?_
  · have hc1 := bcellD hb1
    clear hb1
    go_simp
    exact Det1_enter (num_minus_ok _ _ _ p1.out hc.out m1.out)
  simp only [Act.put, List.setIfInBounds_toArray, List.set_cons_zero, List.set_cons_succ]
  refine detL_val (by kernel_rfl) (yields_of rfl fun w1 hb1 => ?_) ?_
  · have hc1 := bcellD hb1
    clear hb1
    go_simp
    exact Det1_same
  simp only [Act.put, List.setIfInBounds_toArray, List.set_cons_zero, List.set_cons_succ]
  refine detL_val (by kernel_rfl) (yields_of rfl fun w1 hb1 => ?_) ?_
  · have hc1 := bcellD hb1
    clear hb1
    go_simp
    exact Det1_same
  simp only [Act.put, List.setIfInBounds_toArray, List.set_cons_zero, List.set_cons_succ]
  refine detL_val (by kernel_rfl) (yields_of rfl fun w1 hb1 => ?_) ?_
  · have hc1 := bcellD hb1
    clear hb1
    go_simp
    exact Det1_same
  simp only [Act.put, List.setIfInBounds_toArray, List.set_cons_zero, List.set_cons_succ]
  refine detL_val (by kernel_rfl) (yields_of rfl fun w1 hb1 => ?_) ?_
  · have hc1 := bcellD hb1
    clear hb1
    go_simp
    exact Det1_enter (num_minus_ok _ _ _ hb.out hc.out m2.out)
  simp only [Act.put, List.setIfInBounds_toArray, List.set_cons_zero, List.set_cons_succ]
  refine detL_val (by kernel_rfl) (yields_of rfl fun w1 hb1 => ?_) ?_
  · have hc1 := bcellD hb1
    clear hb1
    go_simp
    exact Det1_enter (num_plus_am _ _ _ _ ha.out m2.out m1.out)
  simp only [Act.put, List.setIfInBounds_toArray, List.set_cons_zero, List.set_cons_succ]
  refine detL_val (by kernel_rfl) (yields_of rfl fun w1 hb1 => ?_) ?_
  · have hc1 := bcellD hb1
    clear hb1
    go_simp
    exact Det1_same
  simp only [Act.put, List.setIfInBounds_toArray, List.set_cons_zero, List.set_cons_succ]
  refine detL_val (by kernel_rfl) (yields_of rfl fun w1 hb1 => ?_) ?_
  · have hc1 := bcellD hb1
    clear hb1
    go_simp
    exact Det1_same
  simp only [Act.put, List.setIfInBounds_toArray, List.set_cons_zero, List.set_cons_succ]
  refine detL_done (by kernel_rfl) fun w2 hw2 => ?_
  have hb2 := hw2.below
  have hB2 : Below w.heap.size w w2 := hB.drew.trans (hb2.mono hB.size)
  have B0 := A0.drew.later hb2
  have B1 := A1.drew.later hb2
  have hm2 : w2.cell? ⟨0, 0, none⟩ = some (.int .i64 m) := (hB2.cell (p := ⟨0, 0, none⟩) hlt).trans hm
  have lz : 0 < w2.heap.size := wlt hB2 hlt
  clear hw2 hb2 hB A0 A1 A2 A3 c1k c1i c1s l1 c2k c2i c2s l2 c3k c3i c3s l3 hW0 hmW
  have HH := Lib.hid (And.intro hB2 (And.intro B0 B1))
  have k0 := B0.k
  have i0 := B0.i
  have s0 := B0.s
  have k1 := B1.k
  have i1 := B1.i
  have s1 := B1.s
  clear hB2 B0 B1
  go_wp2_with (first
    | (go_at_call 25; refine (plus_no _ _ _ _ _ _ _ HL.out).mono ?_; rintro e w3 ⟨rfl, hb3⟩; have C0 := HH.out.2.1.later hb3; have C1 := HH.out.2.2.later hb3; have k3 := C0.k; have i3 := C0.i; have s3 := C0.s; have k4 := C1.k; have i4 := C1.i; have s4 := C1.s; clear C0 C1)
    | (go_at_call 27; refine (minus_no _ _ _ _ _ _ _ HR.out).mono ?_; rintro e w4 ⟨rfl, hb4⟩)
    | (go_at_call 20; refine (awake_any _ m ((hb4.cell (p := ⟨0, 0, none⟩) (Nat.lt_of_lt_of_le lz hb3.size)).trans ((hb3.cell (p := ⟨0, 0, none⟩) lz).trans hm2))).mono ?_; rintro e w5 ⟨rfl, hb5⟩))
  go_ret
  have q1 := HH.out.1.trans (hb3.mono HH.out.1.size)
  have q2 := q1.trans (hb4.mono q1.size)
  exact ⟨rfl, q2.trans (hb5.mono q2.size)⟩

theorem law_sums (a b c k i : Int) (s : ByteArray) (w : World) (ha : In32 a) (hb : In32 b) (hc : In32 c) (hs : s.size ≤ maxLen) (m : Int) (hm : w.cell? ⟨0, 0, none⟩ = some (.int .i64 m)) :
    Calls Tryd.prog 10 #[.agg #[.int .i32 a, .int .i32 b, .int .i32 c, .int .i64 k, .int .i64 i, .string s]] w fun e w' => e = .returned (.bool true) ∧ Below w.heap.size w w' := by
  by_cases h : k = 1
  · exact sums_one a b c k i s w ha hb hc hs h m hm
  · exact sums_not a b c k i s w ha hb hc hs h m hm
end Go.Proofs.YtljcdebaoceimaaDoor
