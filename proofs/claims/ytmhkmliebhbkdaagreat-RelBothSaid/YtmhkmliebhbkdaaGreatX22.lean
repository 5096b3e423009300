import Derived.Test.YtmhkmliebhbkdaaGreatX21
import Derived.Test.YtmhkmliebhbkdaaGreatX13

/- The document's type of an expression of two parts; of any. -/
namespace Go.Proofs.YtmhkmliebhbkdaaGreat
open Go.RowKit Go.Lib

set_option maxRecDepth 100000 in
set_option maxHeartbeats 4000000 in
theorem rtype_eq (P : Nat → Prop) (n : Nat) (k i : Int) (vs s : ByteArray) (y x : Ex) (u : Value) (A : Option Addr) (na ca : Nat) (cols : List Cl) (w : World)  (ht : Tr w P n (.mk ⟨#[61]⟩ ⟨k, i, vs⟩ s [y, x]) u) (hrec : ∀ (y9 : Ex) (u : Value) (M : Nat) (W : World), y9 ∈ [y, x] → Tr W P M y9 u → Below w.heap.size w W → Calls Tryz.prog 70 #[EVt y9 u, .slice A na ca] W fun e w' => RetII e ∧ Below W.heap.size W w') : Calls Tryz.prog 70 #[.agg #[.string ⟨#[61]⟩, .int .i64 k, .int .i64 i, .string vs, .string s, u], .slice A na ca] w fun e w' => RetII e ∧ Below w.heap.size w w' := by
  obtain ⟨a, q, u0, u1, m, m', rfl, hal, hc, hcx, ht0, ht1⟩ := kids2 ht
  obtain ⟨yop, yx, ys, yl⟩ := y
  obtain ⟨yk, yi, yv⟩ := yx
  obtain ⟨xop, xx, xs, xl⟩ := x
  obtain ⟨xk, xi, xv⟩ := xx
  have HX := Lib.hid (And.intro (And.intro hc hcx) (And.intro ht0 ht1))
  have HREC := Lib.hid hrec
  clear ht hc hcx ht0 ht1 hrec
  go_enter Tryz.func70, Tryz.ntmps70
  go_upto_region 10 with (fail)
  refine wp_gen (fun W => Below w.heap.size w W ∧ W.heap[w.heap.size]? = some (.cells #[.string ⟨#[61]⟩, .int .i64 k, .int .i64 i, .string vs, .string s, .slice (some a) 2 q] 29 (0, 0))) ⟨(Below.refl _ _).alloc (Nat.le_refl _) _, alloc_at rfl _⟩ fun w0 hw0 => ?_
  have H0 := Lib.hid hw0
  have g0 := Lib.cell_of_heap hw0.2 0
  have g1 := Lib.cell_of_heap hw0.2 1
  have g2 := Lib.cell_of_heap hw0.2 2
  have g3 := Lib.cell_of_heap hw0.2 3
  have g4 := Lib.cell_of_heap hw0.2 4
  have g5 := Lib.cell_of_heap hw0.2 5
  simp only [List.getElem?_toArray, List.getElem?_cons_zero, List.getElem?_cons_succ] at g0 g1 g2 g3 g4 g5
  have hz0 := lt_of_block hw0.2
  clear hw0
  have hx0 := HX.out.1.1.keep (W' := w0) (H0.out.1.block _ hal)
  have k0 := (hx0).c0
  have k1 := (hx0).c1
  have k2 := (hx0).c2
  have k3 := (hx0).c3
  have k4 := (hx0).c4
  have k5 := (hx0).c5
  simp only [Ex.op, Ex.x, Ex.s, Ex.l] at k0 k1 k2 k3 k4 k5
  have hal0 : a.block < w0.heap.size := by have := H0.out.1.size; omega
  clear hx0
  have HRY : Hid (Calls Tryz.prog 70 #[.agg #[.string yop, .int .i64 yk, .int .i64 yi, .string yv, .string ys, u0], .slice A na ca] w0 fun e w' => RetII e ∧ Below w0.heap.size w0 w') := Lib.hid (HREC.out (.mk yop ⟨yk, yi, yv⟩ ys yl) u0 m w0 List.mem_cons_self (HX.out.2.1.below H0.out.1) H0.out.1)
  go_upto_region 11 with (go_at_call 70; (with_reducible refine HRY.out.mono ?_); rintro e w1 ⟨⟨z1, z2, rfl⟩, hb1⟩; have HB1 := Lib.hid (And.intro (H0.out.1.trans (hb1.mono H0.out.1.size)) ((hb1.block _ hz0).trans H0.out.2)); clear hb1)
  refine wp_gen (fun W => Below w.heap.size w W ∧ W.heap[w.heap.size]? = some (.cells #[.string ⟨#[61]⟩, .int .i64 k, .int .i64 i, .string vs, .string s, .slice (some a) 2 q] 29 (0, 0))) HB1.out fun w2 hw2 => ?_
  have H2 := Lib.hid hw2
  clear g0 g1 g2 g3 g4 g5 hz0 hal0 k0 k1 k2 k3 k4 k5 HRY HB1 H0
  have g0 := Lib.cell_of_heap hw2.2 0
  have g1 := Lib.cell_of_heap hw2.2 1
  have g2 := Lib.cell_of_heap hw2.2 2
  have g3 := Lib.cell_of_heap hw2.2 3
  have g4 := Lib.cell_of_heap hw2.2 4
  have g5 := Lib.cell_of_heap hw2.2 5
  simp only [List.getElem?_toArray, List.getElem?_cons_zero, List.getElem?_cons_succ] at g0 g1 g2 g3 g4 g5
  have hz0 := lt_of_block hw2.2
  clear hw2
  obtain ⟨bf, hbf⟩ : ∃ b, (z2 != 0) = b := ⟨_, rfl⟩
  cases bf
  rotate_left
  · go_wp2_with (fail)
    go_ret2
    exact ⟨⟨_, _, rfl⟩, H2.out.1⟩
  have hx1 := HX.out.1.2.keep (W' := w2) (H2.out.1.block _ hal)
  have m0 := (hx1).c0
  have m1 := (hx1).c1
  have m2 := (hx1).c2
  have m3 := (hx1).c3
  have m4 := (hx1).c4
  have m5 := (hx1).c5
  simp only [Ex.op, Ex.x, Ex.s, Ex.l] at m0 m1 m2 m3 m4 m5
  have hal2 : a.block < w2.heap.size := by have := H2.out.1.size; omega
  clear hx1
  have HRX : Hid (Calls Tryz.prog 70 #[.agg #[.string xop, .int .i64 xk, .int .i64 xi, .string xv, .string xs, u1], .slice A na ca] w2 fun e w' => RetII e ∧ Below w2.heap.size w2 w') := Lib.hid (HREC.out (.mk xop ⟨xk, xi, xv⟩ xs xl) u1 m' w2 (List.mem_cons_of_mem _ List.mem_cons_self) (HX.out.2.2.below H2.out.1) H2.out.1)
  go_upto_region 16 with (go_at_call 70; (with_reducible refine HRX.out.mono ?_); rintro e w3 ⟨⟨y1, y2, rfl⟩, hb3⟩; have HB3 := Lib.hid (And.intro (H2.out.1.trans (hb3.mono H2.out.1.size)) ((hb3.block _ hz0).trans H2.out.2)); clear hb3)
  refine wp_gen (fun W => Below w.heap.size w W ∧ W.heap[w.heap.size]? = some (.cells #[.string ⟨#[61]⟩, .int .i64 k, .int .i64 i, .string vs, .string s, .slice (some a) 2 q] 29 (0, 0))) HB3.out fun w4 hw4 => ?_
  have H4 := Lib.hid hw4
  clear g0 g1 g2 g3 g4 g5 hz0 hal2 m0 m1 m2 m3 m4 m5 HRX HB3 H2 HX HREC
  have g0 := Lib.cell_of_heap hw4.2 0
  have g1 := Lib.cell_of_heap hw4.2 1
  have g2 := Lib.cell_of_heap hw4.2 2
  have g3 := Lib.cell_of_heap hw4.2 3
  have g4 := Lib.cell_of_heap hw4.2 4
  have g5 := Lib.cell_of_heap hw4.2 5
  simp only [List.getElem?_toArray, List.getElem?_cons_zero, List.getElem?_cons_succ] at g0 g1 g2 g3 g4 g5
  have hz0 := lt_of_block hw4.2
  clear hw4 hbf
  obtain ⟨bg, hbg⟩ : ∃ b, (y2 != 0) = b := ⟨_, rfl⟩
  cases bg
  rotate_left
  · go_wp2_with (fail)
    go_ret2
    exact ⟨⟨_, _, rfl⟩, H4.out.1⟩
  obtain ⟨b0, hb0⟩ : ∃ b, (z1 != 0) = b := ⟨_, rfl⟩
  obtain ⟨b1, hb1⟩ : ∃ b, (y1 != 0) = b := ⟨_, rfl⟩
  obtain ⟨b2, hb2⟩ : ∃ b, (z1 != y1) = b := ⟨_, rfl⟩
  cases b0 <;> cases b1 <;> cases b2
  all_goals go_wp2_with (fail)
  all_goals go_ret2
  all_goals exact ⟨⟨_, _, rfl⟩, H4.out.1⟩
set_option maxRecDepth 100000 in
set_option maxHeartbeats 4000000 in
theorem rtype_less (P : Nat → Prop) (n : Nat) (k i : Int) (vs s : ByteArray) (y x : Ex) (u : Value) (A : Option Addr) (na ca : Nat) (cols : List Cl) (w : World)  (ht : Tr w P n (.mk ⟨#[60]⟩ ⟨k, i, vs⟩ s [y, x]) u) (hrec : ∀ (y9 : Ex) (u : Value) (M : Nat) (W : World), y9 ∈ [y, x] → Tr W P M y9 u → Below w.heap.size w W → Calls Tryz.prog 70 #[EVt y9 u, .slice A na ca] W fun e w' => RetII e ∧ Below W.heap.size W w') : Calls Tryz.prog 70 #[.agg #[.string ⟨#[60]⟩, .int .i64 k, .int .i64 i, .string vs, .string s, u], .slice A na ca] w fun e w' => RetII e ∧ Below w.heap.size w w' := by
  obtain ⟨a, q, u0, u1, m, m', rfl, hal, hc, hcx, ht0, ht1⟩ := kids2 ht
  obtain ⟨yop, yx, ys, yl⟩ := y
  obtain ⟨yk, yi, yv⟩ := yx
  obtain ⟨xop, xx, xs, xl⟩ := x
  obtain ⟨xk, xi, xv⟩ := xx
  have HX := Lib.hid (And.intro (And.intro hc hcx) (And.intro ht0 ht1))
  have HREC := Lib.hid hrec
  clear ht hc hcx ht0 ht1 hrec
  go_enter Tryz.func70, Tryz.ntmps70
  go_upto_region 10 with (fail)
  refine wp_gen (fun W => Below w.heap.size w W ∧ W.heap[w.heap.size]? = some (.cells #[.string ⟨#[60]⟩, .int .i64 k, .int .i64 i, .string vs, .string s, .slice (some a) 2 q] 29 (0, 0))) ⟨(Below.refl _ _).alloc (Nat.le_refl _) _, alloc_at rfl _⟩ fun w0 hw0 => ?_
  have H0 := Lib.hid hw0
  have g0 := Lib.cell_of_heap hw0.2 0
  have g1 := Lib.cell_of_heap hw0.2 1
  have g2 := Lib.cell_of_heap hw0.2 2
  have g3 := Lib.cell_of_heap hw0.2 3
  have g4 := Lib.cell_of_heap hw0.2 4
  have g5 := Lib.cell_of_heap hw0.2 5
  simp only [List.getElem?_toArray, List.getElem?_cons_zero, List.getElem?_cons_succ] at g0 g1 g2 g3 g4 g5
  have hz0 := lt_of_block hw0.2
  clear hw0
  have hx0 := HX.out.1.1.keep (W' := w0) (H0.out.1.block _ hal)
  have k0 := (hx0).c0
  have k1 := (hx0).c1
  have k2 := (hx0).c2
  have k3 := (hx0).c3
  have k4 := (hx0).c4
  have k5 := (hx0).c5
  simp only [Ex.op, Ex.x, Ex.s, Ex.l] at k0 k1 k2 k3 k4 k5
  have hal0 : a.block < w0.heap.size := by have := H0.out.1.size; omega
  clear hx0
  have HRY : Hid (Calls Tryz.prog 70 #[.agg #[.string yop, .int .i64 yk, .int .i64 yi, .string yv, .string ys, u0], .slice A na ca] w0 fun e w' => RetII e ∧ Below w0.heap.size w0 w') := Lib.hid (HREC.out (.mk yop ⟨yk, yi, yv⟩ ys yl) u0 m w0 List.mem_cons_self (HX.out.2.1.below H0.out.1) H0.out.1)
  go_upto_region 11 with (go_at_call 70; (with_reducible refine HRY.out.mono ?_); rintro e w1 ⟨⟨z1, z2, rfl⟩, hb1⟩; have HB1 := Lib.hid (And.intro (H0.out.1.trans (hb1.mono H0.out.1.size)) ((hb1.block _ hz0).trans H0.out.2)); clear hb1)
  refine wp_gen (fun W => Below w.heap.size w W ∧ W.heap[w.heap.size]? = some (.cells #[.string ⟨#[60]⟩, .int .i64 k, .int .i64 i, .string vs, .string s, .slice (some a) 2 q] 29 (0, 0))) HB1.out fun w2 hw2 => ?_
  have H2 := Lib.hid hw2
  clear g0 g1 g2 g3 g4 g5 hz0 hal0 k0 k1 k2 k3 k4 k5 HRY HB1 H0
  have g0 := Lib.cell_of_heap hw2.2 0
  have g1 := Lib.cell_of_heap hw2.2 1
  have g2 := Lib.cell_of_heap hw2.2 2
  have g3 := Lib.cell_of_heap hw2.2 3
  have g4 := Lib.cell_of_heap hw2.2 4
  have g5 := Lib.cell_of_heap hw2.2 5
  simp only [List.getElem?_toArray, List.getElem?_cons_zero, List.getElem?_cons_succ] at g0 g1 g2 g3 g4 g5
  have hz0 := lt_of_block hw2.2
  clear hw2
  obtain ⟨bf, hbf⟩ : ∃ b, (z2 != 0) = b := ⟨_, rfl⟩
  cases bf
  rotate_left
  · go_wp2_with (fail)
    go_ret2
    exact ⟨⟨_, _, rfl⟩, H2.out.1⟩
  have hx1 := HX.out.1.2.keep (W' := w2) (H2.out.1.block _ hal)
  have m0 := (hx1).c0
  have m1 := (hx1).c1
  have m2 := (hx1).c2
  have m3 := (hx1).c3
  have m4 := (hx1).c4
  have m5 := (hx1).c5
  simp only [Ex.op, Ex.x, Ex.s, Ex.l] at m0 m1 m2 m3 m4 m5
  have hal2 : a.block < w2.heap.size := by have := H2.out.1.size; omega
  clear hx1
  have HRX : Hid (Calls Tryz.prog 70 #[.agg #[.string xop, .int .i64 xk, .int .i64 xi, .string xv, .string xs, u1], .slice A na ca] w2 fun e w' => RetII e ∧ Below w2.heap.size w2 w') := Lib.hid (HREC.out (.mk xop ⟨xk, xi, xv⟩ xs xl) u1 m' w2 (List.mem_cons_of_mem _ List.mem_cons_self) (HX.out.2.2.below H2.out.1) H2.out.1)
  go_upto_region 16 with (go_at_call 70; (with_reducible refine HRX.out.mono ?_); rintro e w3 ⟨⟨y1, y2, rfl⟩, hb3⟩; have HB3 := Lib.hid (And.intro (H2.out.1.trans (hb3.mono H2.out.1.size)) ((hb3.block _ hz0).trans H2.out.2)); clear hb3)
  refine wp_gen (fun W => Below w.heap.size w W ∧ W.heap[w.heap.size]? = some (.cells #[.string ⟨#[60]⟩, .int .i64 k, .int .i64 i, .string vs, .string s, .slice (some a) 2 q] 29 (0, 0))) HB3.out fun w4 hw4 => ?_
  have H4 := Lib.hid hw4
  clear g0 g1 g2 g3 g4 g5 hz0 hal2 m0 m1 m2 m3 m4 m5 HRX HB3 H2 HX HREC
  have g0 := Lib.cell_of_heap hw4.2 0
  have g1 := Lib.cell_of_heap hw4.2 1
  have g2 := Lib.cell_of_heap hw4.2 2
  have g3 := Lib.cell_of_heap hw4.2 3
  have g4 := Lib.cell_of_heap hw4.2 4
  have g5 := Lib.cell_of_heap hw4.2 5
  simp only [List.getElem?_toArray, List.getElem?_cons_zero, List.getElem?_cons_succ] at g0 g1 g2 g3 g4 g5
  have hz0 := lt_of_block hw4.2
  clear hw4 hbf
  obtain ⟨bg, hbg⟩ : ∃ b, (y2 != 0) = b := ⟨_, rfl⟩
  cases bg
  rotate_left
  · go_wp2_with (fail)
    go_ret2
    exact ⟨⟨_, _, rfl⟩, H4.out.1⟩
  obtain ⟨b0, hb0⟩ : ∃ b, (z1 != 0) = b := ⟨_, rfl⟩
  obtain ⟨b1, hb1⟩ : ∃ b, (y1 != 0) = b := ⟨_, rfl⟩
  obtain ⟨b2, hb2⟩ : ∃ b, (z1 != y1) = b := ⟨_, rfl⟩
  cases b0 <;> cases b1 <;> cases b2
  all_goals go_wp2_with (fail)
  all_goals go_ret2
  all_goals exact ⟨⟨_, _, rfl⟩, H4.out.1⟩
set_option maxRecDepth 100000 in
set_option maxHeartbeats 4000000 in
theorem rtype_plus (P : Nat → Prop) (n : Nat) (k i : Int) (vs s : ByteArray) (y x : Ex) (u : Value) (A : Option Addr) (na ca : Nat) (cols : List Cl) (w : World)  (ht : Tr w P n (.mk ⟨#[43]⟩ ⟨k, i, vs⟩ s [y, x]) u) (hrec : ∀ (y9 : Ex) (u : Value) (M : Nat) (W : World), y9 ∈ [y, x] → Tr W P M y9 u → Below w.heap.size w W → Calls Tryz.prog 70 #[EVt y9 u, .slice A na ca] W fun e w' => RetII e ∧ Below W.heap.size W w') : Calls Tryz.prog 70 #[.agg #[.string ⟨#[43]⟩, .int .i64 k, .int .i64 i, .string vs, .string s, u], .slice A na ca] w fun e w' => RetII e ∧ Below w.heap.size w w' := by
  obtain ⟨a, q, u0, u1, m, m', rfl, hal, hc, hcx, ht0, ht1⟩ := kids2 ht
  obtain ⟨yop, yx, ys, yl⟩ := y
  obtain ⟨yk, yi, yv⟩ := yx
  obtain ⟨xop, xx, xs, xl⟩ := x
  obtain ⟨xk, xi, xv⟩ := xx
  have HX := Lib.hid (And.intro (And.intro hc hcx) (And.intro ht0 ht1))
  have HREC := Lib.hid hrec
  clear ht hc hcx ht0 ht1 hrec
  go_enter Tryz.func70, Tryz.ntmps70
  go_upto_region 10 with (fail)
  refine wp_gen (fun W => Below w.heap.size w W ∧ W.heap[w.heap.size]? = some (.cells #[.string ⟨#[43]⟩, .int .i64 k, .int .i64 i, .string vs, .string s, .slice (some a) 2 q] 29 (0, 0))) ⟨(Below.refl _ _).alloc (Nat.le_refl _) _, alloc_at rfl _⟩ fun w0 hw0 => ?_
  have H0 := Lib.hid hw0
  have g0 := Lib.cell_of_heap hw0.2 0
  have g1 := Lib.cell_of_heap hw0.2 1
  have g2 := Lib.cell_of_heap hw0.2 2
  have g3 := Lib.cell_of_heap hw0.2 3
  have g4 := Lib.cell_of_heap hw0.2 4
  have g5 := Lib.cell_of_heap hw0.2 5
  simp only [List.getElem?_toArray, List.getElem?_cons_zero, List.getElem?_cons_succ] at g0 g1 g2 g3 g4 g5
  have hz0 := lt_of_block hw0.2
  clear hw0
  have hx0 := HX.out.1.1.keep (W' := w0) (H0.out.1.block _ hal)
  have k0 := (hx0).c0
  have k1 := (hx0).c1
  have k2 := (hx0).c2
  have k3 := (hx0).c3
  have k4 := (hx0).c4
  have k5 := (hx0).c5
  simp only [Ex.op, Ex.x, Ex.s, Ex.l] at k0 k1 k2 k3 k4 k5
  have hal0 : a.block < w0.heap.size := by have := H0.out.1.size; omega
  clear hx0
  have HRY : Hid (Calls Tryz.prog 70 #[.agg #[.string yop, .int .i64 yk, .int .i64 yi, .string yv, .string ys, u0], .slice A na ca] w0 fun e w' => RetII e ∧ Below w0.heap.size w0 w') := Lib.hid (HREC.out (.mk yop ⟨yk, yi, yv⟩ ys yl) u0 m w0 List.mem_cons_self (HX.out.2.1.below H0.out.1) H0.out.1)
  go_upto_region 11 with (go_at_call 70; (with_reducible refine HRY.out.mono ?_); rintro e w1 ⟨⟨z1, z2, rfl⟩, hb1⟩; have HB1 := Lib.hid (And.intro (H0.out.1.trans (hb1.mono H0.out.1.size)) ((hb1.block _ hz0).trans H0.out.2)); clear hb1)
  refine wp_gen (fun W => Below w.heap.size w W ∧ W.heap[w.heap.size]? = some (.cells #[.string ⟨#[43]⟩, .int .i64 k, .int .i64 i, .string vs, .string s, .slice (some a) 2 q] 29 (0, 0))) HB1.out fun w2 hw2 => ?_
  have H2 := Lib.hid hw2
  clear g0 g1 g2 g3 g4 g5 hz0 hal0 k0 k1 k2 k3 k4 k5 HRY HB1 H0
  have g0 := Lib.cell_of_heap hw2.2 0
  have g1 := Lib.cell_of_heap hw2.2 1
  have g2 := Lib.cell_of_heap hw2.2 2
  have g3 := Lib.cell_of_heap hw2.2 3
  have g4 := Lib.cell_of_heap hw2.2 4
  have g5 := Lib.cell_of_heap hw2.2 5
  simp only [List.getElem?_toArray, List.getElem?_cons_zero, List.getElem?_cons_succ] at g0 g1 g2 g3 g4 g5
  have hz0 := lt_of_block hw2.2
  clear hw2
  obtain ⟨bf, hbf⟩ : ∃ b, (z2 != 0) = b := ⟨_, rfl⟩
  cases bf
  rotate_left
  · go_wp2_with (fail)
    go_ret2
    exact ⟨⟨_, _, rfl⟩, H2.out.1⟩
  have hx1 := HX.out.1.2.keep (W' := w2) (H2.out.1.block _ hal)
  have m0 := (hx1).c0
  have m1 := (hx1).c1
  have m2 := (hx1).c2
  have m3 := (hx1).c3
  have m4 := (hx1).c4
  have m5 := (hx1).c5
  simp only [Ex.op, Ex.x, Ex.s, Ex.l] at m0 m1 m2 m3 m4 m5
  have hal2 : a.block < w2.heap.size := by have := H2.out.1.size; omega
  clear hx1
  have HRX : Hid (Calls Tryz.prog 70 #[.agg #[.string xop, .int .i64 xk, .int .i64 xi, .string xv, .string xs, u1], .slice A na ca] w2 fun e w' => RetII e ∧ Below w2.heap.size w2 w') := Lib.hid (HREC.out (.mk xop ⟨xk, xi, xv⟩ xs xl) u1 m' w2 (List.mem_cons_of_mem _ List.mem_cons_self) (HX.out.2.2.below H2.out.1) H2.out.1)
  go_upto_region 16 with (go_at_call 70; (with_reducible refine HRX.out.mono ?_); rintro e w3 ⟨⟨y1, y2, rfl⟩, hb3⟩; have HB3 := Lib.hid (And.intro (H2.out.1.trans (hb3.mono H2.out.1.size)) ((hb3.block _ hz0).trans H2.out.2)); clear hb3)
  refine wp_gen (fun W => Below w.heap.size w W ∧ W.heap[w.heap.size]? = some (.cells #[.string ⟨#[43]⟩, .int .i64 k, .int .i64 i, .string vs, .string s, .slice (some a) 2 q] 29 (0, 0))) HB3.out fun w4 hw4 => ?_
  have H4 := Lib.hid hw4
  clear g0 g1 g2 g3 g4 g5 hz0 hal2 m0 m1 m2 m3 m4 m5 HRX HB3 H2 HX HREC
  have g0 := Lib.cell_of_heap hw4.2 0
  have g1 := Lib.cell_of_heap hw4.2 1
  have g2 := Lib.cell_of_heap hw4.2 2
  have g3 := Lib.cell_of_heap hw4.2 3
  have g4 := Lib.cell_of_heap hw4.2 4
  have g5 := Lib.cell_of_heap hw4.2 5
  simp only [List.getElem?_toArray, List.getElem?_cons_zero, List.getElem?_cons_succ] at g0 g1 g2 g3 g4 g5
  have hz0 := lt_of_block hw4.2
  clear hw4 hbf
  obtain ⟨bg, hbg⟩ : ∃ b, (y2 != 0) = b := ⟨_, rfl⟩
  cases bg
  rotate_left
  · go_wp2_with (fail)
    go_ret2
    exact ⟨⟨_, _, rfl⟩, H4.out.1⟩
  obtain ⟨b0, hb0⟩ : ∃ b, (z1 != 0) = b := ⟨_, rfl⟩
  obtain ⟨b1, hb1⟩ : ∃ b, (z1 != 1) = b := ⟨_, rfl⟩
  obtain ⟨b2, hb2⟩ : ∃ b, (y1 != 0) = b := ⟨_, rfl⟩
  obtain ⟨b3, hb3⟩ : ∃ b, (y1 != 1) = b := ⟨_, rfl⟩
  cases b0 <;> cases b1 <;> cases b2 <;> cases b3
  all_goals go_wp2_with (fail)
  all_goals go_ret2
  all_goals exact ⟨⟨_, _, rfl⟩, H4.out.1⟩
set_option maxRecDepth 100000 in
set_option maxHeartbeats 4000000 in
theorem rtype_minus (P : Nat → Prop) (n : Nat) (k i : Int) (vs s : ByteArray) (y x : Ex) (u : Value) (A : Option Addr) (na ca : Nat) (cols : List Cl) (w : World)  (ht : Tr w P n (.mk ⟨#[45]⟩ ⟨k, i, vs⟩ s [y, x]) u) (hrec : ∀ (y9 : Ex) (u : Value) (M : Nat) (W : World), y9 ∈ [y, x] → Tr W P M y9 u → Below w.heap.size w W → Calls Tryz.prog 70 #[EVt y9 u, .slice A na ca] W fun e w' => RetII e ∧ Below W.heap.size W w') : Calls Tryz.prog 70 #[.agg #[.string ⟨#[45]⟩, .int .i64 k, .int .i64 i, .string vs, .string s, u], .slice A na ca] w fun e w' => RetII e ∧ Below w.heap.size w w' := by
  obtain ⟨a, q, u0, u1, m, m', rfl, hal, hc, hcx, ht0, ht1⟩ := kids2 ht
  obtain ⟨yop, yx, ys, yl⟩ := y
  obtain ⟨yk, yi, yv⟩ := yx
  obtain ⟨xop, xx, xs, xl⟩ := x
  obtain ⟨xk, xi, xv⟩ := xx
  have HX := Lib.hid (And.intro (And.intro hc hcx) (And.intro ht0 ht1))
  have HREC := Lib.hid hrec
  clear ht hc hcx ht0 ht1 hrec
  go_enter Tryz.func70, Tryz.ntmps70
  go_upto_region 10 with (fail)
  refine wp_gen (fun W => Below w.heap.size w W ∧ W.heap[w.heap.size]? = some (.cells #[.string ⟨#[45]⟩, .int .i64 k, .int .i64 i, .string vs, .string s, .slice (some a) 2 q] 29 (0, 0))) ⟨(Below.refl _ _).alloc (Nat.le_refl _) _, alloc_at rfl _⟩ fun w0 hw0 => ?_
  have H0 := Lib.hid hw0
  have g0 := Lib.cell_of_heap hw0.2 0
  have g1 := Lib.cell_of_heap hw0.2 1
  have g2 := Lib.cell_of_heap hw0.2 2
  have g3 := Lib.cell_of_heap hw0.2 3
  have g4 := Lib.cell_of_heap hw0.2 4
  have g5 := Lib.cell_of_heap hw0.2 5
  simp only [List.getElem?_toArray, List.getElem?_cons_zero, List.getElem?_cons_succ] at g0 g1 g2 g3 g4 g5
  have hz0 := lt_of_block hw0.2
  clear hw0
  have hx0 := HX.out.1.1.keep (W' := w0) (H0.out.1.block _ hal)
  have k0 := (hx0).c0
  have k1 := (hx0).c1
  have k2 := (hx0).c2
  have k3 := (hx0).c3
  have k4 := (hx0).c4
  have k5 := (hx0).c5
  simp only [Ex.op, Ex.x, Ex.s, Ex.l] at k0 k1 k2 k3 k4 k5
  have hal0 : a.block < w0.heap.size := by have := H0.out.1.size; omega
  clear hx0
  have HRY : Hid (Calls Tryz.prog 70 #[.agg #[.string yop, .int .i64 yk, .int .i64 yi, .string yv, .string ys, u0], .slice A na ca] w0 fun e w' => RetII e ∧ Below w0.heap.size w0 w') := Lib.hid (HREC.out (.mk yop ⟨yk, yi, yv⟩ ys yl) u0 m w0 List.mem_cons_self (HX.out.2.1.below H0.out.1) H0.out.1)
  go_upto_region 11 with (go_at_call 70; (with_reducible refine HRY.out.mono ?_); rintro e w1 ⟨⟨z1, z2, rfl⟩, hb1⟩; have HB1 := Lib.hid (And.intro (H0.out.1.trans (hb1.mono H0.out.1.size)) ((hb1.block _ hz0).trans H0.out.2)); clear hb1)
  refine wp_gen (fun W => Below w.heap.size w W ∧ W.heap[w.heap.size]? = some (.cells #[.string ⟨#[45]⟩, .int .i64 k, .int .i64 i, .string vs, .string s, .slice (some a) 2 q] 29 (0, 0))) HB1.out fun w2 hw2 => ?_
  have H2 := Lib.hid hw2
  clear g0 g1 g2 g3 g4 g5 hz0 hal0 k0 k1 k2 k3 k4 k5 HRY HB1 H0
  have g0 := Lib.cell_of_heap hw2.2 0
  have g1 := Lib.cell_of_heap hw2.2 1
  have g2 := Lib.cell_of_heap hw2.2 2
  have g3 := Lib.cell_of_heap hw2.2 3
  have g4 := Lib.cell_of_heap hw2.2 4
  have g5 := Lib.cell_of_heap hw2.2 5
  simp only [List.getElem?_toArray, List.getElem?_cons_zero, List.getElem?_cons_succ] at g0 g1 g2 g3 g4 g5
  have hz0 := lt_of_block hw2.2
  clear hw2
  obtain ⟨bf, hbf⟩ : ∃ b, (z2 != 0) = b := ⟨_, rfl⟩
  cases bf
  rotate_left
  · go_wp2_with (fail)
    go_ret2
    exact ⟨⟨_, _, rfl⟩, H2.out.1⟩
  have hx1 := HX.out.1.2.keep (W' := w2) (H2.out.1.block _ hal)
  have m0 := (hx1).c0
  have m1 := (hx1).c1
  have m2 := (hx1).c2
  have m3 := (hx1).c3
  have m4 := (hx1).c4
  have m5 := (hx1).c5
  simp only [Ex.op, Ex.x, Ex.s, Ex.l] at m0 m1 m2 m3 m4 m5
  have hal2 : a.block < w2.heap.size := by have := H2.out.1.size; omega
  clear hx1
  have HRX : Hid (Calls Tryz.prog 70 #[.agg #[.string xop, .int .i64 xk, .int .i64 xi, .string xv, .string xs, u1], .slice A na ca] w2 fun e w' => RetII e ∧ Below w2.heap.size w2 w') := Lib.hid (HREC.out (.mk xop ⟨xk, xi, xv⟩ xs xl) u1 m' w2 (List.mem_cons_of_mem _ List.mem_cons_self) (HX.out.2.2.below H2.out.1) H2.out.1)
  go_upto_region 16 with (go_at_call 70; (with_reducible refine HRX.out.mono ?_); rintro e w3 ⟨⟨y1, y2, rfl⟩, hb3⟩; have HB3 := Lib.hid (And.intro (H2.out.1.trans (hb3.mono H2.out.1.size)) ((hb3.block _ hz0).trans H2.out.2)); clear hb3)
  refine wp_gen (fun W => Below w.heap.size w W ∧ W.heap[w.heap.size]? = some (.cells #[.string ⟨#[45]⟩, .int .i64 k, .int .i64 i, .string vs, .string s, .slice (some a) 2 q] 29 (0, 0))) HB3.out fun w4 hw4 => ?_
  have H4 := Lib.hid hw4
  clear g0 g1 g2 g3 g4 g5 hz0 hal2 m0 m1 m2 m3 m4 m5 HRX HB3 H2 HX HREC
  have g0 := Lib.cell_of_heap hw4.2 0
  have g1 := Lib.cell_of_heap hw4.2 1
  have g2 := Lib.cell_of_heap hw4.2 2
  have g3 := Lib.cell_of_heap hw4.2 3
  have g4 := Lib.cell_of_heap hw4.2 4
  have g5 := Lib.cell_of_heap hw4.2 5
  simp only [List.getElem?_toArray, List.getElem?_cons_zero, List.getElem?_cons_succ] at g0 g1 g2 g3 g4 g5
  have hz0 := lt_of_block hw4.2
  clear hw4 hbf
  obtain ⟨bg, hbg⟩ : ∃ b, (y2 != 0) = b := ⟨_, rfl⟩
  cases bg
  rotate_left
  · go_wp2_with (fail)
    go_ret2
    exact ⟨⟨_, _, rfl⟩, H4.out.1⟩
  obtain ⟨b0, hb0⟩ : ∃ b, (z1 != 0) = b := ⟨_, rfl⟩
  obtain ⟨b1, hb1⟩ : ∃ b, (z1 != 1) = b := ⟨_, rfl⟩
  obtain ⟨b2, hb2⟩ : ∃ b, (y1 != 0) = b := ⟨_, rfl⟩
  obtain ⟨b3, hb3⟩ : ∃ b, (y1 != 1) = b := ⟨_, rfl⟩
  cases b0 <;> cases b1 <;> cases b2 <;> cases b3
  all_goals go_wp2_with (fail)
  all_goals go_ret2
  all_goals exact ⟨⟨_, _, rfl⟩, H4.out.1⟩
set_option maxRecDepth 100000 in
set_option maxHeartbeats 4000000 in
theorem rtype_oth (P : Nat → Prop) (n : Nat) (op : ByteArray) (k i : Int) (vs s : ByteArray) (y x : Ex) (u : Value) (A : Option Addr) (na ca : Nat) (cols : List Cl) (w : World) (hn0 : (op.toList == [108, 105, 116]) = false) (hn1 : (op.toList == [99, 111, 108]) = false) (hn2 : (op.toList == [110, 117, 108, 108]) = false) (hn3 : (op.toList == [61]) = false) (hn4 : (op.toList == [60]) = false) (hn5 : (op.toList == [43]) = false) (hn6 : (op.toList == [45]) = false) (ht : Tr w P n (.mk op ⟨k, i, vs⟩ s [y, x]) u) (hrec : ∀ (y9 : Ex) (u : Value) (M : Nat) (W : World), y9 ∈ [y, x] → Tr W P M y9 u → Below w.heap.size w W → Calls Tryz.prog 70 #[EVt y9 u, .slice A na ca] W fun e w' => RetII e ∧ Below W.heap.size W w') : Calls Tryz.prog 70 #[.agg #[.string op, .int .i64 k, .int .i64 i, .string vs, .string s, u], .slice A na ca] w fun e w' => RetII e ∧ Below w.heap.size w w' := by
  have hq0 : ¬ op.toList = [108, 105, 116] := by simpa using hn0
  have hq1 : ¬ op.toList = [99, 111, 108] := by simpa using hn1
  have hq2 : ¬ op.toList = [110, 117, 108, 108] := by simpa using hn2
  have hq3 : ¬ op.toList = [61] := by simpa using hn3
  have hq4 : ¬ op.toList = [60] := by simpa using hn4
  have hq5 : ¬ op.toList = [43] := by simpa using hn5
  have hq6 : ¬ op.toList = [45] := by simpa using hn6
  obtain ⟨a, q, u0, u1, m, m', rfl, hal, hc, hcx, ht0, ht1⟩ := kids2 ht
  obtain ⟨yop, yx, ys, yl⟩ := y
  obtain ⟨yk, yi, yv⟩ := yx
  obtain ⟨xop, xx, xs, xl⟩ := x
  obtain ⟨xk, xi, xv⟩ := xx
  have HX := Lib.hid (And.intro (And.intro hc hcx) (And.intro ht0 ht1))
  have HREC := Lib.hid hrec
  clear ht hc hcx ht0 ht1 hrec
  go_enter Tryz.func70, Tryz.ntmps70
  go_upto_region 10 with (fail)
  refine wp_gen (fun W => Below w.heap.size w W ∧ W.heap[w.heap.size]? = some (.cells #[.string op, .int .i64 k, .int .i64 i, .string vs, .string s, .slice (some a) 2 q] 29 (0, 0))) ⟨(Below.refl _ _).alloc (Nat.le_refl _) _, alloc_at rfl _⟩ fun w0 hw0 => ?_
  have H0 := Lib.hid hw0
  have g0 := Lib.cell_of_heap hw0.2 0
  have g1 := Lib.cell_of_heap hw0.2 1
  have g2 := Lib.cell_of_heap hw0.2 2
  have g3 := Lib.cell_of_heap hw0.2 3
  have g4 := Lib.cell_of_heap hw0.2 4
  have g5 := Lib.cell_of_heap hw0.2 5
  simp only [List.getElem?_toArray, List.getElem?_cons_zero, List.getElem?_cons_succ] at g0 g1 g2 g3 g4 g5
  have hz0 := lt_of_block hw0.2
  clear hw0
  have hx0 := HX.out.1.1.keep (W' := w0) (H0.out.1.block _ hal)
  have k0 := (hx0).c0
  have k1 := (hx0).c1
  have k2 := (hx0).c2
  have k3 := (hx0).c3
  have k4 := (hx0).c4
  have k5 := (hx0).c5
  simp only [Ex.op, Ex.x, Ex.s, Ex.l] at k0 k1 k2 k3 k4 k5
  have hal0 : a.block < w0.heap.size := by have := H0.out.1.size; omega
  clear hx0
  have HRY : Hid (Calls Tryz.prog 70 #[.agg #[.string yop, .int .i64 yk, .int .i64 yi, .string yv, .string ys, u0], .slice A na ca] w0 fun e w' => RetII e ∧ Below w0.heap.size w0 w') := Lib.hid (HREC.out (.mk yop ⟨yk, yi, yv⟩ ys yl) u0 m w0 List.mem_cons_self (HX.out.2.1.below H0.out.1) H0.out.1)
  go_upto_region 11 with (go_at_call 70; (with_reducible refine HRY.out.mono ?_); rintro e w1 ⟨⟨z1, z2, rfl⟩, hb1⟩; have HB1 := Lib.hid (And.intro (H0.out.1.trans (hb1.mono H0.out.1.size)) ((hb1.block _ hz0).trans H0.out.2)); clear hb1)
  refine wp_gen (fun W => Below w.heap.size w W ∧ W.heap[w.heap.size]? = some (.cells #[.string op, .int .i64 k, .int .i64 i, .string vs, .string s, .slice (some a) 2 q] 29 (0, 0))) HB1.out fun w2 hw2 => ?_
  have H2 := Lib.hid hw2
  clear g0 g1 g2 g3 g4 g5 hz0 hal0 k0 k1 k2 k3 k4 k5 HRY HB1 H0
  have g0 := Lib.cell_of_heap hw2.2 0
  have g1 := Lib.cell_of_heap hw2.2 1
  have g2 := Lib.cell_of_heap hw2.2 2
  have g3 := Lib.cell_of_heap hw2.2 3
  have g4 := Lib.cell_of_heap hw2.2 4
  have g5 := Lib.cell_of_heap hw2.2 5
  simp only [List.getElem?_toArray, List.getElem?_cons_zero, List.getElem?_cons_succ] at g0 g1 g2 g3 g4 g5
  have hz0 := lt_of_block hw2.2
  clear hw2
  obtain ⟨bf, hbf⟩ : ∃ b, (z2 != 0) = b := ⟨_, rfl⟩
  cases bf
  rotate_left
  · go_wp2_with (fail)
    go_ret2
    exact ⟨⟨_, _, rfl⟩, H2.out.1⟩
  have hx1 := HX.out.1.2.keep (W' := w2) (H2.out.1.block _ hal)
  have m0 := (hx1).c0
  have m1 := (hx1).c1
  have m2 := (hx1).c2
  have m3 := (hx1).c3
  have m4 := (hx1).c4
  have m5 := (hx1).c5
  simp only [Ex.op, Ex.x, Ex.s, Ex.l] at m0 m1 m2 m3 m4 m5
  have hal2 : a.block < w2.heap.size := by have := H2.out.1.size; omega
  clear hx1
  have HRX : Hid (Calls Tryz.prog 70 #[.agg #[.string xop, .int .i64 xk, .int .i64 xi, .string xv, .string xs, u1], .slice A na ca] w2 fun e w' => RetII e ∧ Below w2.heap.size w2 w') := Lib.hid (HREC.out (.mk xop ⟨xk, xi, xv⟩ xs xl) u1 m' w2 (List.mem_cons_of_mem _ List.mem_cons_self) (HX.out.2.2.below H2.out.1) H2.out.1)
  go_upto_region 16 with (go_at_call 70; (with_reducible refine HRX.out.mono ?_); rintro e w3 ⟨⟨y1, y2, rfl⟩, hb3⟩; have HB3 := Lib.hid (And.intro (H2.out.1.trans (hb3.mono H2.out.1.size)) ((hb3.block _ hz0).trans H2.out.2)); clear hb3)
  refine wp_gen (fun W => Below w.heap.size w W ∧ W.heap[w.heap.size]? = some (.cells #[.string op, .int .i64 k, .int .i64 i, .string vs, .string s, .slice (some a) 2 q] 29 (0, 0))) HB3.out fun w4 hw4 => ?_
  have H4 := Lib.hid hw4
  clear g0 g1 g2 g3 g4 g5 hz0 hal2 m0 m1 m2 m3 m4 m5 HRX HB3 H2 HX HREC
  have g0 := Lib.cell_of_heap hw4.2 0
  have g1 := Lib.cell_of_heap hw4.2 1
  have g2 := Lib.cell_of_heap hw4.2 2
  have g3 := Lib.cell_of_heap hw4.2 3
  have g4 := Lib.cell_of_heap hw4.2 4
  have g5 := Lib.cell_of_heap hw4.2 5
  simp only [List.getElem?_toArray, List.getElem?_cons_zero, List.getElem?_cons_succ] at g0 g1 g2 g3 g4 g5
  have hz0 := lt_of_block hw4.2
  clear hw4 hbf
  obtain ⟨bg, hbg⟩ : ∃ b, (y2 != 0) = b := ⟨_, rfl⟩
  cases bg
  rotate_left
  · go_wp2_with (fail)
    go_ret2
    exact ⟨⟨_, _, rfl⟩, H4.out.1⟩
  obtain ⟨b0, hb0⟩ : ∃ b, (z1 != 0) = b := ⟨_, rfl⟩
  obtain ⟨b1, hb1⟩ : ∃ b, (z1 != 3) = b := ⟨_, rfl⟩
  obtain ⟨b2, hb2⟩ : ∃ b, (y1 != 0) = b := ⟨_, rfl⟩
  obtain ⟨b3, hb3⟩ : ∃ b, (y1 != 3) = b := ⟨_, rfl⟩
  cases b0 <;> cases b1 <;> cases b2 <;> cases b3
  all_goals go_wp2_with (fail)
  all_goals go_ret2
  all_goals exact ⟨⟨_, _, rfl⟩, H4.out.1⟩
set_option maxRecDepth 100000 in
theorem rtype_any (P : Nat → Prop) (A : Option Addr) (na ca : Nat) (cols : List Cl) : ∀ (d : Nat) (t : Ex) (u : Value) (n : Nat) (w : World), frm d t → Tr w P n t u → ColS w A na cols → Calls Tryz.prog 70 #[EVt t u, .slice A na ca] w fun e w' => RetII e ∧ Below w.heap.size w w'
  | 0, t, u, n, w, hf, _, _ => hf.elim
  | d + 1, t, u, n, w, hf, ht, hc => by
    obtain ⟨B, q, e, _⟩ := ht.form
    subst e
    cases t with
    | mk op x s l =>
    obtain ⟨k, i, vs⟩ := x
    unfold EVt
    unfold frm at hf
    simp only [Ex.op, Ex.x, Ex.s, Ex.l] at ht hf ⊢
    have hrec : (∀ y ∈ l, frm d y) → ∀ (y9 : Ex) (u : Value) (M : Nat) (W : World), y9 ∈ l → Tr W P M y9 u → Below w.heap.size w W → Calls Tryz.prog 70 #[EVt y9 u, .slice A na ca] W fun e w' => RetII e ∧ Below W.heap.size W w' :=
      fun hk y u M W hy hT hW => rtype_any P A na ca cols d y u M W (hk y hy) hT (hc.below hW)
    rcases hf with h | h | ⟨h, hl, hk⟩ | ⟨⟨h1, h2, h3, h4⟩, hl, hk⟩
    · obtain rfl := bytes_of h
      exact rtype_lit k i vs s B l.length q A na ca cols w
    · obtain rfl := bytes_of h
      exact rtype_col k i vs s B l.length q A na ca cols w hc
    · obtain ⟨y, rfl⟩ := len_one hl
      rcases h with h | h
      · obtain rfl := bytes_of h
        exact rtype_not P n k i vs s y _ A na ca cols w ht (hrec hk)
      · obtain rfl := bytes_of h
        exact rtype_null P n k i vs s y _ A na ca cols w ht (hrec hk)
    · obtain ⟨y, z, rfl⟩ := len_two hl
      by_cases g1 : op.toList = [61]
      · obtain rfl := bytes_of g1
        exact rtype_eq P n k i vs s y z _ A na ca cols w ht (hrec hk)
      by_cases g2 : op.toList = [60]
      · obtain rfl := bytes_of g2
        exact rtype_less P n k i vs s y z _ A na ca cols w ht (hrec hk)
      by_cases g3 : op.toList = [43]
      · obtain rfl := bytes_of g3
        exact rtype_plus P n k i vs s y z _ A na ca cols w ht (hrec hk)
      by_cases g4 : op.toList = [45]
      · obtain rfl := bytes_of g4
        exact rtype_minus P n k i vs s y z _ A na ca cols w ht (hrec hk)
      exact rtype_oth P n op k i vs s y z _ A na ca cols w (neB h1) (neB h2) (neB h4) (neB g1) (neB g2) (neB g3) (neB g4) ht (hrec hk)
end Go.Proofs.YtmhkmliebhbkdaaGreat

/- The document's value of an expression. -/
namespace Go.Proofs.YtmhkmliebhbkdaaGreat
open Go.RowKit Go.Lib

def RetV (e : Ending) : Prop := ∃ x : Vl, okV x ∧ e = .returned (.agg #[.int .i64 x.k, .int .i64 x.i, .string x.s])
theorem ok_not (x : Vl) : okV (notV x) := by have h := ok_op [110, 111, 116] [x]; simpa [opF] using h
theorem ok_and (x y : Vl) : okV (andV x y) := by have h := ok_op [97, 110, 100] [x, y]; simpa [opF] using h
theorem ok_or (x y : Vl) : okV (orV x y) := by have h := ok_op [111, 114] [x, y]; simpa [opF] using h
set_option maxRecDepth 100000 in
set_option maxHeartbeats 4000000 in
theorem rtruth_any (b : Bool) (w : World) : Calls Tryz.prog 71 #[.bool b] w fun e w' => e = .returned (.agg #[.int .i64 3, .int .i64 (b2i b), .string ⟨#[]⟩]) ∧ Below w.heap.size w w' := by
  have hz : (w.alloc (.cells #[.int .i64 0, .int .i64 0, .string ⟨#[]⟩] 26)).heap[w.heap.size]? = some (.cells #[.int .i64 0, .int .i64 0, .string ⟨#[]⟩] 26 (0, 0)) := alloc_at rfl _
  cases b
  · 
    go_enter Tryz.func71, Tryz.ntmps71
    go_wp2_with (refine wpList_store_row rfl 26 (.tmp 2) (.tmp 5) rfl w.heap.size #[.int .i64 3, .int .i64 0, .string ⟨#[]⟩] rfl rfl 26 _ hz valSize rfl (val_one ⟨3, 0, ⟨#[]⟩⟩) ?_)
    refine bodyPost_ret (results_cell_row rfl _ _ w.heap.size 26 #[.int .i64 3, .int .i64 0, .string ⟨#[]⟩] (0, 0) _ rfl (setRow_heap _ _ _ _ _ _ hz) Tryz.underlying26 rfl valSize) rfl ⟨rfl, below_row ((Below.refl _ _).alloc (Nat.le_refl _) _) _ (Nat.le_refl _)⟩
  · 
    go_enter Tryz.func71, Tryz.ntmps71
    go_wp2_with (refine wpList_store_row rfl 26 (.tmp 2) (.tmp 4) rfl w.heap.size #[.int .i64 3, .int .i64 1, .string ⟨#[]⟩] rfl rfl 26 _ hz valSize rfl (val_one ⟨3, 1, ⟨#[]⟩⟩) ?_)
    refine bodyPost_ret (results_cell_row rfl _ _ w.heap.size 26 #[.int .i64 3, .int .i64 1, .string ⟨#[]⟩] (0, 0) _ rfl (setRow_heap _ _ _ _ _ _ hz) Tryz.underlying26 rfl valSize) rfl ⟨rfl, below_row ((Below.refl _ _).alloc (Nat.le_refl _) _) _ (Nat.le_refl _)⟩
set_option maxRecDepth 100000 in
set_option maxHeartbeats 4000000 in
theorem reval_lit (k i : Int) (vs s : ByteArray) (B : Option Addr) (p q : Nat) (A : Option Addr) (na ca : Nat) (cols : List Cl) (D : Option Addr) (nv cv : Nat) (row : List Vl) (w : World) (hk : okV ⟨k, i, vs⟩) : Calls Tryz.prog 36 #[.agg #[.string ⟨#[108, 105, 116]⟩, .int .i64 k, .int .i64 i, .string vs, .string s, .slice B p q], .slice A na ca, .slice D nv cv] w fun e w' => RetV e ∧ Below w.heap.size w w' := by
  have HOK := Lib.hid hk
  clear hk
  go_enter Tryz.func36, Tryz.ntmps36
  go_upto_region 1 with (fail)
  refine wp_gen (fun W => Below w.heap.size w W ∧ W.heap[w.heap.size]? = some (.cells #[.string ⟨#[108, 105, 116]⟩, .int .i64 k, .int .i64 i, .string vs, .string s, .slice B p q] 29 (0, 0)) ∧ W.heap[w.heap.size + 1]? = some (.cells #[.int .i64 0, .int .i64 0, .string ⟨#[]⟩] 26 (0, 0))) ⟨((Below.refl _ _).alloc (Nat.le_refl _) _).alloc (by simp) _, (Below.heap_alloc _ _ _ (by simp)).trans (alloc_at rfl _), alloc_at (by simp) _⟩ fun w0 hw0 => ?_
  have H0 := Lib.hid hw0
  have g0 := Lib.cell_of_heap hw0.2.1 0
  have g1 := Lib.cell_of_heap hw0.2.1 1
  have g2 := Lib.cell_of_heap hw0.2.1 2
  have g3 := Lib.cell_of_heap hw0.2.1 3
  have g4 := Lib.cell_of_heap hw0.2.1 4
  have g5 := Lib.cell_of_heap hw0.2.1 5
  simp only [List.getElem?_toArray, List.getElem?_cons_zero, List.getElem?_cons_succ] at g0 g1 g2 g3 g4 g5
  have hz0 := lt_of_block hw0.2.1
  have hz0' := lt_of_block hw0.2.2
  clear hw0
  go_wp2_with (refine wpList_store_row rfl 26 (.tmp 6) (.tmp 15) rfl (w.heap.size + 1) #[.int .i64 k, .int .i64 i, .string vs] rfl rfl 26 _ H0.out.2.2 valSize rfl (val_one ⟨k, i, vs⟩) ?_)
  refine bodyPost_ret (results_cell_row rfl _ _ (w.heap.size + 1) 26 #[.int .i64 k, .int .i64 i, .string vs] (0, 0) _ rfl (setRow_heap _ _ _ _ _ _ H0.out.2.2) Tryz.underlying26 rfl valSize) rfl ⟨⟨⟨k, i, vs⟩, HOK.out, rfl⟩, below_row H0.out.1 _ (by omega)⟩
set_option maxRecDepth 100000 in
set_option maxHeartbeats 4000000 in
theorem reval_col (k i : Int) (vs s : ByteArray) (B : Option Addr) (p q : Nat) (A : Option Addr) (na ca : Nat) (cols : List Cl) (D : Option Addr) (nv cv : Nat) (row : List Vl) (w : World) (hc : ColS w A na cols) (hnv : nv ≤ 1000) (hv : Vals w w.heap.size D nv row) (hok : ∀ x ∈ row, okV x) : Calls Tryz.prog 36 #[.agg #[.string ⟨#[99, 111, 108]⟩, .int .i64 k, .int .i64 i, .string vs, .string s, .slice B p q], .slice A na ca, .slice D nv cv] w fun e w' => RetV e ∧ Below w.heap.size w w' := by
  have HC := Lib.hid hc
  have HL := Lib.hid hc.1
  have HV := Lib.hid hv
  have HVL := Lib.hid hv.1
  have HOK := Lib.hid hok
  have hn : na ≤ maxLen := hc.2.1
  unfold maxLen at hn
  clear hc hv hok
  go_enter Tryz.func36, Tryz.ntmps36
  go_upto_region 1 with (fail)
  refine wp_gen (fun W => Below w.heap.size w W ∧ W.heap[w.heap.size]? = some (.cells #[.string ⟨#[99, 111, 108]⟩, .int .i64 k, .int .i64 i, .string vs, .string s, .slice B p q] 29 (0, 0)) ∧ W.heap[w.heap.size + 1]? = some (.cells #[.int .i64 0, .int .i64 0, .string ⟨#[]⟩] 26 (0, 0))) ⟨((Below.refl _ _).alloc (Nat.le_refl _) _).alloc (by simp) _, (Below.heap_alloc _ _ _ (by simp)).trans (alloc_at rfl _), alloc_at (by simp) _⟩ fun w0 hw0 => ?_
  have H0 := Lib.hid hw0
  have g0 := Lib.cell_of_heap hw0.2.1 0
  have g1 := Lib.cell_of_heap hw0.2.1 1
  have g2 := Lib.cell_of_heap hw0.2.1 2
  have g3 := Lib.cell_of_heap hw0.2.1 3
  have g4 := Lib.cell_of_heap hw0.2.1 4
  have g5 := Lib.cell_of_heap hw0.2.1 5
  simp only [List.getElem?_toArray, List.getElem?_cons_zero, List.getElem?_cons_succ] at g0 g1 g2 g3 g4 g5
  have hz0 := lt_of_block hw0.2.1
  have hz0' := lt_of_block hw0.2.2
  clear hw0
  go_wp2_with (fail)
  go_loopw [7] (fun iv wr => ∃ j : Nat, iv = .int .i64 j ∧ j ≤ na ∧ Hid (Below w.heap.size w wr ∧ wr.heap[w.heap.size]? = some (.cells #[.string ⟨#[99, 111, 108]⟩, .int .i64 k, .int .i64 i, .string vs, .string s, .slice B p q] 29 (0, 0)) ∧ wr.heap[w.heap.size + 1]? = some (.cells #[.int .i64 0, .int .i64 0, .string ⟨#[]⟩] 26 (0, 0)))) (fun iv _ => na - (intOf iv).toNat)
  case atStart => exact ⟨0, rfl, by omega, H0⟩
  case round =>
    obtain ⟨j, rfl, hj, HS⟩ := hrel
    have hbx := HS.out.2.1
    clear g0 g1 g2 g3 g4 g5 hz0 hz0'
    have g0 := Lib.cell_of_heap hbx 0
    have g1 := Lib.cell_of_heap hbx 1
    have g2 := Lib.cell_of_heap hbx 2
    have g3 := Lib.cell_of_heap hbx 3
    have g4 := Lib.cell_of_heap hbx 4
    have g5 := Lib.cell_of_heap hbx 5
    simp only [List.getElem?_toArray, List.getElem?_cons_zero, List.getElem?_cons_succ] at g0 g1 g2 g3 g4 g5
    have hz0 := lt_of_block hbx
    have hz0' := lt_of_block HS.out.2.2
    clear hbx
    by_cases hlt : j < na
    · obtain ⟨a, rfl, hE⟩ := (HC.out.below HS.out.1).2.2 j (by rw [HL.out]; exact hlt)
      have hal := hE.lt
      have e0 := hE.c0
      clear hE
      generalize (cols[j]'(by rw [HL.out]; exact hlt)).n = x at e0
      by_cases hq : x.toList = s.toList
      · have hq2 : (x.toList == s.toList) = true := by simp [hq]
        go_upto_region 8 with (fail)
        refine detL_begin [.val (.slice (some a) na ca), .val (.int .i64 j), .val (.pointer (some (a.add (j * 3)))), .val (.pointer (some (a.add (j * 3)))), .val (.string x), .val (.pointer (some ⟨w.heap.size, 4, none⟩)), .val (.string s), .val (.bool true)] 8 (by kernel_rfl) ?_
        refine detL_val (by kernel_rfl) (yields_of rfl fun w5 hb5 => ?_) ?_
        · have hc5 := bcellD hb5
          skip
          clear hb5
          go_simp
          exact Det1_same
        simp only [Act.put, List.setIfInBounds_toArray, List.set_cons_zero, List.set_cons_succ]
        refine detL_val (by kernel_rfl) (yields_of rfl fun w5 hb5 => ?_) ?_
        · have hc5 := bcellD hb5
          skip
          clear hb5
          go_simp
          exact Det1_same
        simp only [Act.put, List.setIfInBounds_toArray, List.set_cons_zero, List.set_cons_succ]
        refine detL_val (by kernel_rfl) (yields_of rfl fun w5 hb5 => ?_) ?_
        · have hc5 := bcellD hb5
          skip
          clear hb5
          go_simp
          exact Det1_same
        simp only [Act.put, List.setIfInBounds_toArray, List.set_cons_zero, List.set_cons_succ]
        refine detL_val (by kernel_rfl) (yields_of rfl fun w5 hb5 => ?_) ?_
        · have hc5 := bcellD hb5
          skip
          clear hb5
          go_simp
          exact Det1_same
        simp only [Act.put, List.setIfInBounds_toArray, List.set_cons_zero, List.set_cons_succ]
        refine detL_val (by kernel_rfl) (yields_of rfl fun w5 hb5 => ?_) ?_
        · have hc5 := bcellD hb5
          have m0 := (hb5.cell (p := a.add (j * 3)) hal).trans e0
          clear hb5
          go_simp
          exact Det1_same
        simp only [Act.put, List.setIfInBounds_toArray, List.set_cons_zero, List.set_cons_succ]
        refine detL_val (by kernel_rfl) (yields_of rfl fun w5 hb5 => ?_) ?_
        · have hc5 := bcellD hb5
          skip
          clear hb5
          go_simp
          exact Det1_same
        simp only [Act.put, List.setIfInBounds_toArray, List.set_cons_zero, List.set_cons_succ]
        refine detL_val (by kernel_rfl) (yields_of rfl fun w5 hb5 => ?_) ?_
        · have hc5 := bcellD hb5
          skip
          clear hb5
          go_simp
          exact Det1_same
        simp only [Act.put, List.setIfInBounds_toArray, List.set_cons_zero, List.set_cons_succ]
        refine detL_val (by kernel_rfl) (yields_of rfl fun w5 hb5 => ?_) ?_
        · have hc5 := bcellD hb5
          skip
          clear hb5
          go_simp
          exact Det1_same
        simp only [Act.put, List.setIfInBounds_toArray, List.set_cons_zero, List.set_cons_succ]
        refine detL_done (by kernel_rfl) fun w6 hw6 => ?_
        have hb6 : Below wr.heap.size wr w6 := (Below.refl _ _).drew.trans hw6.below
        have H6 := Lib.hid (show Below w.heap.size w w6 ∧ w6.heap[w.heap.size]? = some (.cells #[.string ⟨#[99, 111, 108]⟩, .int .i64 k, .int .i64 i, .string vs, .string s, .slice B p q] 29 (0, 0)) ∧ w6.heap[w.heap.size + 1]? = some (.cells #[.int .i64 0, .int .i64 0, .string ⟨#[]⟩] 26 (0, 0)) from ⟨HS.out.1.trans (hb6.mono HS.out.1.size), (hb6.block _ hz0).trans HS.out.2.1, (hb6.block _ hz0').trans HS.out.2.2⟩)
        clear hw6 hb6
        by_cases hjv : j < nv
        · have hjr : j < row.length := by rw [HVL.out]; exact hjv
          obtain ⟨a2, rfl, hx, hb2⟩ := HV.out.2 j hjr
          have HOKJ := Lib.hid (HOK.out row[j] (List.getElem_mem hjr))
          have hx6 := hx.keep (W' := w6) H6.out.1 (by rw [add_block]; exact hb2)
          generalize row[j] = r at hx hx6 HOKJ
          have r0 := hx6.k
          have r1 := hx6.i
          have r2 := hx6.s
          have hrl : (a2.add (j * 3)).block < w6.heap.size := by rw [add_block]; have := H6.out.1.size; omega
          clear hx hx6
          go_wp2_with (refine wpList_store_row rfl 26 (.tmp 6) (.tmp 39) rfl (w.heap.size + 1) #[.int .i64 r.k, .int .i64 r.i, .string r.s] rfl rfl 26 _ H6.out.2.2 valSize rfl (val_one r) ?_)
          refine bodyPost_ret (results_cell_row rfl _ _ (w.heap.size + 1) 26 #[.int .i64 r.k, .int .i64 r.i, .string r.s] (0, 0) _ rfl (setRow_heap _ _ _ _ _ _ H6.out.2.2) Tryz.underlying26 rfl valSize) rfl ⟨⟨r, HOKJ.out, rfl⟩, below_row H6.out.1 _ (by omega)⟩
        · go_wp2_with (refine wpList_store_row rfl 26 (.tmp 6) (.tmp 40) rfl (w.heap.size + 1) #[.int .i64 0, .int .i64 0, .string ⟨#[]⟩] rfl rfl 26 _ H6.out.2.2 valSize rfl (val_one ⟨0, 0, ⟨#[]⟩⟩) ?_)
          refine bodyPost_ret (results_cell_row rfl _ _ (w.heap.size + 1) 26 #[.int .i64 0, .int .i64 0, .string ⟨#[]⟩] (0, 0) _ rfl (setRow_heap _ _ _ _ _ _ H6.out.2.2) Tryz.underlying26 rfl valSize) rfl ⟨⟨nulV, ok_nul, rfl⟩, below_row H6.out.1 _ (by omega)⟩
      · have hq2 : (x.toList == s.toList) = false := by simp [hq]
        go_upto_region 8 with (fail)
        refine detL_begin [.val (.slice (some a) na ca), .val (.int .i64 j), .val (.pointer (some (a.add (j * 3)))), .val (.pointer (some (a.add (j * 3)))), .val (.string x), .val (.pointer (some ⟨w.heap.size, 4, none⟩)), .val (.string s), .val (.bool false)] 8 (by kernel_rfl) ?_
        refine detL_val (by kernel_rfl) (yields_of rfl fun w5 hb5 => ?_) ?_
        · have hc5 := bcellD hb5
          skip
          clear hb5
          go_simp
          exact Det1_same
        simp only [Act.put, List.setIfInBounds_toArray, List.set_cons_zero, List.set_cons_succ]
        refine detL_val (by kernel_rfl) (yields_of rfl fun w5 hb5 => ?_) ?_
        · have hc5 := bcellD hb5
          skip
          clear hb5
          go_simp
          exact Det1_same
        simp only [Act.put, List.setIfInBounds_toArray, List.set_cons_zero, List.set_cons_succ]
        refine detL_val (by kernel_rfl) (yields_of rfl fun w5 hb5 => ?_) ?_
        · have hc5 := bcellD hb5
          skip
          clear hb5
          go_simp
          exact Det1_same
        simp only [Act.put, List.setIfInBounds_toArray, List.set_cons_zero, List.set_cons_succ]
        refine detL_val (by kernel_rfl) (yields_of rfl fun w5 hb5 => ?_) ?_
        · have hc5 := bcellD hb5
          skip
          clear hb5
          go_simp
          exact Det1_same
        simp only [Act.put, List.setIfInBounds_toArray, List.set_cons_zero, List.set_cons_succ]
        refine detL_val (by kernel_rfl) (yields_of rfl fun w5 hb5 => ?_) ?_
        · have hc5 := bcellD hb5
          have m0 := (hb5.cell (p := a.add (j * 3)) hal).trans e0
          clear hb5
          go_simp
          exact Det1_same
        simp only [Act.put, List.setIfInBounds_toArray, List.set_cons_zero, List.set_cons_succ]
        refine detL_val (by kernel_rfl) (yields_of rfl fun w5 hb5 => ?_) ?_
        · have hc5 := bcellD hb5
          skip
          clear hb5
          go_simp
          exact Det1_same
        simp only [Act.put, List.setIfInBounds_toArray, List.set_cons_zero, List.set_cons_succ]
        refine detL_val (by kernel_rfl) (yields_of rfl fun w5 hb5 => ?_) ?_
        · have hc5 := bcellD hb5
          skip
          clear hb5
          go_simp
          exact Det1_same
        simp only [Act.put, List.setIfInBounds_toArray, List.set_cons_zero, List.set_cons_succ]
        refine detL_val (by kernel_rfl) (yields_of rfl fun w5 hb5 => ?_) ?_
        · have hc5 := bcellD hb5
          skip
          clear hb5
          go_simp
          exact Det1_same
        simp only [Act.put, List.setIfInBounds_toArray, List.set_cons_zero, List.set_cons_succ]
        refine detL_done (by kernel_rfl) fun w6 hw6 => ?_
        have hb6 : Below wr.heap.size wr w6 := (Below.refl _ _).drew.trans hw6.below
        have H6 := Lib.hid (show Below w.heap.size w w6 ∧ w6.heap[w.heap.size]? = some (.cells #[.string ⟨#[99, 111, 108]⟩, .int .i64 k, .int .i64 i, .string vs, .string s, .slice B p q] 29 (0, 0)) ∧ w6.heap[w.heap.size + 1]? = some (.cells #[.int .i64 0, .int .i64 0, .string ⟨#[]⟩] 26 (0, 0)) from ⟨HS.out.1.trans (hb6.mono HS.out.1.size), (hb6.block _ hz0).trans HS.out.2.1, (hb6.block _ hz0').trans HS.out.2.2⟩)
        clear hw6 hb6
        go_wp2_with (fail)
        go_roundw
        case rel => exact ⟨j + 1, by go_num, by omega, H6⟩
        case measure => simp [intOf]; omega
    · go_wp2_with (refine wpList_store_row rfl 26 (.tmp 6) (.tmp 41) rfl (w.heap.size + 1) #[.int .i64 0, .int .i64 0, .string ⟨#[]⟩] rfl rfl 26 _ HS.out.2.2 valSize rfl (val_one ⟨0, 0, ⟨#[]⟩⟩) ?_)
      refine bodyPost_ret (results_cell_row rfl _ _ (w.heap.size + 1) 26 #[.int .i64 0, .int .i64 0, .string ⟨#[]⟩] (0, 0) _ rfl (setRow_heap _ _ _ _ _ _ HS.out.2.2) Tryz.underlying26 rfl valSize) rfl ⟨⟨nulV, ok_nul, rfl⟩, below_row HS.out.1 _ (by omega)⟩
end Go.Proofs.YtmhkmliebhbkdaaGreat
