import Derived.Test.YtmhkmliebhbkdaaGreatX23

/- The document's value of an expression of two parts; of any. -/
namespace Go.Proofs.YtmhkmliebhbkdaaGreat
open Go.RowKit Go.Lib

set_option maxRecDepth 100000 in
set_option maxHeartbeats 4000000 in
theorem reval_and (P : Nat → Prop) (n : Nat) (k i : Int) (vs s : ByteArray) (y x : Ex) (u : Value) (A : Option Addr) (na ca : Nat) (cols : List Cl) (D : Option Addr) (nv cv : Nat) (row : List Vl) (w : World)  (ht : Tr w P n (.mk ⟨#[97, 110, 100]⟩ ⟨k, i, vs⟩ s [y, x]) u) (hrec : ∀ (y9 : Ex) (u : Value) (M : Nat) (W : World), y9 ∈ [y, x] → Tr W P M y9 u → Below w.heap.size w W → Calls Tryz.prog 36 #[EVt y9 u, .slice A na ca, .slice D nv cv] W fun e w' => RetV e ∧ Below W.heap.size W w') : Calls Tryz.prog 36 #[.agg #[.string ⟨#[97, 110, 100]⟩, .int .i64 k, .int .i64 i, .string vs, .string s, u], .slice A na ca, .slice D nv cv] w fun e w' => RetV e ∧ Below w.heap.size w w' := by
  obtain ⟨a, q, u0, u1, m, m', rfl, hal, hc, hcx, ht0, ht1⟩ := kids2 ht
  obtain ⟨yop, yx, ys, yl⟩ := y
  obtain ⟨yk, yi, yv⟩ := yx
  obtain ⟨xop, xx, xs, xl⟩ := x
  obtain ⟨xk, xi, xv⟩ := xx
  have HX := Lib.hid (And.intro (And.intro hc hcx) (And.intro ht0 ht1))
  have HREC := Lib.hid hrec
  clear ht hc hcx ht0 ht1 hrec
  go_enter Tryz.func36, Tryz.ntmps36
  go_upto_region 13 with (fail)
  refine wp_gen (fun W => Below w.heap.size w W ∧ W.heap[w.heap.size]? = some (.cells #[.string ⟨#[97, 110, 100]⟩, .int .i64 k, .int .i64 i, .string vs, .string s, .slice (some a) 2 q] 29 (0, 0)) ∧ W.heap[w.heap.size + 1]? = some (.cells #[.int .i64 0, .int .i64 0, .string ⟨#[]⟩] 26 (0, 0))) ⟨((Below.refl _ _).alloc (Nat.le_refl _) _).alloc (by simp) _, (Below.heap_alloc _ _ _ (by simp)).trans (alloc_at rfl _), alloc_at (by simp) _⟩ fun w0 hw0 => ?_
  have H0 := Lib.hid hw0
  have g0 := Lib.cell_of_heap hw0.2.1 0
  have g1 := Lib.cell_of_heap hw0.2.1 1
  have g2 := Lib.cell_of_heap hw0.2.1 2
  have g3 := Lib.cell_of_heap hw0.2.1 3
  have g4 := Lib.cell_of_heap hw0.2.1 4
  have g5 := Lib.cell_of_heap hw0.2.1 5
  simp only [List.getElem?_toArray, List.getElem?_cons_zero, List.getElem?_cons_succ] at g0 g1 g2 g3 g4 g5
  have hz0 := lt_of_block hw0.2.1
  have hz0' := lt_of_block hw0.2.2
  clear hw0
  have hx0 := HX.out.1.1.keep (W' := w0) (H0.out.1.block _ hal)
  have k0 := (hx0).c0
  have k1 := (hx0).c1
  have k2 := (hx0).c2
  have k3 := (hx0).c3
  have k4 := (hx0).c4
  have k5 := (hx0).c5
  simp only [Ex.op, Ex.x, Ex.s, Ex.l] at k0 k1 k2 k3 k4 k5
  have hal0 : a.block < w0.heap.size := by have := H0.out.1.size; omega
  clear hx0
  have HRY : Hid (Calls Tryz.prog 36 #[.agg #[.string yop, .int .i64 yk, .int .i64 yi, .string yv, .string ys, u0], .slice A na ca, .slice D nv cv] w0 fun e w' => RetV e ∧ Below w0.heap.size w0 w') := Lib.hid (HREC.out (.mk yop ⟨yk, yi, yv⟩ ys yl) u0 m w0 List.mem_cons_self (HX.out.2.1.below H0.out.1) H0.out.1)
  go_upto_region 14 with (go_at_call 36; (with_reducible refine HRY.out.mono ?_); rintro e w1 ⟨⟨v, hv, rfl⟩, hb1⟩; have HB1 := Lib.hid (And.intro hb1 hv); clear hb1 hv)
  refine wp_gen (fun W => Below w.heap.size w W ∧ W.heap[w.heap.size]? = some (.cells #[.string ⟨#[97, 110, 100]⟩, .int .i64 k, .int .i64 i, .string vs, .string s, .slice (some a) 2 q] 29 (0, 0)) ∧ W.heap[w.heap.size + 1]? = some (.cells #[.int .i64 0, .int .i64 0, .string ⟨#[]⟩] 26 (0, 0)) ∧ W.heap[w1.heap.size]? = some (.cells #[.int .i64 v.k, .int .i64 v.i, .string v.s] 26 (0, 0))) (by
    have hs1 := HB1.out.1.size
    exact ⟨(H0.out.1.trans (HB1.out.1.mono H0.out.1.size)).alloc (by have := H0.out.1.size; omega) _, (Below.heap_alloc _ _ _ (by omega)).trans ((HB1.out.1.block _ hz0).trans H0.out.2.1), (Below.heap_alloc _ _ _ (by omega)).trans ((HB1.out.1.block _ hz0').trans H0.out.2.2), alloc_at rfl _⟩) fun w2 hw2 => ?_
  have H2 := Lib.hid hw2
  clear g0 g1 g2 g3 g4 g5 hz0 hz0' hal0 k0 k1 k2 k3 k4 k5 HRY
  have g0 := Lib.cell_of_heap hw2.2.1 0
  have g1 := Lib.cell_of_heap hw2.2.1 1
  have g2 := Lib.cell_of_heap hw2.2.1 2
  have g3 := Lib.cell_of_heap hw2.2.1 3
  have g4 := Lib.cell_of_heap hw2.2.1 4
  have g5 := Lib.cell_of_heap hw2.2.1 5
  simp only [List.getElem?_toArray, List.getElem?_cons_zero, List.getElem?_cons_succ] at g0 g1 g2 g3 g4 g5
  have hz0 := lt_of_block hw2.2.1
  have hz0' := lt_of_block hw2.2.2.1
  have hz1 := lt_of_block hw2.2.2.2
  clear hw2
  have hx1 := HX.out.1.2.keep (W' := w2) (H2.out.1.block _ hal)
  have m0 := (hx1).c0
  have m1 := (hx1).c1
  have m2 := (hx1).c2
  have m3 := (hx1).c3
  have m4 := (hx1).c4
  have m5 := (hx1).c5
  simp only [Ex.op, Ex.x, Ex.s, Ex.l] at m0 m1 m2 m3 m4 m5
  have hal2 : a.block < w2.heap.size := by have := H2.out.1.size; omega
  clear hx1
  have HRX : Hid (Calls Tryz.prog 36 #[.agg #[.string xop, .int .i64 xk, .int .i64 xi, .string xv, .string xs, u1], .slice A na ca, .slice D nv cv] w2 fun e w' => RetV e ∧ Below w2.heap.size w2 w') := Lib.hid (HREC.out (.mk xop ⟨xk, xi, xv⟩ xs xl) u1 m' w2 (List.mem_cons_of_mem _ List.mem_cons_self) (HX.out.2.2.below H2.out.1) H2.out.1)
  go_upto_region 19 with (go_at_call 36; (with_reducible refine HRX.out.mono ?_); rintro e w3 ⟨⟨x, hx, rfl⟩, hb3⟩; have HB3 := Lib.hid (And.intro hb3 hx); clear hb3 hx)
  refine wp_gen (fun W => Below w.heap.size w W ∧ W.heap[w.heap.size]? = some (.cells #[.string ⟨#[97, 110, 100]⟩, .int .i64 k, .int .i64 i, .string vs, .string s, .slice (some a) 2 q] 29 (0, 0)) ∧ W.heap[w.heap.size + 1]? = some (.cells #[.int .i64 0, .int .i64 0, .string ⟨#[]⟩] 26 (0, 0)) ∧ W.heap[w1.heap.size]? = some (.cells #[.int .i64 v.k, .int .i64 v.i, .string v.s] 26 (0, 0)) ∧ W.heap[w3.heap.size]? = some (.cells #[.int .i64 x.k, .int .i64 x.i, .string x.s] 26 (0, 0))) (by
    have hs3 := HB3.out.1.size
    exact ⟨(H2.out.1.trans (HB3.out.1.mono H2.out.1.size)).alloc (by have := H2.out.1.size; omega) _, (Below.heap_alloc _ _ _ (by omega)).trans ((HB3.out.1.block _ hz0).trans H2.out.2.1), (Below.heap_alloc _ _ _ (by omega)).trans ((HB3.out.1.block _ hz0').trans H2.out.2.2.1), (Below.heap_alloc _ _ _ (by omega)).trans ((HB3.out.1.block _ hz1).trans H2.out.2.2.2), alloc_at rfl _⟩) fun w4 hw4 => ?_
  have H4 := Lib.hid hw4
  clear g0 g1 g2 g3 g4 g5 hz0 hz0' hz1 hal2 m0 m1 m2 m3 m4 m5 HRX
  have g0 := Lib.cell_of_heap hw4.2.1 0
  have g1 := Lib.cell_of_heap hw4.2.1 1
  have g2 := Lib.cell_of_heap hw4.2.1 2
  have g3 := Lib.cell_of_heap hw4.2.1 3
  have g4 := Lib.cell_of_heap hw4.2.1 4
  have g5 := Lib.cell_of_heap hw4.2.1 5
  simp only [List.getElem?_toArray, List.getElem?_cons_zero, List.getElem?_cons_succ] at g0 g1 g2 g3 g4 g5
  have hz0 := lt_of_block hw4.2.1
  have hz0' := lt_of_block hw4.2.2.1
  have r0 := Lib.cell_of_heap hw4.2.2.2.1 0
  have r1 := Lib.cell_of_heap hw4.2.2.2.1 1
  have r2 := Lib.cell_of_heap hw4.2.2.2.1 2
  have t0 := Lib.cell_of_heap hw4.2.2.2.2 0
  have t1 := Lib.cell_of_heap hw4.2.2.2.2 1
  have t2 := Lib.cell_of_heap hw4.2.2.2.2 2
  simp only [List.getElem?_toArray, List.getElem?_cons_zero, List.getElem?_cons_succ] at r0 r1 r2 t0 t1 t2
  clear hw4
  have HN := Lib.hid (rvand v x w4)
  go_wp2_with (first
    | (go_at_call 74; (with_reducible refine HN.out.mono ?_); rintro e w5 ⟨rfl, hb5⟩; have HB5 := Lib.hid hb5; have hres5 := (hb5.block _ hz0').trans H4.out.2.2.1; clear hb5)
    | (refine wpList_store_row rfl 26 (.tmp 6) (.tmp 79) rfl (w.heap.size + 1) #[.int .i64 (andV v x).k, .int .i64 (andV v x).i, .string (andV v x).s] rfl rfl 26 _ hres5 valSize rfl (val_one (andV v x)) ?_))
  refine bodyPost_ret (results_cell_row rfl _ _ (w.heap.size + 1) 26 #[.int .i64 (andV v x).k, .int .i64 (andV v x).i, .string (andV v x).s] (0, 0) _ rfl (setRow_heap _ _ _ _ _ _ hres5) Tryz.underlying26 rfl valSize) rfl ⟨⟨(andV v x), ok_and v x, rfl⟩, below_row (H4.out.1.trans (HB5.out.mono H4.out.1.size)) _ (by omega)⟩
set_option maxRecDepth 100000 in
set_option maxHeartbeats 4000000 in
theorem reval_or (P : Nat → Prop) (n : Nat) (k i : Int) (vs s : ByteArray) (y x : Ex) (u : Value) (A : Option Addr) (na ca : Nat) (cols : List Cl) (D : Option Addr) (nv cv : Nat) (row : List Vl) (w : World)  (ht : Tr w P n (.mk ⟨#[111, 114]⟩ ⟨k, i, vs⟩ s [y, x]) u) (hrec : ∀ (y9 : Ex) (u : Value) (M : Nat) (W : World), y9 ∈ [y, x] → Tr W P M y9 u → Below w.heap.size w W → Calls Tryz.prog 36 #[EVt y9 u, .slice A na ca, .slice D nv cv] W fun e w' => RetV e ∧ Below W.heap.size W w') : Calls Tryz.prog 36 #[.agg #[.string ⟨#[111, 114]⟩, .int .i64 k, .int .i64 i, .string vs, .string s, u], .slice A na ca, .slice D nv cv] w fun e w' => RetV e ∧ Below w.heap.size w w' := by
  obtain ⟨a, q, u0, u1, m, m', rfl, hal, hc, hcx, ht0, ht1⟩ := kids2 ht
  obtain ⟨yop, yx, ys, yl⟩ := y
  obtain ⟨yk, yi, yv⟩ := yx
  obtain ⟨xop, xx, xs, xl⟩ := x
  obtain ⟨xk, xi, xv⟩ := xx
  have HX := Lib.hid (And.intro (And.intro hc hcx) (And.intro ht0 ht1))
  have HREC := Lib.hid hrec
  clear ht hc hcx ht0 ht1 hrec
  go_enter Tryz.func36, Tryz.ntmps36
  go_upto_region 13 with (fail)
  refine wp_gen (fun W => Below w.heap.size w W ∧ W.heap[w.heap.size]? = some (.cells #[.string ⟨#[111, 114]⟩, .int .i64 k, .int .i64 i, .string vs, .string s, .slice (some a) 2 q] 29 (0, 0)) ∧ W.heap[w.heap.size + 1]? = some (.cells #[.int .i64 0, .int .i64 0, .string ⟨#[]⟩] 26 (0, 0))) ⟨((Below.refl _ _).alloc (Nat.le_refl _) _).alloc (by simp) _, (Below.heap_alloc _ _ _ (by simp)).trans (alloc_at rfl _), alloc_at (by simp) _⟩ fun w0 hw0 => ?_
  have H0 := Lib.hid hw0
  have g0 := Lib.cell_of_heap hw0.2.1 0
  have g1 := Lib.cell_of_heap hw0.2.1 1
  have g2 := Lib.cell_of_heap hw0.2.1 2
  have g3 := Lib.cell_of_heap hw0.2.1 3
  have g4 := Lib.cell_of_heap hw0.2.1 4
  have g5 := Lib.cell_of_heap hw0.2.1 5
  simp only [List.getElem?_toArray, List.getElem?_cons_zero, List.getElem?_cons_succ] at g0 g1 g2 g3 g4 g5
  have hz0 := lt_of_block hw0.2.1
  have hz0' := lt_of_block hw0.2.2
  clear hw0
  have hx0 := HX.out.1.1.keep (W' := w0) (H0.out.1.block _ hal)
  have k0 := (hx0).c0
  have k1 := (hx0).c1
  have k2 := (hx0).c2
  have k3 := (hx0).c3
  have k4 := (hx0).c4
  have k5 := (hx0).c5
  simp only [Ex.op, Ex.x, Ex.s, Ex.l] at k0 k1 k2 k3 k4 k5
  have hal0 : a.block < w0.heap.size := by have := H0.out.1.size; omega
  clear hx0
  have HRY : Hid (Calls Tryz.prog 36 #[.agg #[.string yop, .int .i64 yk, .int .i64 yi, .string yv, .string ys, u0], .slice A na ca, .slice D nv cv] w0 fun e w' => RetV e ∧ Below w0.heap.size w0 w') := Lib.hid (HREC.out (.mk yop ⟨yk, yi, yv⟩ ys yl) u0 m w0 List.mem_cons_self (HX.out.2.1.below H0.out.1) H0.out.1)
  go_upto_region 14 with (go_at_call 36; (with_reducible refine HRY.out.mono ?_); rintro e w1 ⟨⟨v, hv, rfl⟩, hb1⟩; have HB1 := Lib.hid (And.intro hb1 hv); clear hb1 hv)
  refine wp_gen (fun W => Below w.heap.size w W ∧ W.heap[w.heap.size]? = some (.cells #[.string ⟨#[111, 114]⟩, .int .i64 k, .int .i64 i, .string vs, .string s, .slice (some a) 2 q] 29 (0, 0)) ∧ W.heap[w.heap.size + 1]? = some (.cells #[.int .i64 0, .int .i64 0, .string ⟨#[]⟩] 26 (0, 0)) ∧ W.heap[w1.heap.size]? = some (.cells #[.int .i64 v.k, .int .i64 v.i, .string v.s] 26 (0, 0))) (by
    have hs1 := HB1.out.1.size
    exact ⟨(H0.out.1.trans (HB1.out.1.mono H0.out.1.size)).alloc (by have := H0.out.1.size; omega) _, (Below.heap_alloc _ _ _ (by omega)).trans ((HB1.out.1.block _ hz0).trans H0.out.2.1), (Below.heap_alloc _ _ _ (by omega)).trans ((HB1.out.1.block _ hz0').trans H0.out.2.2), alloc_at rfl _⟩) fun w2 hw2 => ?_
  have H2 := Lib.hid hw2
  clear g0 g1 g2 g3 g4 g5 hz0 hz0' hal0 k0 k1 k2 k3 k4 k5 HRY
  have g0 := Lib.cell_of_heap hw2.2.1 0
  have g1 := Lib.cell_of_heap hw2.2.1 1
  have g2 := Lib.cell_of_heap hw2.2.1 2
  have g3 := Lib.cell_of_heap hw2.2.1 3
  have g4 := Lib.cell_of_heap hw2.2.1 4
  have g5 := Lib.cell_of_heap hw2.2.1 5
  simp only [List.getElem?_toArray, List.getElem?_cons_zero, List.getElem?_cons_succ] at g0 g1 g2 g3 g4 g5
  have hz0 := lt_of_block hw2.2.1
  have hz0' := lt_of_block hw2.2.2.1
  have hz1 := lt_of_block hw2.2.2.2
  clear hw2
  have hx1 := HX.out.1.2.keep (W' := w2) (H2.out.1.block _ hal)
  have m0 := (hx1).c0
  have m1 := (hx1).c1
  have m2 := (hx1).c2
  have m3 := (hx1).c3
  have m4 := (hx1).c4
  have m5 := (hx1).c5
  simp only [Ex.op, Ex.x, Ex.s, Ex.l] at m0 m1 m2 m3 m4 m5
  have hal2 : a.block < w2.heap.size := by have := H2.out.1.size; omega
  clear hx1
  have HRX : Hid (Calls Tryz.prog 36 #[.agg #[.string xop, .int .i64 xk, .int .i64 xi, .string xv, .string xs, u1], .slice A na ca, .slice D nv cv] w2 fun e w' => RetV e ∧ Below w2.heap.size w2 w') := Lib.hid (HREC.out (.mk xop ⟨xk, xi, xv⟩ xs xl) u1 m' w2 (List.mem_cons_of_mem _ List.mem_cons_self) (HX.out.2.2.below H2.out.1) H2.out.1)
  go_upto_region 19 with (go_at_call 36; (with_reducible refine HRX.out.mono ?_); rintro e w3 ⟨⟨x, hx, rfl⟩, hb3⟩; have HB3 := Lib.hid (And.intro hb3 hx); clear hb3 hx)
  refine wp_gen (fun W => Below w.heap.size w W ∧ W.heap[w.heap.size]? = some (.cells #[.string ⟨#[111, 114]⟩, .int .i64 k, .int .i64 i, .string vs, .string s, .slice (some a) 2 q] 29 (0, 0)) ∧ W.heap[w.heap.size + 1]? = some (.cells #[.int .i64 0, .int .i64 0, .string ⟨#[]⟩] 26 (0, 0)) ∧ W.heap[w1.heap.size]? = some (.cells #[.int .i64 v.k, .int .i64 v.i, .string v.s] 26 (0, 0)) ∧ W.heap[w3.heap.size]? = some (.cells #[.int .i64 x.k, .int .i64 x.i, .string x.s] 26 (0, 0))) (by
    have hs3 := HB3.out.1.size
    exact ⟨(H2.out.1.trans (HB3.out.1.mono H2.out.1.size)).alloc (by have := H2.out.1.size; omega) _, (Below.heap_alloc _ _ _ (by omega)).trans ((HB3.out.1.block _ hz0).trans H2.out.2.1), (Below.heap_alloc _ _ _ (by omega)).trans ((HB3.out.1.block _ hz0').trans H2.out.2.2.1), (Below.heap_alloc _ _ _ (by omega)).trans ((HB3.out.1.block _ hz1).trans H2.out.2.2.2), alloc_at rfl _⟩) fun w4 hw4 => ?_
  have H4 := Lib.hid hw4
  clear g0 g1 g2 g3 g4 g5 hz0 hz0' hz1 hal2 m0 m1 m2 m3 m4 m5 HRX
  have g0 := Lib.cell_of_heap hw4.2.1 0
  have g1 := Lib.cell_of_heap hw4.2.1 1
  have g2 := Lib.cell_of_heap hw4.2.1 2
  have g3 := Lib.cell_of_heap hw4.2.1 3
  have g4 := Lib.cell_of_heap hw4.2.1 4
  have g5 := Lib.cell_of_heap hw4.2.1 5
  simp only [List.getElem?_toArray, List.getElem?_cons_zero, List.getElem?_cons_succ] at g0 g1 g2 g3 g4 g5
  have hz0 := lt_of_block hw4.2.1
  have hz0' := lt_of_block hw4.2.2.1
  have r0 := Lib.cell_of_heap hw4.2.2.2.1 0
  have r1 := Lib.cell_of_heap hw4.2.2.2.1 1
  have r2 := Lib.cell_of_heap hw4.2.2.2.1 2
  have t0 := Lib.cell_of_heap hw4.2.2.2.2 0
  have t1 := Lib.cell_of_heap hw4.2.2.2.2 1
  have t2 := Lib.cell_of_heap hw4.2.2.2.2 2
  simp only [List.getElem?_toArray, List.getElem?_cons_zero, List.getElem?_cons_succ] at r0 r1 r2 t0 t1 t2
  clear hw4
  have HN := Lib.hid (rvor v x w4)
  go_wp2_with (first
    | (go_at_call 75; (with_reducible refine HN.out.mono ?_); rintro e w5 ⟨rfl, hb5⟩; have HB5 := Lib.hid hb5; have hres5 := (hb5.block _ hz0').trans H4.out.2.2.1; clear hb5)
    | (refine wpList_store_row rfl 26 (.tmp 6) (.tmp 84) rfl (w.heap.size + 1) #[.int .i64 (orV v x).k, .int .i64 (orV v x).i, .string (orV v x).s] rfl rfl 26 _ hres5 valSize rfl (val_one (orV v x)) ?_))
  refine bodyPost_ret (results_cell_row rfl _ _ (w.heap.size + 1) 26 #[.int .i64 (orV v x).k, .int .i64 (orV v x).i, .string (orV v x).s] (0, 0) _ rfl (setRow_heap _ _ _ _ _ _ hres5) Tryz.underlying26 rfl valSize) rfl ⟨⟨(orV v x), ok_or v x, rfl⟩, below_row (H4.out.1.trans (HB5.out.mono H4.out.1.size)) _ (by omega)⟩
set_option maxRecDepth 100000 in
set_option maxHeartbeats 4000000 in
theorem reval_eq (P : Nat → Prop) (n : Nat) (k i : Int) (vs s : ByteArray) (y x : Ex) (u : Value) (A : Option Addr) (na ca : Nat) (cols : List Cl) (D : Option Addr) (nv cv : Nat) (row : List Vl) (w : World)  (ht : Tr w P n (.mk ⟨#[61]⟩ ⟨k, i, vs⟩ s [y, x]) u) (hrec : ∀ (y9 : Ex) (u : Value) (M : Nat) (W : World), y9 ∈ [y, x] → Tr W P M y9 u → Below w.heap.size w W → Calls Tryz.prog 36 #[EVt y9 u, .slice A na ca, .slice D nv cv] W fun e w' => RetV e ∧ Below W.heap.size W w') : Calls Tryz.prog 36 #[.agg #[.string ⟨#[61]⟩, .int .i64 k, .int .i64 i, .string vs, .string s, u], .slice A na ca, .slice D nv cv] w fun e w' => RetV e ∧ Below w.heap.size w w' := by
  obtain ⟨a, q, u0, u1, m, m', rfl, hal, hc, hcx, ht0, ht1⟩ := kids2 ht
  obtain ⟨yop, yx, ys, yl⟩ := y
  obtain ⟨yk, yi, yv⟩ := yx
  obtain ⟨xop, xx, xs, xl⟩ := x
  obtain ⟨xk, xi, xv⟩ := xx
  have HX := Lib.hid (And.intro (And.intro hc hcx) (And.intro ht0 ht1))
  have HREC := Lib.hid hrec
  clear ht hc hcx ht0 ht1 hrec
  go_enter Tryz.func36, Tryz.ntmps36
  go_upto_region 13 with (fail)
  refine wp_gen (fun W => Below w.heap.size w W ∧ W.heap[w.heap.size]? = some (.cells #[.string ⟨#[61]⟩, .int .i64 k, .int .i64 i, .string vs, .string s, .slice (some a) 2 q] 29 (0, 0)) ∧ W.heap[w.heap.size + 1]? = some (.cells #[.int .i64 0, .int .i64 0, .string ⟨#[]⟩] 26 (0, 0))) ⟨((Below.refl _ _).alloc (Nat.le_refl _) _).alloc (by simp) _, (Below.heap_alloc _ _ _ (by simp)).trans (alloc_at rfl _), alloc_at (by simp) _⟩ fun w0 hw0 => ?_
  have H0 := Lib.hid hw0
  have g0 := Lib.cell_of_heap hw0.2.1 0
  have g1 := Lib.cell_of_heap hw0.2.1 1
  have g2 := Lib.cell_of_heap hw0.2.1 2
  have g3 := Lib.cell_of_heap hw0.2.1 3
  have g4 := Lib.cell_of_heap hw0.2.1 4
  have g5 := Lib.cell_of_heap hw0.2.1 5
  simp only [List.getElem?_toArray, List.getElem?_cons_zero, List.getElem?_cons_succ] at g0 g1 g2 g3 g4 g5
  have hz0 := lt_of_block hw0.2.1
  have hz0' := lt_of_block hw0.2.2
  clear hw0
  have hx0 := HX.out.1.1.keep (W' := w0) (H0.out.1.block _ hal)
  have k0 := (hx0).c0
  have k1 := (hx0).c1
  have k2 := (hx0).c2
  have k3 := (hx0).c3
  have k4 := (hx0).c4
  have k5 := (hx0).c5
  simp only [Ex.op, Ex.x, Ex.s, Ex.l] at k0 k1 k2 k3 k4 k5
  have hal0 : a.block < w0.heap.size := by have := H0.out.1.size; omega
  clear hx0
  have HRY : Hid (Calls Tryz.prog 36 #[.agg #[.string yop, .int .i64 yk, .int .i64 yi, .string yv, .string ys, u0], .slice A na ca, .slice D nv cv] w0 fun e w' => RetV e ∧ Below w0.heap.size w0 w') := Lib.hid (HREC.out (.mk yop ⟨yk, yi, yv⟩ ys yl) u0 m w0 List.mem_cons_self (HX.out.2.1.below H0.out.1) H0.out.1)
  go_upto_region 14 with (go_at_call 36; (with_reducible refine HRY.out.mono ?_); rintro e w1 ⟨⟨v, hv, rfl⟩, hb1⟩; have HB1 := Lib.hid (And.intro hb1 hv); clear hb1 hv)
  refine wp_gen (fun W => Below w.heap.size w W ∧ W.heap[w.heap.size]? = some (.cells #[.string ⟨#[61]⟩, .int .i64 k, .int .i64 i, .string vs, .string s, .slice (some a) 2 q] 29 (0, 0)) ∧ W.heap[w.heap.size + 1]? = some (.cells #[.int .i64 0, .int .i64 0, .string ⟨#[]⟩] 26 (0, 0)) ∧ W.heap[w1.heap.size]? = some (.cells #[.int .i64 v.k, .int .i64 v.i, .string v.s] 26 (0, 0))) (by
    have hs1 := HB1.out.1.size
    exact ⟨(H0.out.1.trans (HB1.out.1.mono H0.out.1.size)).alloc (by have := H0.out.1.size; omega) _, (Below.heap_alloc _ _ _ (by omega)).trans ((HB1.out.1.block _ hz0).trans H0.out.2.1), (Below.heap_alloc _ _ _ (by omega)).trans ((HB1.out.1.block _ hz0').trans H0.out.2.2), alloc_at rfl _⟩) fun w2 hw2 => ?_
  have H2 := Lib.hid hw2
  clear g0 g1 g2 g3 g4 g5 hz0 hz0' hal0 k0 k1 k2 k3 k4 k5 HRY
  have g0 := Lib.cell_of_heap hw2.2.1 0
  have g1 := Lib.cell_of_heap hw2.2.1 1
  have g2 := Lib.cell_of_heap hw2.2.1 2
  have g3 := Lib.cell_of_heap hw2.2.1 3
  have g4 := Lib.cell_of_heap hw2.2.1 4
  have g5 := Lib.cell_of_heap hw2.2.1 5
  simp only [List.getElem?_toArray, List.getElem?_cons_zero, List.getElem?_cons_succ] at g0 g1 g2 g3 g4 g5
  have hz0 := lt_of_block hw2.2.1
  have hz0' := lt_of_block hw2.2.2.1
  have hz1 := lt_of_block hw2.2.2.2
  clear hw2
  have hx1 := HX.out.1.2.keep (W' := w2) (H2.out.1.block _ hal)
  have m0 := (hx1).c0
  have m1 := (hx1).c1
  have m2 := (hx1).c2
  have m3 := (hx1).c3
  have m4 := (hx1).c4
  have m5 := (hx1).c5
  simp only [Ex.op, Ex.x, Ex.s, Ex.l] at m0 m1 m2 m3 m4 m5
  have hal2 : a.block < w2.heap.size := by have := H2.out.1.size; omega
  clear hx1
  have HRX : Hid (Calls Tryz.prog 36 #[.agg #[.string xop, .int .i64 xk, .int .i64 xi, .string xv, .string xs, u1], .slice A na ca, .slice D nv cv] w2 fun e w' => RetV e ∧ Below w2.heap.size w2 w') := Lib.hid (HREC.out (.mk xop ⟨xk, xi, xv⟩ xs xl) u1 m' w2 (List.mem_cons_of_mem _ List.mem_cons_self) (HX.out.2.2.below H2.out.1) H2.out.1)
  go_upto_region 19 with (go_at_call 36; (with_reducible refine HRX.out.mono ?_); rintro e w3 ⟨⟨x, hx, rfl⟩, hb3⟩; have HB3 := Lib.hid (And.intro hb3 hx); clear hb3 hx)
  refine wp_gen (fun W => Below w.heap.size w W ∧ W.heap[w.heap.size]? = some (.cells #[.string ⟨#[61]⟩, .int .i64 k, .int .i64 i, .string vs, .string s, .slice (some a) 2 q] 29 (0, 0)) ∧ W.heap[w.heap.size + 1]? = some (.cells #[.int .i64 0, .int .i64 0, .string ⟨#[]⟩] 26 (0, 0)) ∧ W.heap[w1.heap.size]? = some (.cells #[.int .i64 v.k, .int .i64 v.i, .string v.s] 26 (0, 0)) ∧ W.heap[w3.heap.size]? = some (.cells #[.int .i64 x.k, .int .i64 x.i, .string x.s] 26 (0, 0))) (by
    have hs3 := HB3.out.1.size
    exact ⟨(H2.out.1.trans (HB3.out.1.mono H2.out.1.size)).alloc (by have := H2.out.1.size; omega) _, (Below.heap_alloc _ _ _ (by omega)).trans ((HB3.out.1.block _ hz0).trans H2.out.2.1), (Below.heap_alloc _ _ _ (by omega)).trans ((HB3.out.1.block _ hz0').trans H2.out.2.2.1), (Below.heap_alloc _ _ _ (by omega)).trans ((HB3.out.1.block _ hz1).trans H2.out.2.2.2), alloc_at rfl _⟩) fun w4 hw4 => ?_
  have H4 := Lib.hid hw4
  clear g0 g1 g2 g3 g4 g5 hz0 hz0' hz1 hal2 m0 m1 m2 m3 m4 m5 HRX
  have g0 := Lib.cell_of_heap hw4.2.1 0
  have g1 := Lib.cell_of_heap hw4.2.1 1
  have g2 := Lib.cell_of_heap hw4.2.1 2
  have g3 := Lib.cell_of_heap hw4.2.1 3
  have g4 := Lib.cell_of_heap hw4.2.1 4
  have g5 := Lib.cell_of_heap hw4.2.1 5
  simp only [List.getElem?_toArray, List.getElem?_cons_zero, List.getElem?_cons_succ] at g0 g1 g2 g3 g4 g5
  have hz0 := lt_of_block hw4.2.1
  have hz0' := lt_of_block hw4.2.2.1
  have r0 := Lib.cell_of_heap hw4.2.2.2.1 0
  have r1 := Lib.cell_of_heap hw4.2.2.2.1 1
  have r2 := Lib.cell_of_heap hw4.2.2.2.1 2
  have t0 := Lib.cell_of_heap hw4.2.2.2.2 0
  have t1 := Lib.cell_of_heap hw4.2.2.2.2 1
  have t2 := Lib.cell_of_heap hw4.2.2.2.2 2
  simp only [List.getElem?_toArray, List.getElem?_cons_zero, List.getElem?_cons_succ] at r0 r1 r2 t0 t1 t2
  clear hw4
  have HN := Lib.hid (rveq v x w4 HB1.out.2 HB3.out.2)
  go_wp2_with (first
    | (go_at_call 76; (with_reducible refine HN.out.mono ?_); rintro e w5 ⟨rfl, hb5⟩; have HB5 := Lib.hid hb5; have hres5 := (hb5.block _ hz0').trans H4.out.2.2.1; clear hb5)
    | (refine wpList_store_row rfl 26 (.tmp 6) (.tmp 89) rfl (w.heap.size + 1) #[.int .i64 (eqV v x).k, .int .i64 (eqV v x).i, .string (eqV v x).s] rfl rfl 26 _ hres5 valSize rfl (val_one (eqV v x)) ?_))
  refine bodyPost_ret (results_cell_row rfl _ _ (w.heap.size + 1) 26 #[.int .i64 (eqV v x).k, .int .i64 (eqV v x).i, .string (eqV v x).s] (0, 0) _ rfl (setRow_heap _ _ _ _ _ _ hres5) Tryz.underlying26 rfl valSize) rfl ⟨⟨(eqV v x), ok_eq v x, rfl⟩, below_row (H4.out.1.trans (HB5.out.mono H4.out.1.size)) _ (by omega)⟩
set_option maxRecDepth 100000 in
set_option maxHeartbeats 4000000 in
theorem reval_less (P : Nat → Prop) (n : Nat) (k i : Int) (vs s : ByteArray) (y x : Ex) (u : Value) (A : Option Addr) (na ca : Nat) (cols : List Cl) (D : Option Addr) (nv cv : Nat) (row : List Vl) (w : World)  (ht : Tr w P n (.mk ⟨#[60]⟩ ⟨k, i, vs⟩ s [y, x]) u) (hrec : ∀ (y9 : Ex) (u : Value) (M : Nat) (W : World), y9 ∈ [y, x] → Tr W P M y9 u → Below w.heap.size w W → Calls Tryz.prog 36 #[EVt y9 u, .slice A na ca, .slice D nv cv] W fun e w' => RetV e ∧ Below W.heap.size W w') : Calls Tryz.prog 36 #[.agg #[.string ⟨#[60]⟩, .int .i64 k, .int .i64 i, .string vs, .string s, u], .slice A na ca, .slice D nv cv] w fun e w' => RetV e ∧ Below w.heap.size w w' := by
  obtain ⟨a, q, u0, u1, m, m', rfl, hal, hc, hcx, ht0, ht1⟩ := kids2 ht
  obtain ⟨yop, yx, ys, yl⟩ := y
  obtain ⟨yk, yi, yv⟩ := yx
  obtain ⟨xop, xx, xs, xl⟩ := x
  obtain ⟨xk, xi, xv⟩ := xx
  have HX := Lib.hid (And.intro (And.intro hc hcx) (And.intro ht0 ht1))
  have HREC := Lib.hid hrec
  clear ht hc hcx ht0 ht1 hrec
  go_enter Tryz.func36, Tryz.ntmps36
  go_upto_region 13 with (fail)
  refine wp_gen (fun W => Below w.heap.size w W ∧ W.heap[w.heap.size]? = some (.cells #[.string ⟨#[60]⟩, .int .i64 k, .int .i64 i, .string vs, .string s, .slice (some a) 2 q] 29 (0, 0)) ∧ W.heap[w.heap.size + 1]? = some (.cells #[.int .i64 0, .int .i64 0, .string ⟨#[]⟩] 26 (0, 0))) ⟨((Below.refl _ _).alloc (Nat.le_refl _) _).alloc (by simp) _, (Below.heap_alloc _ _ _ (by simp)).trans (alloc_at rfl _), alloc_at (by simp) _⟩ fun w0 hw0 => ?_
  have H0 := Lib.hid hw0
  have g0 := Lib.cell_of_heap hw0.2.1 0
  have g1 := Lib.cell_of_heap hw0.2.1 1
  have g2 := Lib.cell_of_heap hw0.2.1 2
  have g3 := Lib.cell_of_heap hw0.2.1 3
  have g4 := Lib.cell_of_heap hw0.2.1 4
  have g5 := Lib.cell_of_heap hw0.2.1 5
  simp only [List.getElem?_toArray, List.getElem?_cons_zero, List.getElem?_cons_succ] at g0 g1 g2 g3 g4 g5
  have hz0 := lt_of_block hw0.2.1
  have hz0' := lt_of_block hw0.2.2
  clear hw0
  have hx0 := HX.out.1.1.keep (W' := w0) (H0.out.1.block _ hal)
  have k0 := (hx0).c0
  have k1 := (hx0).c1
  have k2 := (hx0).c2
  have k3 := (hx0).c3
  have k4 := (hx0).c4
  have k5 := (hx0).c5
  simp only [Ex.op, Ex.x, Ex.s, Ex.l] at k0 k1 k2 k3 k4 k5
  have hal0 : a.block < w0.heap.size := by have := H0.out.1.size; omega
  clear hx0
  have HRY : Hid (Calls Tryz.prog 36 #[.agg #[.string yop, .int .i64 yk, .int .i64 yi, .string yv, .string ys, u0], .slice A na ca, .slice D nv cv] w0 fun e w' => RetV e ∧ Below w0.heap.size w0 w') := Lib.hid (HREC.out (.mk yop ⟨yk, yi, yv⟩ ys yl) u0 m w0 List.mem_cons_self (HX.out.2.1.below H0.out.1) H0.out.1)
  go_upto_region 14 with (go_at_call 36; (with_reducible refine HRY.out.mono ?_); rintro e w1 ⟨⟨v, hv, rfl⟩, hb1⟩; have HB1 := Lib.hid (And.intro hb1 hv); clear hb1 hv)
  refine wp_gen (fun W => Below w.heap.size w W ∧ W.heap[w.heap.size]? = some (.cells #[.string ⟨#[60]⟩, .int .i64 k, .int .i64 i, .string vs, .string s, .slice (some a) 2 q] 29 (0, 0)) ∧ W.heap[w.heap.size + 1]? = some (.cells #[.int .i64 0, .int .i64 0, .string ⟨#[]⟩] 26 (0, 0)) ∧ W.heap[w1.heap.size]? = some (.cells #[.int .i64 v.k, .int .i64 v.i, .string v.s] 26 (0, 0))) (by
    have hs1 := HB1.out.1.size
    exact ⟨(H0.out.1.trans (HB1.out.1.mono H0.out.1.size)).alloc (by have := H0.out.1.size; omega) _, (Below.heap_alloc _ _ _ (by omega)).trans ((HB1.out.1.block _ hz0).trans H0.out.2.1), (Below.heap_alloc _ _ _ (by omega)).trans ((HB1.out.1.block _ hz0').trans H0.out.2.2), alloc_at rfl _⟩) fun w2 hw2 => ?_
  have H2 := Lib.hid hw2
  clear g0 g1 g2 g3 g4 g5 hz0 hz0' hal0 k0 k1 k2 k3 k4 k5 HRY
  have g0 := Lib.cell_of_heap hw2.2.1 0
  have g1 := Lib.cell_of_heap hw2.2.1 1
  have g2 := Lib.cell_of_heap hw2.2.1 2
  have g3 := Lib.cell_of_heap hw2.2.1 3
  have g4 := Lib.cell_of_heap hw2.2.1 4
  have g5 := Lib.cell_of_heap hw2.2.1 5
  simp only [List.getElem?_toArray, List.getElem?_cons_zero, List.getElem?_cons_succ] at g0 g1 g2 g3 g4 g5
  have hz0 := lt_of_block hw2.2.1
  have hz0' := lt_of_block hw2.2.2.1
  have hz1 := lt_of_block hw2.2.2.2
  clear hw2
  have hx1 := HX.out.1.2.keep (W' := w2) (H2.out.1.block _ hal)
  have m0 := (hx1).c0
  have m1 := (hx1).c1
  have m2 := (hx1).c2
  have m3 := (hx1).c3
  have m4 := (hx1).c4
  have m5 := (hx1).c5
  simp only [Ex.op, Ex.x, Ex.s, Ex.l] at m0 m1 m2 m3 m4 m5
  have hal2 : a.block < w2.heap.size := by have := H2.out.1.size; omega
  clear hx1
  have HRX : Hid (Calls Tryz.prog 36 #[.agg #[.string xop, .int .i64 xk, .int .i64 xi, .string xv, .string xs, u1], .slice A na ca, .slice D nv cv] w2 fun e w' => RetV e ∧ Below w2.heap.size w2 w') := Lib.hid (HREC.out (.mk xop ⟨xk, xi, xv⟩ xs xl) u1 m' w2 (List.mem_cons_of_mem _ List.mem_cons_self) (HX.out.2.2.below H2.out.1) H2.out.1)
  go_upto_region 19 with (go_at_call 36; (with_reducible refine HRX.out.mono ?_); rintro e w3 ⟨⟨x, hx, rfl⟩, hb3⟩; have HB3 := Lib.hid (And.intro hb3 hx); clear hb3 hx)
  refine wp_gen (fun W => Below w.heap.size w W ∧ W.heap[w.heap.size]? = some (.cells #[.string ⟨#[60]⟩, .int .i64 k, .int .i64 i, .string vs, .string s, .slice (some a) 2 q] 29 (0, 0)) ∧ W.heap[w.heap.size + 1]? = some (.cells #[.int .i64 0, .int .i64 0, .string ⟨#[]⟩] 26 (0, 0)) ∧ W.heap[w1.heap.size]? = some (.cells #[.int .i64 v.k, .int .i64 v.i, .string v.s] 26 (0, 0)) ∧ W.heap[w3.heap.size]? = some (.cells #[.int .i64 x.k, .int .i64 x.i, .string x.s] 26 (0, 0))) (by
    have hs3 := HB3.out.1.size
    exact ⟨(H2.out.1.trans (HB3.out.1.mono H2.out.1.size)).alloc (by have := H2.out.1.size; omega) _, (Below.heap_alloc _ _ _ (by omega)).trans ((HB3.out.1.block _ hz0).trans H2.out.2.1), (Below.heap_alloc _ _ _ (by omega)).trans ((HB3.out.1.block _ hz0').trans H2.out.2.2.1), (Below.heap_alloc _ _ _ (by omega)).trans ((HB3.out.1.block _ hz1).trans H2.out.2.2.2), alloc_at rfl _⟩) fun w4 hw4 => ?_
  have H4 := Lib.hid hw4
  clear g0 g1 g2 g3 g4 g5 hz0 hz0' hz1 hal2 m0 m1 m2 m3 m4 m5 HRX
  have g0 := Lib.cell_of_heap hw4.2.1 0
  have g1 := Lib.cell_of_heap hw4.2.1 1
  have g2 := Lib.cell_of_heap hw4.2.1 2
  have g3 := Lib.cell_of_heap hw4.2.1 3
  have g4 := Lib.cell_of_heap hw4.2.1 4
  have g5 := Lib.cell_of_heap hw4.2.1 5
  simp only [List.getElem?_toArray, List.getElem?_cons_zero, List.getElem?_cons_succ] at g0 g1 g2 g3 g4 g5
  have hz0 := lt_of_block hw4.2.1
  have hz0' := lt_of_block hw4.2.2.1
  have r0 := Lib.cell_of_heap hw4.2.2.2.1 0
  have r1 := Lib.cell_of_heap hw4.2.2.2.1 1
  have r2 := Lib.cell_of_heap hw4.2.2.2.1 2
  have t0 := Lib.cell_of_heap hw4.2.2.2.2 0
  have t1 := Lib.cell_of_heap hw4.2.2.2.2 1
  have t2 := Lib.cell_of_heap hw4.2.2.2.2 2
  simp only [List.getElem?_toArray, List.getElem?_cons_zero, List.getElem?_cons_succ] at r0 r1 r2 t0 t1 t2
  clear hw4
  have HN := Lib.hid (rvless v x w4 HB1.out.2 HB3.out.2)
  go_wp2_with (first
    | (go_at_call 77; (with_reducible refine HN.out.mono ?_); rintro e w5 ⟨rfl, hb5⟩; have HB5 := Lib.hid hb5; have hres5 := (hb5.block _ hz0').trans H4.out.2.2.1; clear hb5)
    | (refine wpList_store_row rfl 26 (.tmp 6) (.tmp 94) rfl (w.heap.size + 1) #[.int .i64 (lessV v x).k, .int .i64 (lessV v x).i, .string (lessV v x).s] rfl rfl 26 _ hres5 valSize rfl (val_one (lessV v x)) ?_))
  refine bodyPost_ret (results_cell_row rfl _ _ (w.heap.size + 1) 26 #[.int .i64 (lessV v x).k, .int .i64 (lessV v x).i, .string (lessV v x).s] (0, 0) _ rfl (setRow_heap _ _ _ _ _ _ hres5) Tryz.underlying26 rfl valSize) rfl ⟨⟨(lessV v x), ok_less v x, rfl⟩, below_row (H4.out.1.trans (HB5.out.mono H4.out.1.size)) _ (by omega)⟩
set_option maxRecDepth 100000 in
set_option maxHeartbeats 4000000 in
theorem reval_plus (P : Nat → Prop) (n : Nat) (k i : Int) (vs s : ByteArray) (y x : Ex) (u : Value) (A : Option Addr) (na ca : Nat) (cols : List Cl) (D : Option Addr) (nv cv : Nat) (row : List Vl) (w : World)  (ht : Tr w P n (.mk ⟨#[43]⟩ ⟨k, i, vs⟩ s [y, x]) u) (hrec : ∀ (y9 : Ex) (u : Value) (M : Nat) (W : World), y9 ∈ [y, x] → Tr W P M y9 u → Below w.heap.size w W → Calls Tryz.prog 36 #[EVt y9 u, .slice A na ca, .slice D nv cv] W fun e w' => RetV e ∧ Below W.heap.size W w') : Calls Tryz.prog 36 #[.agg #[.string ⟨#[43]⟩, .int .i64 k, .int .i64 i, .string vs, .string s, u], .slice A na ca, .slice D nv cv] w fun e w' => RetV e ∧ Below w.heap.size w w' := by
  obtain ⟨a, q, u0, u1, m, m', rfl, hal, hc, hcx, ht0, ht1⟩ := kids2 ht
  obtain ⟨yop, yx, ys, yl⟩ := y
  obtain ⟨yk, yi, yv⟩ := yx
  obtain ⟨xop, xx, xs, xl⟩ := x
  obtain ⟨xk, xi, xv⟩ := xx
  have HX := Lib.hid (And.intro (And.intro hc hcx) (And.intro ht0 ht1))
  have HREC := Lib.hid hrec
  clear ht hc hcx ht0 ht1 hrec
  go_enter Tryz.func36, Tryz.ntmps36
  go_upto_region 13 with (fail)
  refine wp_gen (fun W => Below w.heap.size w W ∧ W.heap[w.heap.size]? = some (.cells #[.string ⟨#[43]⟩, .int .i64 k, .int .i64 i, .string vs, .string s, .slice (some a) 2 q] 29 (0, 0)) ∧ W.heap[w.heap.size + 1]? = some (.cells #[.int .i64 0, .int .i64 0, .string ⟨#[]⟩] 26 (0, 0))) ⟨((Below.refl _ _).alloc (Nat.le_refl _) _).alloc (by simp) _, (Below.heap_alloc _ _ _ (by simp)).trans (alloc_at rfl _), alloc_at (by simp) _⟩ fun w0 hw0 => ?_
  have H0 := Lib.hid hw0
  have g0 := Lib.cell_of_heap hw0.2.1 0
  have g1 := Lib.cell_of_heap hw0.2.1 1
  have g2 := Lib.cell_of_heap hw0.2.1 2
  have g3 := Lib.cell_of_heap hw0.2.1 3
  have g4 := Lib.cell_of_heap hw0.2.1 4
  have g5 := Lib.cell_of_heap hw0.2.1 5
  simp only [List.getElem?_toArray, List.getElem?_cons_zero, List.getElem?_cons_succ] at g0 g1 g2 g3 g4 g5
  have hz0 := lt_of_block hw0.2.1
  have hz0' := lt_of_block hw0.2.2
  clear hw0
  have hx0 := HX.out.1.1.keep (W' := w0) (H0.out.1.block _ hal)
  have k0 := (hx0).c0
  have k1 := (hx0).c1
  have k2 := (hx0).c2
  have k3 := (hx0).c3
  have k4 := (hx0).c4
  have k5 := (hx0).c5
  simp only [Ex.op, Ex.x, Ex.s, Ex.l] at k0 k1 k2 k3 k4 k5
  have hal0 : a.block < w0.heap.size := by have := H0.out.1.size; omega
  clear hx0
  have HRY : Hid (Calls Tryz.prog 36 #[.agg #[.string yop, .int .i64 yk, .int .i64 yi, .string yv, .string ys, u0], .slice A na ca, .slice D nv cv] w0 fun e w' => RetV e ∧ Below w0.heap.size w0 w') := Lib.hid (HREC.out (.mk yop ⟨yk, yi, yv⟩ ys yl) u0 m w0 List.mem_cons_self (HX.out.2.1.below H0.out.1) H0.out.1)
  go_upto_region 14 with (go_at_call 36; (with_reducible refine HRY.out.mono ?_); rintro e w1 ⟨⟨v, hv, rfl⟩, hb1⟩; have HB1 := Lib.hid (And.intro hb1 hv); clear hb1 hv)
  refine wp_gen (fun W => Below w.heap.size w W ∧ W.heap[w.heap.size]? = some (.cells #[.string ⟨#[43]⟩, .int .i64 k, .int .i64 i, .string vs, .string s, .slice (some a) 2 q] 29 (0, 0)) ∧ W.heap[w.heap.size + 1]? = some (.cells #[.int .i64 0, .int .i64 0, .string ⟨#[]⟩] 26 (0, 0)) ∧ W.heap[w1.heap.size]? = some (.cells #[.int .i64 v.k, .int .i64 v.i, .string v.s] 26 (0, 0))) (by
    have hs1 := HB1.out.1.size
    exact ⟨(H0.out.1.trans (HB1.out.1.mono H0.out.1.size)).alloc (by have := H0.out.1.size; omega) _, (Below.heap_alloc _ _ _ (by omega)).trans ((HB1.out.1.block _ hz0).trans H0.out.2.1), (Below.heap_alloc _ _ _ (by omega)).trans ((HB1.out.1.block _ hz0').trans H0.out.2.2), alloc_at rfl _⟩) fun w2 hw2 => ?_
  have H2 := Lib.hid hw2
  clear g0 g1 g2 g3 g4 g5 hz0 hz0' hal0 k0 k1 k2 k3 k4 k5 HRY
  have g0 := Lib.cell_of_heap hw2.2.1 0
  have g1 := Lib.cell_of_heap hw2.2.1 1
  have g2 := Lib.cell_of_heap hw2.2.1 2
  have g3 := Lib.cell_of_heap hw2.2.1 3
  have g4 := Lib.cell_of_heap hw2.2.1 4
  have g5 := Lib.cell_of_heap hw2.2.1 5
  simp only [List.getElem?_toArray, List.getElem?_cons_zero, List.getElem?_cons_succ] at g0 g1 g2 g3 g4 g5
  have hz0 := lt_of_block hw2.2.1
  have hz0' := lt_of_block hw2.2.2.1
  have hz1 := lt_of_block hw2.2.2.2
  clear hw2
  have hx1 := HX.out.1.2.keep (W' := w2) (H2.out.1.block _ hal)
  have m0 := (hx1).c0
  have m1 := (hx1).c1
  have m2 := (hx1).c2
  have m3 := (hx1).c3
  have m4 := (hx1).c4
  have m5 := (hx1).c5
  simp only [Ex.op, Ex.x, Ex.s, Ex.l] at m0 m1 m2 m3 m4 m5
  have hal2 : a.block < w2.heap.size := by have := H2.out.1.size; omega
  clear hx1
  have HRX : Hid (Calls Tryz.prog 36 #[.agg #[.string xop, .int .i64 xk, .int .i64 xi, .string xv, .string xs, u1], .slice A na ca, .slice D nv cv] w2 fun e w' => RetV e ∧ Below w2.heap.size w2 w') := Lib.hid (HREC.out (.mk xop ⟨xk, xi, xv⟩ xs xl) u1 m' w2 (List.mem_cons_of_mem _ List.mem_cons_self) (HX.out.2.2.below H2.out.1) H2.out.1)
  go_upto_region 19 with (go_at_call 36; (with_reducible refine HRX.out.mono ?_); rintro e w3 ⟨⟨x, hx, rfl⟩, hb3⟩; have HB3 := Lib.hid (And.intro hb3 hx); clear hb3 hx)
  refine wp_gen (fun W => Below w.heap.size w W ∧ W.heap[w.heap.size]? = some (.cells #[.string ⟨#[43]⟩, .int .i64 k, .int .i64 i, .string vs, .string s, .slice (some a) 2 q] 29 (0, 0)) ∧ W.heap[w.heap.size + 1]? = some (.cells #[.int .i64 0, .int .i64 0, .string ⟨#[]⟩] 26 (0, 0)) ∧ W.heap[w1.heap.size]? = some (.cells #[.int .i64 v.k, .int .i64 v.i, .string v.s] 26 (0, 0)) ∧ W.heap[w3.heap.size]? = some (.cells #[.int .i64 x.k, .int .i64 x.i, .string x.s] 26 (0, 0))) (by
    have hs3 := HB3.out.1.size
    exact ⟨(H2.out.1.trans (HB3.out.1.mono H2.out.1.size)).alloc (by have := H2.out.1.size; omega) _, (Below.heap_alloc _ _ _ (by omega)).trans ((HB3.out.1.block _ hz0).trans H2.out.2.1), (Below.heap_alloc _ _ _ (by omega)).trans ((HB3.out.1.block _ hz0').trans H2.out.2.2.1), (Below.heap_alloc _ _ _ (by omega)).trans ((HB3.out.1.block _ hz1).trans H2.out.2.2.2), alloc_at rfl _⟩) fun w4 hw4 => ?_
  have H4 := Lib.hid hw4
  clear g0 g1 g2 g3 g4 g5 hz0 hz0' hz1 hal2 m0 m1 m2 m3 m4 m5 HRX
  have g0 := Lib.cell_of_heap hw4.2.1 0
  have g1 := Lib.cell_of_heap hw4.2.1 1
  have g2 := Lib.cell_of_heap hw4.2.1 2
  have g3 := Lib.cell_of_heap hw4.2.1 3
  have g4 := Lib.cell_of_heap hw4.2.1 4
  have g5 := Lib.cell_of_heap hw4.2.1 5
  simp only [List.getElem?_toArray, List.getElem?_cons_zero, List.getElem?_cons_succ] at g0 g1 g2 g3 g4 g5
  have hz0 := lt_of_block hw4.2.1
  have hz0' := lt_of_block hw4.2.2.1
  have r0 := Lib.cell_of_heap hw4.2.2.2.1 0
  have r1 := Lib.cell_of_heap hw4.2.2.2.1 1
  have r2 := Lib.cell_of_heap hw4.2.2.2.1 2
  have t0 := Lib.cell_of_heap hw4.2.2.2.2 0
  have t1 := Lib.cell_of_heap hw4.2.2.2.2 1
  have t2 := Lib.cell_of_heap hw4.2.2.2.2 2
  simp only [List.getElem?_toArray, List.getElem?_cons_zero, List.getElem?_cons_succ] at r0 r1 r2 t0 t1 t2
  clear hw4
  have HN := Lib.hid (rvplus v x w4 HB1.out.2 HB3.out.2)
  go_wp2_with (first
    | (go_at_call 78; (with_reducible refine HN.out.mono ?_); rintro e w5 ⟨rfl, hb5⟩; have HB5 := Lib.hid hb5; have hres5 := (hb5.block _ hz0').trans H4.out.2.2.1; clear hb5)
    | (refine wpList_store_row rfl 26 (.tmp 6) (.tmp 99) rfl (w.heap.size + 1) #[.int .i64 (plusV v x).k, .int .i64 (plusV v x).i, .string (plusV v x).s] rfl rfl 26 _ hres5 valSize rfl (val_one (plusV v x)) ?_))
  refine bodyPost_ret (results_cell_row rfl _ _ (w.heap.size + 1) 26 #[.int .i64 (plusV v x).k, .int .i64 (plusV v x).i, .string (plusV v x).s] (0, 0) _ rfl (setRow_heap _ _ _ _ _ _ hres5) Tryz.underlying26 rfl valSize) rfl ⟨⟨(plusV v x), ok_plus v x, rfl⟩, below_row (H4.out.1.trans (HB5.out.mono H4.out.1.size)) _ (by omega)⟩
set_option maxRecDepth 100000 in
set_option maxHeartbeats 4000000 in
theorem reval_oth (P : Nat → Prop) (n : Nat) (op : ByteArray) (k i : Int) (vs s : ByteArray) (y x : Ex) (u : Value) (A : Option Addr) (na ca : Nat) (cols : List Cl) (D : Option Addr) (nv cv : Nat) (row : List Vl) (w : World) (hn0 : (op.toList == [108, 105, 116]) = false) (hn1 : (op.toList == [99, 111, 108]) = false) (hn2 : (op.toList == [110, 111, 116]) = false) (hn3 : (op.toList == [110, 117, 108, 108]) = false) (hn4 : (op.toList == [97, 110, 100]) = false) (hn5 : (op.toList == [111, 114]) = false) (hn6 : (op.toList == [61]) = false) (hn7 : (op.toList == [60]) = false) (hn8 : (op.toList == [43]) = false) (ht : Tr w P n (.mk op ⟨k, i, vs⟩ s [y, x]) u) (hrec : ∀ (y9 : Ex) (u : Value) (M : Nat) (W : World), y9 ∈ [y, x] → Tr W P M y9 u → Below w.heap.size w W → Calls Tryz.prog 36 #[EVt y9 u, .slice A na ca, .slice D nv cv] W fun e w' => RetV e ∧ Below W.heap.size W w') : Calls Tryz.prog 36 #[.agg #[.string op, .int .i64 k, .int .i64 i, .string vs, .string s, u], .slice A na ca, .slice D nv cv] w fun e w' => RetV e ∧ Below w.heap.size w w' := by
  have hq0 : ¬ op.toList = [108, 105, 116] := by simpa using hn0
  have hq1 : ¬ op.toList = [99, 111, 108] := by simpa using hn1
  have hq2 : ¬ op.toList = [110, 111, 116] := by simpa using hn2
  have hq3 : ¬ op.toList = [110, 117, 108, 108] := by simpa using hn3
  have hq4 : ¬ op.toList = [97, 110, 100] := by simpa using hn4
  have hq5 : ¬ op.toList = [111, 114] := by simpa using hn5
  have hq6 : ¬ op.toList = [61] := by simpa using hn6
  have hq7 : ¬ op.toList = [60] := by simpa using hn7
  have hq8 : ¬ op.toList = [43] := by simpa using hn8
  obtain ⟨a, q, u0, u1, m, m', rfl, hal, hc, hcx, ht0, ht1⟩ := kids2 ht
  obtain ⟨yop, yx, ys, yl⟩ := y
  obtain ⟨yk, yi, yv⟩ := yx
  obtain ⟨xop, xx, xs, xl⟩ := x
  obtain ⟨xk, xi, xv⟩ := xx
  have HX := Lib.hid (And.intro (And.intro hc hcx) (And.intro ht0 ht1))
  have HREC := Lib.hid hrec
  clear ht hc hcx ht0 ht1 hrec
  go_enter Tryz.func36, Tryz.ntmps36
  go_upto_region 13 with (fail)
  refine wp_gen (fun W => Below w.heap.size w W ∧ W.heap[w.heap.size]? = some (.cells #[.string op, .int .i64 k, .int .i64 i, .string vs, .string s, .slice (some a) 2 q] 29 (0, 0)) ∧ W.heap[w.heap.size + 1]? = some (.cells #[.int .i64 0, .int .i64 0, .string ⟨#[]⟩] 26 (0, 0))) ⟨((Below.refl _ _).alloc (Nat.le_refl _) _).alloc (by simp) _, (Below.heap_alloc _ _ _ (by simp)).trans (alloc_at rfl _), alloc_at (by simp) _⟩ fun w0 hw0 => ?_
  have H0 := Lib.hid hw0
  have g0 := Lib.cell_of_heap hw0.2.1 0
  have g1 := Lib.cell_of_heap hw0.2.1 1
  have g2 := Lib.cell_of_heap hw0.2.1 2
  have g3 := Lib.cell_of_heap hw0.2.1 3
  have g4 := Lib.cell_of_heap hw0.2.1 4
  have g5 := Lib.cell_of_heap hw0.2.1 5
  simp only [List.getElem?_toArray, List.getElem?_cons_zero, List.getElem?_cons_succ] at g0 g1 g2 g3 g4 g5
  have hz0 := lt_of_block hw0.2.1
  have hz0' := lt_of_block hw0.2.2
  clear hw0
  have hx0 := HX.out.1.1.keep (W' := w0) (H0.out.1.block _ hal)
  have k0 := (hx0).c0
  have k1 := (hx0).c1
  have k2 := (hx0).c2
  have k3 := (hx0).c3
  have k4 := (hx0).c4
  have k5 := (hx0).c5
  simp only [Ex.op, Ex.x, Ex.s, Ex.l] at k0 k1 k2 k3 k4 k5
  have hal0 : a.block < w0.heap.size := by have := H0.out.1.size; omega
  clear hx0
  have HRY : Hid (Calls Tryz.prog 36 #[.agg #[.string yop, .int .i64 yk, .int .i64 yi, .string yv, .string ys, u0], .slice A na ca, .slice D nv cv] w0 fun e w' => RetV e ∧ Below w0.heap.size w0 w') := Lib.hid (HREC.out (.mk yop ⟨yk, yi, yv⟩ ys yl) u0 m w0 List.mem_cons_self (HX.out.2.1.below H0.out.1) H0.out.1)
  go_upto_region 14 with (go_at_call 36; (with_reducible refine HRY.out.mono ?_); rintro e w1 ⟨⟨v, hv, rfl⟩, hb1⟩; have HB1 := Lib.hid (And.intro hb1 hv); clear hb1 hv)
  refine wp_gen (fun W => Below w.heap.size w W ∧ W.heap[w.heap.size]? = some (.cells #[.string op, .int .i64 k, .int .i64 i, .string vs, .string s, .slice (some a) 2 q] 29 (0, 0)) ∧ W.heap[w.heap.size + 1]? = some (.cells #[.int .i64 0, .int .i64 0, .string ⟨#[]⟩] 26 (0, 0)) ∧ W.heap[w1.heap.size]? = some (.cells #[.int .i64 v.k, .int .i64 v.i, .string v.s] 26 (0, 0))) (by
    have hs1 := HB1.out.1.size
    exact ⟨(H0.out.1.trans (HB1.out.1.mono H0.out.1.size)).alloc (by have := H0.out.1.size; omega) _, (Below.heap_alloc _ _ _ (by omega)).trans ((HB1.out.1.block _ hz0).trans H0.out.2.1), (Below.heap_alloc _ _ _ (by omega)).trans ((HB1.out.1.block _ hz0').trans H0.out.2.2), alloc_at rfl _⟩) fun w2 hw2 => ?_
  have H2 := Lib.hid hw2
  clear g0 g1 g2 g3 g4 g5 hz0 hz0' hal0 k0 k1 k2 k3 k4 k5 HRY
  have g0 := Lib.cell_of_heap hw2.2.1 0
  have g1 := Lib.cell_of_heap hw2.2.1 1
  have g2 := Lib.cell_of_heap hw2.2.1 2
  have g3 := Lib.cell_of_heap hw2.2.1 3
  have g4 := Lib.cell_of_heap hw2.2.1 4
  have g5 := Lib.cell_of_heap hw2.2.1 5
  simp only [List.getElem?_toArray, List.getElem?_cons_zero, List.getElem?_cons_succ] at g0 g1 g2 g3 g4 g5
  have hz0 := lt_of_block hw2.2.1
  have hz0' := lt_of_block hw2.2.2.1
  have hz1 := lt_of_block hw2.2.2.2
  clear hw2
  have hx1 := HX.out.1.2.keep (W' := w2) (H2.out.1.block _ hal)
  have m0 := (hx1).c0
  have m1 := (hx1).c1
  have m2 := (hx1).c2
  have m3 := (hx1).c3
  have m4 := (hx1).c4
  have m5 := (hx1).c5
  simp only [Ex.op, Ex.x, Ex.s, Ex.l] at m0 m1 m2 m3 m4 m5
  have hal2 : a.block < w2.heap.size := by have := H2.out.1.size; omega
  clear hx1
  have HRX : Hid (Calls Tryz.prog 36 #[.agg #[.string xop, .int .i64 xk, .int .i64 xi, .string xv, .string xs, u1], .slice A na ca, .slice D nv cv] w2 fun e w' => RetV e ∧ Below w2.heap.size w2 w') := Lib.hid (HREC.out (.mk xop ⟨xk, xi, xv⟩ xs xl) u1 m' w2 (List.mem_cons_of_mem _ List.mem_cons_self) (HX.out.2.2.below H2.out.1) H2.out.1)
  go_upto_region 19 with (go_at_call 36; (with_reducible refine HRX.out.mono ?_); rintro e w3 ⟨⟨x, hx, rfl⟩, hb3⟩; have HB3 := Lib.hid (And.intro hb3 hx); clear hb3 hx)
  refine wp_gen (fun W => Below w.heap.size w W ∧ W.heap[w.heap.size]? = some (.cells #[.string op, .int .i64 k, .int .i64 i, .string vs, .string s, .slice (some a) 2 q] 29 (0, 0)) ∧ W.heap[w.heap.size + 1]? = some (.cells #[.int .i64 0, .int .i64 0, .string ⟨#[]⟩] 26 (0, 0)) ∧ W.heap[w1.heap.size]? = some (.cells #[.int .i64 v.k, .int .i64 v.i, .string v.s] 26 (0, 0)) ∧ W.heap[w3.heap.size]? = some (.cells #[.int .i64 x.k, .int .i64 x.i, .string x.s] 26 (0, 0))) (by
    have hs3 := HB3.out.1.size
    exact ⟨(H2.out.1.trans (HB3.out.1.mono H2.out.1.size)).alloc (by have := H2.out.1.size; omega) _, (Below.heap_alloc _ _ _ (by omega)).trans ((HB3.out.1.block _ hz0).trans H2.out.2.1), (Below.heap_alloc _ _ _ (by omega)).trans ((HB3.out.1.block _ hz0').trans H2.out.2.2.1), (Below.heap_alloc _ _ _ (by omega)).trans ((HB3.out.1.block _ hz1).trans H2.out.2.2.2), alloc_at rfl _⟩) fun w4 hw4 => ?_
  have H4 := Lib.hid hw4
  clear g0 g1 g2 g3 g4 g5 hz0 hz0' hz1 hal2 m0 m1 m2 m3 m4 m5 HRX
  have g0 := Lib.cell_of_heap hw4.2.1 0
  have g1 := Lib.cell_of_heap hw4.2.1 1
  have g2 := Lib.cell_of_heap hw4.2.1 2
  have g3 := Lib.cell_of_heap hw4.2.1 3
  have g4 := Lib.cell_of_heap hw4.2.1 4
  have g5 := Lib.cell_of_heap hw4.2.1 5
  simp only [List.getElem?_toArray, List.getElem?_cons_zero, List.getElem?_cons_succ] at g0 g1 g2 g3 g4 g5
  have hz0 := lt_of_block hw4.2.1
  have hz0' := lt_of_block hw4.2.2.1
  have r0 := Lib.cell_of_heap hw4.2.2.2.1 0
  have r1 := Lib.cell_of_heap hw4.2.2.2.1 1
  have r2 := Lib.cell_of_heap hw4.2.2.2.1 2
  have t0 := Lib.cell_of_heap hw4.2.2.2.2 0
  have t1 := Lib.cell_of_heap hw4.2.2.2.2 1
  have t2 := Lib.cell_of_heap hw4.2.2.2.2 2
  simp only [List.getElem?_toArray, List.getElem?_cons_zero, List.getElem?_cons_succ] at r0 r1 r2 t0 t1 t2
  clear hw4
  have HN := Lib.hid (rvminus v x w4 HB1.out.2 HB3.out.2)
  go_wp2_with (first
    | (go_at_call 79; (with_reducible refine HN.out.mono ?_); rintro e w5 ⟨rfl, hb5⟩; have HB5 := Lib.hid hb5; have hres5 := (hb5.block _ hz0').trans H4.out.2.2.1; clear hb5)
    | (refine wpList_store_row rfl 26 (.tmp 6) (.tmp 102) rfl (w.heap.size + 1) #[.int .i64 (minusV v x).k, .int .i64 (minusV v x).i, .string (minusV v x).s] rfl rfl 26 _ hres5 valSize rfl (val_one (minusV v x)) ?_))
  refine bodyPost_ret (results_cell_row rfl _ _ (w.heap.size + 1) 26 #[.int .i64 (minusV v x).k, .int .i64 (minusV v x).i, .string (minusV v x).s] (0, 0) _ rfl (setRow_heap _ _ _ _ _ _ hres5) Tryz.underlying26 rfl valSize) rfl ⟨⟨(minusV v x), ok_minus v x, rfl⟩, below_row (H4.out.1.trans (HB5.out.mono H4.out.1.size)) _ (by omega)⟩
set_option maxRecDepth 100000 in
theorem reval_any (P : Nat → Prop) (A : Option Addr) (na ca : Nat) (cols : List Cl) (D : Option Addr) (nv cv : Nat) (row : List Vl) (hnv : nv ≤ 1000) (hok : ∀ x ∈ row, okV x) : ∀ (d : Nat) (t : Ex) (u : Value) (n : Nat) (w : World), frm d t → okT t → Tr w P n t u → ColS w A na cols → Vals w w.heap.size D nv row → Calls Tryz.prog 36 #[EVt t u, .slice A na ca, .slice D nv cv] w fun e w' => RetV e ∧ Below w.heap.size w w'
  | 0, t, u, n, w, hf, _, _, _, _ => hf.elim
  | d + 1, t, u, n, w, hf, hkt, ht, hc, hv => by
    obtain ⟨B, q, e, _⟩ := ht.form
    subst e
    cases t with
    | mk op x s l =>
    obtain ⟨k, i, vs⟩ := x
    unfold EVt
    unfold frm at hf
    simp only [Ex.op, Ex.x, Ex.s, Ex.l] at ht hf ⊢
    have hlit : okV ⟨k, i, vs⟩ := ⟨(hkt 1).1, (hkt 1).2.1⟩
    have hrec : (∀ y ∈ l, frm d y) → ∀ (y9 : Ex) (u : Value) (M : Nat) (W : World), y9 ∈ l → Tr W P M y9 u → Below w.heap.size w W → Calls Tryz.prog 36 #[EVt y9 u, .slice A na ca, .slice D nv cv] W fun e w' => RetV e ∧ Below W.heap.size W w' :=
      fun hk y u M W hy hT hW => reval_any P A na ca cols D nv cv row hnv hok d y u M W (hk y hy) (okT_kid hkt y hy) hT (hc.below hW) ((hv.keep hW).more hW.size)
    rcases hf with h | h | ⟨h, hl, hk⟩ | ⟨⟨h1, h2, h3, h4⟩, hl, hk⟩
    · obtain rfl := bytes_of h
      exact reval_lit k i vs s B l.length q A na ca cols D nv cv row w hlit
    · obtain rfl := bytes_of h
      exact reval_col k i vs s B l.length q A na ca cols D nv cv row w hc hnv hv hok
    · obtain ⟨y, rfl⟩ := len_one hl
      rcases h with h | h
      · obtain rfl := bytes_of h
        exact reval_not P n k i vs s y _ A na ca cols D nv cv row w ht (hrec hk)
      · obtain rfl := bytes_of h
        exact reval_null P n k i vs s y _ A na ca cols D nv cv row w ht (hrec hk)
    · obtain ⟨y, z, rfl⟩ := len_two hl
      by_cases g0 : op.toList = [97, 110, 100]
      · obtain rfl := bytes_of g0
        exact reval_and P n k i vs s y z _ A na ca cols D nv cv row w ht (hrec hk)
      by_cases g1 : op.toList = [111, 114]
      · obtain rfl := bytes_of g1
        exact reval_or P n k i vs s y z _ A na ca cols D nv cv row w ht (hrec hk)
      by_cases g2 : op.toList = [61]
      · obtain rfl := bytes_of g2
        exact reval_eq P n k i vs s y z _ A na ca cols D nv cv row w ht (hrec hk)
      by_cases g3 : op.toList = [60]
      · obtain rfl := bytes_of g3
        exact reval_less P n k i vs s y z _ A na ca cols D nv cv row w ht (hrec hk)
      by_cases g4 : op.toList = [43]
      · obtain rfl := bytes_of g4
        exact reval_plus P n k i vs s y z _ A na ca cols D nv cv row w ht (hrec hk)
      exact reval_oth P n op k i vs s y z _ A na ca cols D nv cv row w (neB h1) (neB h2) (neB h3) (neB h4) (neB g0) (neB g1) (neB g2) (neB g3) (neB g4) ht (hrec hk)
end Go.Proofs.YtmhkmliebhbkdaaGreat

/- The document's check of a table's CHECK. -/
namespace Go.Proofs.YtmhkmliebhbkdaaGreat
open Go.RowKit Go.Lib

def RetIP (e : Ending) (p : Prop) : Prop := ∃ z : Int, e = .returned (.int .i64 z) ∧ (z = 0 → p)
theorem ne_zero7 (k i : Int) (vs : ByteArray) : ∃ z, ∀ w, Sem.run Tryz.prog (binOp .neq 26 (.agg #[.int .i64 k, .int .i64 i, .string vs]) (.agg #[.int .i64 0, .int .i64 0, .string ⟨#[]⟩])) w = .ok (.bool z) w := ⟨!(sameV ⟨k, i, vs⟩ ⟨0, 0, ⟨#[]⟩⟩), fun w => by
  show (binOp .neq 26 (.agg #[.int .i64 k, .int .i64 i, .string vs]) (.agg #[.int .i64 0, .int .i64 0, .string ⟨#[]⟩])).run Tryz.prog w = _
  have h := run_equal_vl ⟨k, i, vs⟩ ⟨0, 0, ⟨#[]⟩⟩ w
  unfold vlV at h
  simp only [binOp, Sem.run_bind, h, Result.andThen_ok, Sem.run_pure]⟩
set_option maxRecDepth 100000 in
set_option maxHeartbeats 4000000 in
theorem rsame0_any (k i : Int) (vs s : ByteArray) (B : Option Addr) (p q : Nat) (w : World) : Calls Tryz.prog 50 #[.agg #[.string ⟨#[]⟩, .int .i64 k, .int .i64 i, .string vs, .string s, .slice B p q], .agg #[.string ⟨#[]⟩, .int .i64 0, .int .i64 0, .string ⟨#[]⟩, .string ⟨#[]⟩, .slice none 0 0]] w fun e w' => RetB e ∧ Below w.heap.size w w' := by
  obtain ⟨zb, hzb⟩ := ne_zero7 k i vs
  have HB : Hid (Below w.heap.size w ((w.alloc (.cells #[.string ⟨#[]⟩, .int .i64 k, .int .i64 i, .string vs, .string s, .slice B p q] 29)).alloc (.cells #[.string ⟨#[]⟩, .int .i64 0, .int .i64 0, .string ⟨#[]⟩, .string ⟨#[]⟩, .slice none 0 0] 29))) := ((Below.refl _ _).alloc (Nat.le_refl _) _).alloc (by simp) _
  cases zb with
  | true =>
    go_enter Tryz.func50, Tryz.ntmps50
    go_wp2_with (fail)
    go_ret
    exact ⟨⟨_, rfl⟩, HB.out⟩
  | false =>
    by_cases hs : s.toList = []
    · by_cases hp : p = 0
      · subst hp
        go_enter Tryz.func50, Tryz.ntmps50
        go_wp2_with (fail)
        refine wp_loop_once ?_
        go_wp2_with (fail)
        go_ret
        exact ⟨⟨_, rfl⟩, HB.out⟩
      · have hq : ((p : Int) != 0) = true := by simp; omega
        go_enter Tryz.func50, Tryz.ntmps50
        go_wp2_with (fail)
        go_ret
        exact ⟨⟨_, rfl⟩, HB.out⟩
    · 
      go_enter Tryz.func50, Tryz.ntmps50
      go_wp2_with (fail)
      go_ret
      exact ⟨⟨_, rfl⟩, HB.out⟩
set_option maxRecDepth 100000 in
set_option maxHeartbeats 4000000 in
theorem rcheck6_any (P : Nat → Prop) (A : Option Addr) (na ca : Nat) (cols : List Cl) (t : Ex) (u : Value) (n : Nat) (w : World) (ht : Tr w P n t u) (hk : okT t) (hc : ColS w A na cols) :
    Calls Tryz.prog 45 #[EVt t u, .slice A na ca] w fun e w' => RetIP e (¬ t.op.toList = [] → frm 12 t) ∧ Below w.heap.size w w' := by
  have HM : Hid (∀ W, Below w.heap.size w W → Calls Tryz.prog 69 #[EVt t u] W fun e w' => RetP e (frm 12 t) ∧ Below W.heap.size W w') := Lib.hid fun W hW => rmay4_any P t u n W (ht.below hW) hk
  have HT : Hid (frm 12 t → ∀ W, Below w.heap.size w W → Calls Tryz.prog 70 #[EVt t u, .slice A na ca] W fun e w' => RetII e ∧ Below W.heap.size W w') := Lib.hid fun hf W hW => rtype_any P A na ca cols 12 t u n W hf (ht.below hW) (hc.below hW)
  obtain ⟨B, q, e, _⟩ := ht.form
  subst e
  clear ht hc hk
  obtain ⟨pp, Hpp⟩ : ∃ p, Hid (p = frm 12 t) := ⟨_, Lib.hid rfl⟩
  rw [← Hpp.out] at HM HT ⊢
  clear Hpp
  cases t with
  | mk op x s l =>
  obtain ⟨k, i, vs⟩ := x
  unfold EVt at HM HT ⊢
  simp only [Ex.op, Ex.x, Ex.s, Ex.l] at HM HT ⊢
  generalize l.length = p at HM HT ⊢
  by_cases hop : op.toList = []
  · obtain rfl := bytes_of hop
    have HS := Lib.hid (fun W => rsame0_any k i vs s B p q W)
    have HN : Hid (¬ (⟨#[]⟩ : ByteArray).toList = [] → pp) := Lib.hid fun h => absurd hop h
    generalize (¬ (⟨#[]⟩ : ByteArray).toList = [] → pp) = qq at HN ⊢
    clear hop
    go_enter Tryz.func45, Tryz.ntmps45
    go_wp2_with (go_at_call 50; (with_reducible refine (HS.out _).mono ?_); rintro e w1 ⟨⟨z, rfl⟩, hb1⟩; have HB1 : Hid (Below w.heap.size w w1) := ((Below.refl _ _).alloc (Nat.le_refl _) _).trans (hb1.mono (by simp)); clear hb1; cases z)
    all_goals go_wp2_with (fail)
    all_goals go_ret
    all_goals exact ⟨⟨_, rfl, fun _ => HN.out⟩, HB1.out⟩
  · have hop2 : (op.toList == []) = false := by simpa using hop
    have HN : Hid (pp → ¬ op.toList = [] → pp) := Lib.hid fun h _ => h
    generalize (¬ op.toList = [] → pp) = qq at HN ⊢
    go_enter Tryz.func45, Tryz.ntmps45
    go_upto_region 1 with (fail)
    refine wp_gen (fun W => Below w.heap.size w W ∧ W.heap[w.heap.size]? = some (.cells #[.string op, .int .i64 k, .int .i64 i, .string vs, .string s, .slice B p q] 29 (0, 0))) ⟨(Below.refl _ _).alloc (Nat.le_refl _) _, alloc_at rfl _⟩ fun w0 hw0 => ?_
    have H0 := Lib.hid hw0
    have g0 := Lib.cell_of_heap hw0.2 0
    have g1 := Lib.cell_of_heap hw0.2 1
    have g2 := Lib.cell_of_heap hw0.2 2
    have g3 := Lib.cell_of_heap hw0.2 3
    have g4 := Lib.cell_of_heap hw0.2 4
    have g5 := Lib.cell_of_heap hw0.2 5
    simp only [List.getElem?_toArray, List.getElem?_cons_zero, List.getElem?_cons_succ] at g0 g1 g2 g3 g4 g5
    have hz0 := lt_of_block hw0.2
    clear hw0
    go_wp2_with (go_at_call 69; (with_reducible refine (HM.out _ H0.out.1).mono ?_); rintro e w1 ⟨⟨z, rfl, hz⟩, hb1⟩; have HB1 := Lib.hid (And.intro (H0.out.1.trans (hb1.mono H0.out.1.size)) hz); have hc1 := (bcell hb1).1; have hy1 := hb1.size; have hz1 : w.heap.size < w1.heap.size := (by omega); clear hb1 hz; cases z)
    · go_wp2_with (fail)
      go_ret
      exact ⟨⟨_, rfl, fun h => by first | (cases h; done) | (simp at h; done)⟩, HB1.out.1⟩
    · have HP : Hid pp := Lib.hid (HB1.out.2 (by first | exact rfl | trivial))
      go_upto_region 8 with (go_at_call 70; (with_reducible refine (HT.out HP.out _ HB1.out.1).mono ?_); rintro e w2 ⟨⟨z1, z2, rfl⟩, hb2⟩; have HB2 := Lib.hid (HB1.out.1.trans (hb2.mono HB1.out.1.size)); clear hb2)
      obtain ⟨bf, hbf⟩ : ∃ b, (z2 != 0) = b := ⟨_, rfl⟩
      obtain ⟨b0, hb0⟩ : ∃ b, (z1 != 0) = b := ⟨_, rfl⟩
      obtain ⟨b3, hb3⟩ : ∃ b, (z1 != 3) = b := ⟨_, rfl⟩
      cases bf <;> cases b0 <;> cases b3
      all_goals go_wp2_with (fail)
      all_goals go_ret
      all_goals exact ⟨⟨_, rfl, fun _ => HN.out HP.out⟩, HB2.out⟩
end Go.Proofs.YtmhkmliebhbkdaaGreat
