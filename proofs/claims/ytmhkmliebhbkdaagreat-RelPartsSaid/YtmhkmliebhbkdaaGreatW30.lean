import Derived.Test.YtmhkmliebhbkdaaGreatW29

/- The law RelParts. -/
namespace Go.Proofs.YtmhkmliebhbkdaaGreat
open Go.RowKit Go.Lib

theorem RelR.below {W W' : World} {B1 : Nat} {v : Value} {rows0 : List (List Vl)} (h : RelR W B1 v rows0) (hb : Below W.heap.size W W') : RelR W' B1 v rows0 := by
  obtain ⟨nm', A', n', c', key', U', m', cu', R', p', cr', op', k', i', vs', s', B', q', d', cols', us', rs', l', Ar', nr', ca', rows', e, t1, t2, t3, t4, t5, t6, t7, t8, t9, t10⟩ := h
  exact ⟨nm', A', n', c', key', U', m', cu', R', p', cr', op', k', i', vs', s', B', q', d', cols', us', rs', l', Ar', nr', ca', rows', e, t1.below hb, t2, t3, t4, t5, t6, t7.below hb, t8, t9, t10⟩
theorem RelR.less {W : World} {B1 B2 : Nat} {v : Value} {rows0 : List (List Vl)} (h : RelR W B1 v rows0) (hb : B2 ≤ B1) : RelR W B2 v rows0 := by
  obtain ⟨nm', A', n', c', key', U', m', cu', R', p', cr', op', k', i', vs', s', B', q', d', cols', us', rs', l', Ar', nr', ca', rows', e, t1, t2, t3, t4, t5, t6, t7, t8, t9, t10⟩ := h
  exact ⟨nm', A', n', c', key', U', m', cu', R', p', cr', op', k', i', vs', s', B', q', d', cols', us', rs', l', Ar', nr', ca', rows', e, ⟨t1.hcols, t1.cap, t1.hus, t1.hrs, t1.chk.keep (fun _ _ _ => rfl) (fun b hb' _ => Nat.le_trans hb hb'), t1.len, t1.hnm, t1.nc, t1.nr⟩, fun a e => (t2 a e).imp id (Nat.le_trans hb), fun a e => (t3 a e).imp id (Nat.le_trans hb), fun a e => (t4 a e).imp id (Nat.le_trans hb), t5, t6, t7.any (fun b _ h => Nat.lt_of_lt_of_le h hb), fun a e => (t8 a e).imp id (Nat.le_trans hb), t9, t10⟩
theorem relR_at {W : World} {B1 : Nat} {rows0 : List (List Vl)} {nm' : ByteArray} {A' : Option Addr} {n' c' : Nat} {key' : Int} {U' : Option Addr} {m' cu' : Nat} {R' : Option Addr} {p' cr' : Nat} {op' : ByteArray} {k' i' : Int} {vs' s' : ByteArray} {B' : Option Addr} {q' d' : Nat} {Ar' : Option Addr} {nr' ca' : Nat} (h : RelR W B1 (.agg #[.string nm', .slice A' n' c', .int .i64 key', .slice U' m' cu', .slice R' p' cr', .string op', .int .i64 k', .int .i64 i', .string vs', .string s', .slice B' q' d', .slice Ar' nr' ca']) rows0) : ∃ (cols' : List Cl) (us' : List Int) (rs' : List Rf) (l' : List Ex) (rows' : List (List Vl)), TbS W nm' A' n' c' key' U' m' cu' R' p' cr' op' k' i' vs' s' B' q' d' cols' us' rs' l' (fun b => B1 ≤ b) 14 ∧ (∀ a, A' = some a → n' = 0 ∨ B1 ≤ a.block) ∧ (∀ a, U' = some a → m' = 0 ∨ B1 ≤ a.block) ∧ (∀ a, R' = some a → p' = 0 ∨ B1 ≤ a.block) ∧ nilOk Ar' nr' ca' ∧ RowsAt W (fun b => b < B1) Ar' nr' rows' ∧ (∀ a, Ar' = some a → nr' = 0 ∨ B1 ≤ a.block) ∧ okT (.mk op' ⟨k', i', vs'⟩ s' l') ∧ rows' = (rows0.take nr').map fewL := by
  obtain ⟨nm2, A2, n2, c2, key2, U2, m2, cu2, R2, p2, cr2, op2, k2, i2, vs2, s2, B2, q2, d2, cols2, us2, rs2, l2, Ar2, nr2, ca2, rows2, h1, t1, t2, t3, t4, t5, t6, t7, t8, t9, t10⟩ := h
  injection h1 with e
  simp only [Array.mk.injEq, List.cons.injEq, Value.string.injEq, Value.int.injEq, Value.slice.injEq, true_and, and_true] at e
  obtain ⟨e1, ⟨e2, e3, e4⟩, e5, ⟨e6, e7, e8⟩, ⟨e9, e10, e11⟩, e12, e13, e14, e15, e16, ⟨e17, e18, e19⟩, e20, e21, e22⟩ := e
  subst e1 e2 e3 e4 e5 e6 e7 e8 e9 e10 e11 e12 e13 e14 e15 e16 e17 e18 e19 e20 e21 e22
  exact ⟨cols2, us2, rs2, l2, rows2, t1, t2, t3, t4, t5, t7, t8, t9, t10⟩
def relRl (B0 : Nat) (rows0 : List (List Vl)) (v : Value) (F : List Nat) (w : World) : Prop := F = [] ∧ RelR w B0 v rows0
theorem relRl_lasting {B0 : Nat} {rows0 : List (List Vl)} : ∀ u F, Lasting (relRl B0 rows0 u F) := fun _ _ _ _ hb h => ⟨h.1, h.2.below hb⟩
theorem relRl_enter {P : Program} {w : World} {f : FuncId} {args : Array Value} {B0 : Nat} {rows0 : List (List Vl)} (h : Calls P f args w fun e w' => (∃ v, e = .returned v ∧ RelR w' w.heap.size v rows0) ∧ Below w.heap.size w w') (hb0 : B0 ≤ w.heap.size) : Rel1 P (relRl B0 rows0) w (.ok (.enter f args) w) :=
  Calls.mono h fun e w' ⟨⟨v, h1, h2⟩, hb⟩ => ⟨v, [], h1, ⟨rfl, h2.less hb0⟩, (fun b hb' => by cases hb'), hb⟩
/-- A slice of one row. -/
def nsX (row : List Vl) (u : Value) (F : List Nat) (w : World) : Prop := ∃ b D m c, F = [b] ∧ u = .slice (some ⟨b, 0, none⟩) 1 1 ∧ w.heap[b]? = some (.cells #[.slice D m c] 47 (0, 0)) ∧ nilOk D m c ∧ m ≤ 1000 ∧ Vals w w.heap.size D m row
theorem nsX_lasting {row : List Vl} : ∀ u F, Lasting (nsX row u F) := by
  rintro u F w w' hb ⟨b, D, m, c, h1, h2, h3, h4, h5, h6⟩
  exact ⟨b, D, m, c, h1, h2, (hb.block b (lt_of_block h3)).trans h3, h4, h5, h6.below hb⟩
theorem nsX_made {P : Program} {w : World} {row : List Vl} {D : Option Addr} {m c : Nat} (h1 : nilOk D m c) (h2 : m ≤ 1000) (h3 : Vals w w.heap.size D m row) : Rel1 P (nsX row) w (.ok (.value (.slice (some ⟨w.heap.size, 0, none⟩) 1 1)) (w.alloc (.cells #[.slice D m c] 47))) :=
  ⟨[w.heap.size], ⟨_, D, m, c, rfl, rfl, alloc_at rfl _, h1, h2, h3.below ((Below.refl _ _).alloc (Nat.le_refl _) _)⟩, by simp, (Below.refl _ _).alloc (Nat.le_refl _) _⟩
theorem nsX.rows {w : World} {row : List Vl} {b : Nat} {F : List Nat} (h : nsX row (.slice (some ⟨b, 0, none⟩) 1 1) F w) : RowsAt w (fun _ => False) (some ⟨b, 0, none⟩) 1 [row] := by
  obtain ⟨b', D, m, c, _, e, h3, h4, h5, h6⟩ := h
  injection e with e
  injection e with e
  injection e with e
  subst e
  refine ⟨rfl, by omega, fun j hj => ?_⟩
  obtain rfl : j = 0 := by have : j < 1 := hj; omega
  refine ⟨_, D, m, c, rfl, ?_, h4, h5, h6, fun _ _ => .inr (fun h => h)⟩
  rw [show (⟨b, 0, none⟩ : Addr).add 0 = ⟨b, 0, none⟩ from rfl]
  exact (Lib.cell_of_heap h3 0).trans rfl
def boolQ (p : Prop) (u : Value) (F : List Nat) (w : World) : Prop := F = [] ∧ ∃ b : Bool, u = .bool b ∧ (p → b = true)
theorem boolQ_lasting {p : Prop} : ∀ u F, Lasting (boolQ p u F) := fun _ _ _ _ _ h => h
theorem boolQ_is {P : Program} {w : World} {p : Prop} {b : Bool} (h : p → b = true) : Rel1 P (boolQ p) w (.ok (.value (.bool b)) w) := ⟨[], ⟨rfl, b, rfl, h⟩, by simp, Below.refl _ _⟩
theorem boolQ_same {w : World} {r r2 : List Vl} {b b2 : Nat} (h1 : RowsAt w (fun _ => False) (some ⟨b, 0, none⟩) 1 [r]) (h2 : RowsAt w (fun _ => False) (some ⟨b2, 0, none⟩) 1 [r2]) : Rel1 Tryz.prog (boolQ (r2 = r)) w (.ok (.enter 16 #[.slice (some ⟨b, 0, none⟩) 1 1, .slice (some ⟨b2, 0, none⟩) 1 1]) w) := by
  by_cases h : r2 = r
  · subst h
    exact Calls.mono (sameRows_eq _ _ _ 1 1 _ 1 _ w h1 h2) fun e w' g => ⟨_, [], g.1, ⟨rfl, true, rfl, fun _ => rfl⟩, (fun b hb' => by cases hb'), g.2⟩
  · exact Calls.mono (rsameRows_any _ _ _ 1 1 _ 1 1 _ _ w h1 h2) fun e w' ⟨⟨z, g1⟩, g2⟩ => ⟨_, [], g1, ⟨rfl, z, rfl, fun g => absurd g h⟩, (fun b hb' => by cases hb'), g2⟩
set_option maxRecDepth 100000 in
set_option maxHeartbeats 4000000 in
theorem law_parts7 (nm : ByteArray) (A : Option Addr) (n c : Nat) (key : Int) (U : Option Addr) (m cu : Nat) (R : Option Addr) (p cr : Nat) (op : ByteArray) (k i : Int) (vs s : ByteArray) (B : Option Addr) (q d : Nat) (Ar : Option Addr) (nr ca : Nat) (cols : List Cl) (us : List Int) (rs : List Rf) (rows : List (List Vl)) (xo : ByteArray) (xk xi : Int) (xv xs : ByteArray) (xB : Option Addr) (xp xq : Nat) (w : World) (ht : TbIn w nm A n c key U m cu R p cr op k i vs s B q d cols us rs) (hr : RowsIn w Ar nr rows) (hin : ∀ r ∈ rows, ∀ x ∈ r, In64 x.i)
    (hxo : xo.size ≤ maxLen) (hxv : xv.size ≤ maxLen) (hxs : xs.size ≤ maxLen) (hxi : In64 xi) (hxu : InL w w.heap.size 14 (.slice xB xp xq)) :
    Calls Tryz.prog 4 #[.agg #[.string nm, .slice A n c, .int .i64 key, .slice U m cu, .slice R p cr, .string op, .int .i64 k, .int .i64 i, .string vs, .string s, .slice B q d, .slice Ar nr ca], .agg #[.string xo, .int .i64 xk, .int .i64 xi, .string xv, .string xs, .slice xB xp xq]] w fun e w' => e = .returned (.bool true) ∧ Below w.heap.size w w' := by
  have HFE : Hid (∀ W, Below w.heap.size w W → Calls Tryz.prog 9 #[.agg #[.string nm, .slice A n c, .int .i64 key, .slice U m cu, .slice R p cr, .string op, .int .i64 k, .int .i64 i, .string vs, .string s, .slice B q d, .slice Ar nr ca]] W fun e w' => (∃ v, e = .returned v ∧ RelR w' W.heap.size v rows) ∧ Below W.heap.size W w') := Lib.hid fun W hW => few7_any nm A n c key U m cu R p cr op k i vs s B q d Ar nr ca cols us rs rows W (ht.at7 hW) (hr.below hW)
  have HF4 : Hid (∀ W, Below w.heap.size w W → Calls Tryz.prog 10 #[.agg #[.string xo, .int .i64 xk, .int .i64 xi, .string xv, .string xs, .slice xB xp xq]] W fun e w' => (∃ t u, e = .returned (EVt t u) ∧ okT t ∧ Tr w' (fun b => W.heap.size ≤ b) 14 t u) ∧ Below W.heap.size W w') := Lib.hid fun W hW => few4_any xo xk xi xv xs _ W hxo hxv hxs hxi (InL.more hW.size (InL.keep hW hxu))
  have HIN := Lib.hid hin
  clear ht hr hxu hin
  go_enter Tryz.func4, Tryz.ntmps4
  go_upto_region 1 with (fail)
  refine wp_gen (fun W => Below w.heap.size w W ∧ w.heap.size + 1 < W.heap.size ∧ W.heap[w.heap.size]? = some (.cells #[.string nm, .slice A n c, .int .i64 key, .slice U m cu, .slice R p cr, .string op, .int .i64 k, .int .i64 i, .string vs, .string s, .slice B q d, .slice Ar nr ca] 34 (0, 0)) ∧ W.heap[w.heap.size + 1]? = some (.cells #[.string xo, .int .i64 xk, .int .i64 xi, .string xv, .string xs, .slice xB xp xq] 29 (0, 0))) ⟨((Below.refl _ _).alloc (Nat.le_refl _) _).alloc (by simp) _, by simp, (Below.heap_alloc _ _ _ (by simp)).trans (alloc_at rfl _), alloc_at (by simp) _⟩ fun w0 hw0 => ?_
  have H0 := Lib.hid hw0
  have hz0 := lt_of_block hw0.2.2.1
  have hz0' := hw0.2.1
  clear hw0
  refine detL_begin [.val (.agg #[.string nm, .slice A n c, .int .i64 key, .slice U m cu, .slice R p cr, .string op, .int .i64 k, .int .i64 i, .string vs, .string s, .slice B q d, .slice Ar nr ca]), .rel (relRl w0.heap.size rows), .val (.agg #[.string xo, .int .i64 xk, .int .i64 xi, .string xv, .string xs, .slice xB xp xq]), .rel fewRl] 4 (by kernel_rfl) ?_
  refine detL_val (by kernel_rfl) (yields_of rfl fun w5 hb5 => det1_load_row 34 (.tmp 2) rfl w.heap.size rfl 34 _ (0, 0) _ ((hb5.block w.heap.size hz0).trans H0.out.2.2.1) Tryz.underlying34 rfl relSize) ?_
  simp only [Act.put, List.setIfInBounds_toArray, List.set_cons_zero, List.set_cons_succ]
  refine detL_rel (by kernel_rfl) (yields_rel (by rfl) relRl_lasting fun w5 hw5 => ?_) ?_
  · have hb5 := hw5.below
    have HBx := Lib.hid hb5
    clear hb5 hw5
    go_simp
    exact relRl_enter (HFE.out w5 (H0.out.1.trans (((Below.refl _ _).drew.trans HBx.out).mono H0.out.1.size))) ((Below.refl w0.heap.size w0).drew.trans HBx.out).size
  rintro v G9 w5 hw5
  have qq : relRl w0.heap.size rows v G9 w5 := (hw5.ents _ List.mem_cons_self).1
  clear hw5
  unfold relRl RelR at qq
  obtain ⟨rfl, nm', A', n', c', key', U', m', cu', R', p', cr', op', k', i', vs', s', B', q', d', cols', us', rs', l', Ar', nr', ca', rows', rfl, -⟩ := qq
  simp only [Act.put, List.setIfInBounds_toArray, List.set_cons_zero, List.set_cons_succ]
  refine detL_val (by kernel_rfl) (yields_of rfl fun w5 hb5 => det1_load_row 29 (.tmp 3) rfl (w.heap.size + 1) rfl 29 _ (0, 0) _ ((hb5.block (w.heap.size + 1) hz0').trans H0.out.2.2.2) Tryz.underlying29 rfl exSize7) ?_
  simp only [Act.put, List.setIfInBounds_toArray, List.set_cons_zero, List.set_cons_succ]
  refine detL_rel (by kernel_rfl) (yields_rel (by rfl) fewRl_lasting fun w5 hw5 => ?_) ?_
  · have hb5 := hw5.below
    have HBx := Lib.hid hb5
    clear hb5 hw5
    go_simp
    exact fewRl_enter (HF4.out w5 (H0.out.1.trans (((Below.refl _ _).drew.trans HBx.out).mono H0.out.1.size)))
  rintro v G9 w5 hw5
  have qq : fewRl v G9 w5 := (hw5.ents _ List.mem_cons_self).1
  clear hw5
  unfold fewRl at qq
  obtain ⟨⟨oe, ⟨ke, ie, ve⟩, se, _⟩, Be, qe, pe, rfl, -⟩ := qq
  simp only [Act.put, List.setIfInBounds_toArray, List.set_cons_zero, List.set_cons_succ]
  refine detL_tail rfl (by kernel_rfl) fun w1 hw1 => ?_
  have q1 : fewRl (.agg #[.string oe, .int .i64 ke, .int .i64 ie, .string ve, .string se, .slice Be pe qe]) G9 w1 := (hw1.ents _ List.mem_cons_self).1
  have q2 : relRl w0.heap.size rows (.agg #[.string nm', .slice A' n' c', .int .i64 key', .slice U' m' cu', .slice R' p' cr', .string op', .int .i64 k', .int .i64 i', .string vs', .string s', .slice B' q' d', .slice Ar' nr' ca']) [] w1 := (hw1.ents _ (List.mem_cons_of_mem _ List.mem_cons_self)).1
  have q3 : ∀ b ∈ G9, w0.heap.size ≤ b := fun b hb => ((hw1.ents _ List.mem_cons_self).2.2 b hb).1
  have hb1 : Below w0.heap.size w0 w1 := (Below.refl _ _).drew.trans hw1.below
  clear hw1
  obtain ⟨le, hokt, ht1⟩ := fewRl_at q1
  obtain ⟨cols', us', rs', l', rows', t1, t2, t3, t4, t5, t6, t7, t8, t9⟩ := relR_at q2.2
  have hbx1 := (hb1.block _ hz0).trans H0.out.2.2.1
  have hbe1 := (hb1.block _ hz0').trans H0.out.2.2.2
  have hbe2 : (w1.setRow w.heap.size #[.string nm', .slice A' n' c', .int .i64 key', .slice U' m' cu', .slice R' p' cr', .string op', .int .i64 k', .int .i64 i', .string vs', .string s', .slice B' q' d', .slice Ar' nr' ca']).heap[w.heap.size + 1]? = some (.cells #[.string xo, .int .i64 xk, .int .i64 xi, .string xv, .string xs, .slice xB xp xq] 29 (0, 0)) := (setRow_other _ _ _ _ (by omega)).trans hbe1
  have HN := Lib.hid t5
  have HOKE := Lib.hid hokt
  have HOKC := Lib.hid t8
  have HOKR : Hid (∀ r ∈ rows', ∀ x ∈ r, okV x) := Lib.hid (by
    rw [t9]
    intro r hr
    obtain ⟨r0, h0, rfl⟩ := List.mem_map.1 hr
    exact ok_few (HIN.out r0 (List.mem_of_mem_take h0)))
  have HX := Lib.hid (And.intro (And.intro t1 (And.intro t2 (And.intro t3 t4))) (And.intro (And.intro t6 t7) (And.intro hb1 (And.intro ht1 q3))))
  clear q1 q2 q3 hokt ht1 t1 t2 t3 t4 t5 t6 t7 t8 t9 hb1
  go_upto_region 2 with (first
    | (refine wpList_store_row rfl 34 (.tmp 2) (.tmp 15) rfl w.heap.size #[.string nm', .slice A' n' c', .int .i64 key', .slice U' m' cu', .slice R' p' cr', .string op', .int .i64 k', .int .i64 i', .string vs', .string s', .slice B' q' d', .slice Ar' nr' ca'] rfl rfl 34 _ hbx1 relSize rfl (rel_one _ _ _ _ _ _ _ _ _ _ _ _ _ _ _ _ _ _ _ _ _ _) ?_)
    | (refine wpList_store_row rfl 29 (.tmp 3) (.tmp 17) rfl (w.heap.size + 1) #[.string oe, .int .i64 ke, .int .i64 ie, .string ve, .string se, .slice Be pe qe] rfl rfl 29 _ hbe2 exSize7 rfl (ex_one7 _ _ _ _ _ _ _ _) ?_))
  refine wp_gen (fun W => (Below w.heap.size w W ∧ w0.heap.size ≤ W.heap.size ∧ TbS W nm' A' n' c' key' U' m' cu' R' p' cr' op' k' i' vs' s' B' q' d' cols' us' rs' l' (fun b => w0.heap.size ≤ b) 14 ∧ RowsAt W (fun b => b < w0.heap.size) Ar' nr' rows' ∧ W.heap[w.heap.size]? = some (.cells #[.string nm', .slice A' n' c', .int .i64 key', .slice U' m' cu', .slice R' p' cr', .string op', .int .i64 k', .int .i64 i', .string vs', .string s', .slice B' q' d', .slice Ar' nr' ca'] 34 (0, 0)) ∧ W.heap[w.heap.size + 1]? = some (.cells #[.string oe, .int .i64 ke, .int .i64 ie, .string ve, .string se, .slice Be pe qe] 29 (0, 0)) ∧ Tr W (fun b => w0.heap.size ≤ b) 14 (.mk oe ⟨ke, ie, ve⟩ se le) (.slice Be pe qe))) ⟨below_row (below_row (H0.out.1.trans (HX.out.2.2.1.mono H0.out.1.size)) _ (Nat.le_refl _)) _ (by omega), by rw [setRow_size, setRow_size]; exact HX.out.2.2.1.size, HX.out.1.1.away7 HX.out.1.2.1 HX.out.1.2.2.1 HX.out.1.2.2.2 (fun b hb => (setRow_other _ _ _ _ (by omega)).trans (setRow_other _ _ _ _ (by omega))), (HX.out.2.1.1.row7 HX.out.2.1.2 hz0 _).row7 HX.out.2.1.2 hz0' _, (setRow_other _ _ _ _ (by omega)).trans (setRow_heap _ _ _ _ _ _ hbx1), setRow_heap _ _ _ _ _ _ hbe2, HX.out.2.2.2.1.keep (fun b hb _ => (setRow_other _ _ _ _ (by have := HX.out.2.2.2.2 b hb; omega)).trans (setRow_other _ _ _ _ (by have := HX.out.2.2.2.2 b hb; omega))) (fun b hb _ => HX.out.2.2.2.2 b hb)⟩ fun w2 hw2 => ?_
  have H2 := Lib.hid hw2
  have b20 := lt_of_block hw2.2.2.2.2.1
  have b21 := lt_of_block hw2.2.2.2.2.2.1
  clear hw2 hbx1 hbe1 hbe2 HX
  obtain ⟨R1, z1, HQ1⟩ : ∃ R z, Hid (whereR cols' rows' (.mk oe ⟨ke, ie, ve⟩ se le) = (R, z)) := ⟨_, _, Lib.hid rfl⟩
  obtain ⟨R2, z2, HQ2⟩ : ∃ R z, Hid (whereR cols' rows' (oneT ⟨#[110, 111, 116]⟩ (.mk oe ⟨ke, ie, ve⟩ se le)) = (R, z)) := ⟨_, _, Lib.hid rfl⟩
  obtain ⟨R3, z3, HQ3⟩ : ∃ R z, Hid (whereR cols' rows' (oneT ⟨#[110, 117, 108, 108]⟩ (.mk oe ⟨ke, ie, ve⟩ se le)) = (R, z)) := ⟨_, _, Lib.hid rfl⟩
  have HW1 : Hid (Calls Tryz.prog 14 #[.agg #[.string nm', .slice A' n' c', .int .i64 key', .slice U' m' cu', .slice R' p' cr', .string op', .int .i64 k', .int .i64 i', .string vs', .string s', .slice B' q' d', .slice Ar' nr' ca'], .agg #[.string oe, .int .i64 ke, .int .i64 ie, .string ve, .string se, .slice Be pe qe]] w2 fun e w' => ∃ A9 n9 c9, e = .returned (.tuple #[.slice A9 n9 c9, .int .i64 z1]) ∧ RowsAt w' (fun _ => False) A9 n9 R1 ∧ Below w2.heap.size w2 w') := Lib.hid (by
    refine Calls.mono (where_any nm' A' n' c' key' U' m' cu' R' p' cr' op' k' i' vs' s' B' q' d' Ar' nr' ca' cols' rows' _ oe ke ie ve se Be pe qe le _ 14 w2 H2.out.2.2.1.hcols HN.out H2.out.2.2.2.1 H2.out.2.2.2.2.2.2) ?_
    rintro e w' ⟨A9, n9, c9, he, h1, h2, h3⟩
    rw [HQ1.out] at he h2
    exact ⟨A9, n9, c9, he, h2, h3⟩)
  go_upto_region 3 with (first
    | (refine wpList_load_row rfl 34 (.tmp 2) rfl w.heap.size rfl 34 #[.string nm', .slice A' n' c', .int .i64 key', .slice U' m' cu', .slice R' p' cr', .string op', .int .i64 k', .int .i64 i', .string vs', .string s', .slice B' q' d', .slice Ar' nr' ca'] (0, 0) _ H2.out.2.2.2.2.1 Tryz.underlying34 rfl relSize ?_)
    | (refine wpList_load_row rfl 29 (.tmp 3) rfl (w.heap.size + 1) rfl 29 #[.string oe, .int .i64 ke, .int .i64 ie, .string ve, .string se, .slice Be pe qe] (0, 0) _ H2.out.2.2.2.2.2.1 Tryz.underlying29 rfl exSize7 ?_)
    | (go_at_call 14; (with_reducible refine HW1.out.mono ?_); rintro e x2 ⟨A1, n1, c1, rfl, k1, hb2⟩; have HB2 := Lib.hid (And.intro hb2 k1); clear hb2 k1))
  refine wp_gen (fun W => (Below w.heap.size w W ∧ w0.heap.size ≤ W.heap.size ∧ TbS W nm' A' n' c' key' U' m' cu' R' p' cr' op' k' i' vs' s' B' q' d' cols' us' rs' l' (fun b => w0.heap.size ≤ b) 14 ∧ RowsAt W (fun b => b < w0.heap.size) Ar' nr' rows' ∧ W.heap[w.heap.size]? = some (.cells #[.string nm', .slice A' n' c', .int .i64 key', .slice U' m' cu', .slice R' p' cr', .string op', .int .i64 k', .int .i64 i', .string vs', .string s', .slice B' q' d', .slice Ar' nr' ca'] 34 (0, 0)) ∧ W.heap[w.heap.size + 1]? = some (.cells #[.string oe, .int .i64 ke, .int .i64 ie, .string ve, .string se, .slice Be pe qe] 29 (0, 0)) ∧ Tr W (fun b => w0.heap.size ≤ b) 14 (.mk oe ⟨ke, ie, ve⟩ se le) (.slice Be pe qe)) ∧ RowsAt W (fun _ => False) A1 n1 R1) ⟨⟨H2.out.1.trans (HB2.out.1.mono H2.out.1.size), Nat.le_trans H2.out.2.1 HB2.out.1.size, H2.out.2.2.1.below HB2.out.1, H2.out.2.2.2.1.below HB2.out.1, (HB2.out.1.block _ b20).trans H2.out.2.2.2.2.1, (HB2.out.1.block _ b21).trans H2.out.2.2.2.2.2.1, H2.out.2.2.2.2.2.2.below HB2.out.1⟩, HB2.out.2⟩ fun w3 hw3 => ?_
  have H3 := Lib.hid hw3
  have b30 := lt_of_block hw3.1.2.2.2.2.1
  have b31 := lt_of_block hw3.1.2.2.2.2.2.1
  clear hw3 HB2 H2 HW1 b20 b21
  have HA3 : Hid (Below w3.heap.size w3 (w3.alloc (.cells #[.string oe, .int .i64 ke, .int .i64 ie, .string ve, .string se, .slice Be pe qe] 29))) := Lib.hid ((Below.refl _ _).alloc (Nat.le_refl _) _)
  have HH3 : Hid ((Below w.heap.size w (w3.alloc (.cells #[.string oe, .int .i64 ke, .int .i64 ie, .string ve, .string se, .slice Be pe qe] 29)) ∧ w0.heap.size ≤ (w3.alloc (.cells #[.string oe, .int .i64 ke, .int .i64 ie, .string ve, .string se, .slice Be pe qe] 29)).heap.size ∧ TbS (w3.alloc (.cells #[.string oe, .int .i64 ke, .int .i64 ie, .string ve, .string se, .slice Be pe qe] 29)) nm' A' n' c' key' U' m' cu' R' p' cr' op' k' i' vs' s' B' q' d' cols' us' rs' l' (fun b => w0.heap.size ≤ b) 14 ∧ RowsAt (w3.alloc (.cells #[.string oe, .int .i64 ke, .int .i64 ie, .string ve, .string se, .slice Be pe qe] 29)) (fun b => b < w0.heap.size) Ar' nr' rows' ∧ (w3.alloc (.cells #[.string oe, .int .i64 ke, .int .i64 ie, .string ve, .string se, .slice Be pe qe] 29)).heap[w.heap.size]? = some (.cells #[.string nm', .slice A' n' c', .int .i64 key', .slice U' m' cu', .slice R' p' cr', .string op', .int .i64 k', .int .i64 i', .string vs', .string s', .slice B' q' d', .slice Ar' nr' ca'] 34 (0, 0)) ∧ (w3.alloc (.cells #[.string oe, .int .i64 ke, .int .i64 ie, .string ve, .string se, .slice Be pe qe] 29)).heap[w.heap.size + 1]? = some (.cells #[.string oe, .int .i64 ke, .int .i64 ie, .string ve, .string se, .slice Be pe qe] 29 (0, 0)) ∧ Tr (w3.alloc (.cells #[.string oe, .int .i64 ke, .int .i64 ie, .string ve, .string se, .slice Be pe qe] 29)) (fun b => w0.heap.size ≤ b) 14 (.mk oe ⟨ke, ie, ve⟩ se le) (.slice Be pe qe))) := Lib.hid ⟨H3.out.1.1.trans (HA3.out.mono H3.out.1.1.size), Nat.le_trans H3.out.1.2.1 HA3.out.size, H3.out.1.2.2.1.below HA3.out, H3.out.1.2.2.2.1.below HA3.out, (HA3.out.block _ b30).trans H3.out.1.2.2.2.2.1, (HA3.out.block _ b31).trans H3.out.1.2.2.2.2.2.1, H3.out.1.2.2.2.2.2.2.below HA3.out⟩
  have HW3 : Hid (Calls Tryz.prog 14 #[.agg #[.string nm', .slice A' n' c', .int .i64 key', .slice U' m' cu', .slice R' p' cr', .string op', .int .i64 k', .int .i64 i', .string vs', .string s', .slice B' q' d', .slice Ar' nr' ca'], .agg #[.string ⟨#[110, 111, 116]⟩, .int .i64 0, .int .i64 0, .string ⟨#[]⟩, .string ⟨#[]⟩, .slice (some ⟨w3.heap.size, 0, none⟩) 1 1]] (w3.alloc (.cells #[.string oe, .int .i64 ke, .int .i64 ie, .string ve, .string se, .slice Be pe qe] 29)) fun e w' => ∃ A9 n9 c9, e = .returned (.tuple #[.slice A9 n9 c9, .int .i64 z2]) ∧ RowsAt w' (fun _ => False) A9 n9 R2 ∧ Below (w3.alloc (.cells #[.string oe, .int .i64 ke, .int .i64 ie, .string ve, .string se, .slice Be pe qe] 29)).heap.size (w3.alloc (.cells #[.string oe, .int .i64 ke, .int .i64 ie, .string ve, .string se, .slice Be pe qe] 29)) w') := Lib.hid (by
    refine Calls.mono (where_any nm' A' n' c' key' U' m' cu' R' p' cr' op' k' i' vs' s' B' q' d' Ar' nr' ca' cols' rows' _ ⟨#[110, 111, 116]⟩ 0 0 ⟨#[]⟩ ⟨#[]⟩ (some ⟨w3.heap.size, 0, none⟩) 1 1 [(.mk oe ⟨ke, ie, ve⟩ se le)] (fun b => w0.heap.size ≤ b) 15 (w3.alloc (.cells #[.string oe, .int .i64 ke, .int .i64 ie, .string ve, .string se, .slice Be pe qe] 29)) HH3.out.2.2.1.hcols HN.out HH3.out.2.2.2.1 (one_tr (t := (.mk oe ⟨ke, ie, ve⟩ se le)) ⟨#[110, 111, 116]⟩ H3.out.1.2.2.2.2.2.2 H3.out.1.2.1)) ?_
    rintro e w' ⟨A9, n9, c9, he, h1, h2, h3⟩
    rw [show (Ex.mk ⟨#[110, 111, 116]⟩ ⟨0, 0, ⟨#[]⟩⟩ ⟨#[]⟩ [(.mk oe ⟨ke, ie, ve⟩ se le)]) = oneT ⟨#[110, 111, 116]⟩ (.mk oe ⟨ke, ie, ve⟩ se le) from rfl, HQ2.out] at he h2
    exact ⟨A9, n9, c9, he, h2, h3⟩)
  go_upto_region 4 with (first
    | (refine wpList_load_row rfl 34 (.tmp 2) rfl w.heap.size rfl 34 #[.string nm', .slice A' n' c', .int .i64 key', .slice U' m' cu', .slice R' p' cr', .string op', .int .i64 k', .int .i64 i', .string vs', .string s', .slice B' q' d', .slice Ar' nr' ca'] (0, 0) _ H3.out.1.2.2.2.2.1 Tryz.underlying34 rfl relSize ?_)
    | (refine wpList_load_row rfl 29 (.tmp 3) rfl (w.heap.size + 1) rfl 29 #[.string oe, .int .i64 ke, .int .i64 ie, .string ve, .string se, .slice Be pe qe] (0, 0) _ H3.out.1.2.2.2.2.2.1 Tryz.underlying29 rfl exSize7 ?_)
    | (go_at_call 14; (with_reducible refine HW3.out.mono ?_); rintro e x2 ⟨A2, n2, c2, rfl, k1, hb2⟩; have HB3 := Lib.hid (And.intro hb2 k1); clear hb2 k1))
  refine wp_gen (fun W => (Below w.heap.size w W ∧ w0.heap.size ≤ W.heap.size ∧ TbS W nm' A' n' c' key' U' m' cu' R' p' cr' op' k' i' vs' s' B' q' d' cols' us' rs' l' (fun b => w0.heap.size ≤ b) 14 ∧ RowsAt W (fun b => b < w0.heap.size) Ar' nr' rows' ∧ W.heap[w.heap.size]? = some (.cells #[.string nm', .slice A' n' c', .int .i64 key', .slice U' m' cu', .slice R' p' cr', .string op', .int .i64 k', .int .i64 i', .string vs', .string s', .slice B' q' d', .slice Ar' nr' ca'] 34 (0, 0)) ∧ W.heap[w.heap.size + 1]? = some (.cells #[.string oe, .int .i64 ke, .int .i64 ie, .string ve, .string se, .slice Be pe qe] 29 (0, 0)) ∧ Tr W (fun b => w0.heap.size ≤ b) 14 (.mk oe ⟨ke, ie, ve⟩ se le) (.slice Be pe qe)) ∧ RowsAt W (fun _ => False) A1 n1 R1 ∧ RowsAt W (fun _ => False) A2 n2 R2) ⟨⟨HH3.out.1.trans (HB3.out.1.mono HH3.out.1.size), Nat.le_trans HH3.out.2.1 HB3.out.1.size, HH3.out.2.2.1.below HB3.out.1, HH3.out.2.2.2.1.below HB3.out.1, (HB3.out.1.block _ (lt_of_block HH3.out.2.2.2.2.1)).trans HH3.out.2.2.2.2.1, (HB3.out.1.block _ (lt_of_block HH3.out.2.2.2.2.2.1)).trans HH3.out.2.2.2.2.2.1, HH3.out.2.2.2.2.2.2.below HB3.out.1⟩, ((H3.out.2).below HA3.out).below HB3.out.1, HB3.out.2⟩ fun w4 hw4 => ?_
  have H4 := Lib.hid hw4
  have b40 := lt_of_block hw4.1.2.2.2.2.1
  have b41 := lt_of_block hw4.1.2.2.2.2.2.1
  clear hw4 HB3 H3 HW3 HA3 HH3 b30 b31
  have HA4 : Hid (Below w4.heap.size w4 (w4.alloc (.cells #[.string oe, .int .i64 ke, .int .i64 ie, .string ve, .string se, .slice Be pe qe] 29))) := Lib.hid ((Below.refl _ _).alloc (Nat.le_refl _) _)
  have HH4 : Hid ((Below w.heap.size w (w4.alloc (.cells #[.string oe, .int .i64 ke, .int .i64 ie, .string ve, .string se, .slice Be pe qe] 29)) ∧ w0.heap.size ≤ (w4.alloc (.cells #[.string oe, .int .i64 ke, .int .i64 ie, .string ve, .string se, .slice Be pe qe] 29)).heap.size ∧ TbS (w4.alloc (.cells #[.string oe, .int .i64 ke, .int .i64 ie, .string ve, .string se, .slice Be pe qe] 29)) nm' A' n' c' key' U' m' cu' R' p' cr' op' k' i' vs' s' B' q' d' cols' us' rs' l' (fun b => w0.heap.size ≤ b) 14 ∧ RowsAt (w4.alloc (.cells #[.string oe, .int .i64 ke, .int .i64 ie, .string ve, .string se, .slice Be pe qe] 29)) (fun b => b < w0.heap.size) Ar' nr' rows' ∧ (w4.alloc (.cells #[.string oe, .int .i64 ke, .int .i64 ie, .string ve, .string se, .slice Be pe qe] 29)).heap[w.heap.size]? = some (.cells #[.string nm', .slice A' n' c', .int .i64 key', .slice U' m' cu', .slice R' p' cr', .string op', .int .i64 k', .int .i64 i', .string vs', .string s', .slice B' q' d', .slice Ar' nr' ca'] 34 (0, 0)) ∧ (w4.alloc (.cells #[.string oe, .int .i64 ke, .int .i64 ie, .string ve, .string se, .slice Be pe qe] 29)).heap[w.heap.size + 1]? = some (.cells #[.string oe, .int .i64 ke, .int .i64 ie, .string ve, .string se, .slice Be pe qe] 29 (0, 0)) ∧ Tr (w4.alloc (.cells #[.string oe, .int .i64 ke, .int .i64 ie, .string ve, .string se, .slice Be pe qe] 29)) (fun b => w0.heap.size ≤ b) 14 (.mk oe ⟨ke, ie, ve⟩ se le) (.slice Be pe qe))) := Lib.hid ⟨H4.out.1.1.trans (HA4.out.mono H4.out.1.1.size), Nat.le_trans H4.out.1.2.1 HA4.out.size, H4.out.1.2.2.1.below HA4.out, H4.out.1.2.2.2.1.below HA4.out, (HA4.out.block _ b40).trans H4.out.1.2.2.2.2.1, (HA4.out.block _ b41).trans H4.out.1.2.2.2.2.2.1, H4.out.1.2.2.2.2.2.2.below HA4.out⟩
  have HW4 : Hid (Calls Tryz.prog 14 #[.agg #[.string nm', .slice A' n' c', .int .i64 key', .slice U' m' cu', .slice R' p' cr', .string op', .int .i64 k', .int .i64 i', .string vs', .string s', .slice B' q' d', .slice Ar' nr' ca'], .agg #[.string ⟨#[110, 117, 108, 108]⟩, .int .i64 0, .int .i64 0, .string ⟨#[]⟩, .string ⟨#[]⟩, .slice (some ⟨w4.heap.size, 0, none⟩) 1 1]] (w4.alloc (.cells #[.string oe, .int .i64 ke, .int .i64 ie, .string ve, .string se, .slice Be pe qe] 29)) fun e w' => ∃ A9 n9 c9, e = .returned (.tuple #[.slice A9 n9 c9, .int .i64 z3]) ∧ RowsAt w' (fun _ => False) A9 n9 R3 ∧ Below (w4.alloc (.cells #[.string oe, .int .i64 ke, .int .i64 ie, .string ve, .string se, .slice Be pe qe] 29)).heap.size (w4.alloc (.cells #[.string oe, .int .i64 ke, .int .i64 ie, .string ve, .string se, .slice Be pe qe] 29)) w') := Lib.hid (by
    refine Calls.mono (where_any nm' A' n' c' key' U' m' cu' R' p' cr' op' k' i' vs' s' B' q' d' Ar' nr' ca' cols' rows' _ ⟨#[110, 117, 108, 108]⟩ 0 0 ⟨#[]⟩ ⟨#[]⟩ (some ⟨w4.heap.size, 0, none⟩) 1 1 [(.mk oe ⟨ke, ie, ve⟩ se le)] (fun b => w0.heap.size ≤ b) 15 (w4.alloc (.cells #[.string oe, .int .i64 ke, .int .i64 ie, .string ve, .string se, .slice Be pe qe] 29)) HH4.out.2.2.1.hcols HN.out HH4.out.2.2.2.1 (one_tr (t := (.mk oe ⟨ke, ie, ve⟩ se le)) ⟨#[110, 117, 108, 108]⟩ H4.out.1.2.2.2.2.2.2 H4.out.1.2.1)) ?_
    rintro e w' ⟨A9, n9, c9, he, h1, h2, h3⟩
    rw [show (Ex.mk ⟨#[110, 117, 108, 108]⟩ ⟨0, 0, ⟨#[]⟩⟩ ⟨#[]⟩ [(.mk oe ⟨ke, ie, ve⟩ se le)]) = oneT ⟨#[110, 117, 108, 108]⟩ (.mk oe ⟨ke, ie, ve⟩ se le) from rfl, HQ3.out] at he h2
    exact ⟨A9, n9, c9, he, h2, h3⟩)
  go_upto_region 5 with (first
    | (refine wpList_load_row rfl 34 (.tmp 2) rfl w.heap.size rfl 34 #[.string nm', .slice A' n' c', .int .i64 key', .slice U' m' cu', .slice R' p' cr', .string op', .int .i64 k', .int .i64 i', .string vs', .string s', .slice B' q' d', .slice Ar' nr' ca'] (0, 0) _ H4.out.1.2.2.2.2.1 Tryz.underlying34 rfl relSize ?_)
    | (refine wpList_load_row rfl 29 (.tmp 3) rfl (w.heap.size + 1) rfl 29 #[.string oe, .int .i64 ke, .int .i64 ie, .string ve, .string se, .slice Be pe qe] (0, 0) _ H4.out.1.2.2.2.2.2.1 Tryz.underlying29 rfl exSize7 ?_)
    | (go_at_call 14; (with_reducible refine HW4.out.mono ?_); rintro e x2 ⟨A3, n3, c3, rfl, k1, hb2⟩; have HB4 := Lib.hid (And.intro hb2 k1); clear hb2 k1))
  refine wp_gen (fun W => (Below w.heap.size w W ∧ w0.heap.size ≤ W.heap.size ∧ TbS W nm' A' n' c' key' U' m' cu' R' p' cr' op' k' i' vs' s' B' q' d' cols' us' rs' l' (fun b => w0.heap.size ≤ b) 14 ∧ RowsAt W (fun b => b < w0.heap.size) Ar' nr' rows' ∧ W.heap[w.heap.size]? = some (.cells #[.string nm', .slice A' n' c', .int .i64 key', .slice U' m' cu', .slice R' p' cr', .string op', .int .i64 k', .int .i64 i', .string vs', .string s', .slice B' q' d', .slice Ar' nr' ca'] 34 (0, 0)) ∧ W.heap[w.heap.size + 1]? = some (.cells #[.string oe, .int .i64 ke, .int .i64 ie, .string ve, .string se, .slice Be pe qe] 29 (0, 0)) ∧ Tr W (fun b => w0.heap.size ≤ b) 14 (.mk oe ⟨ke, ie, ve⟩ se le) (.slice Be pe qe)) ∧ RowsAt W (fun _ => False) A1 n1 R1 ∧ RowsAt W (fun _ => False) A2 n2 R2 ∧ RowsAt W (fun _ => False) A3 n3 R3) ⟨⟨HH4.out.1.trans (HB4.out.1.mono HH4.out.1.size), Nat.le_trans HH4.out.2.1 HB4.out.1.size, HH4.out.2.2.1.below HB4.out.1, HH4.out.2.2.2.1.below HB4.out.1, (HB4.out.1.block _ (lt_of_block HH4.out.2.2.2.2.1)).trans HH4.out.2.2.2.2.1, (HB4.out.1.block _ (lt_of_block HH4.out.2.2.2.2.2.1)).trans HH4.out.2.2.2.2.2.1, HH4.out.2.2.2.2.2.2.below HB4.out.1⟩, ((H4.out.2.1).below HA4.out).below HB4.out.1, ((H4.out.2.2).below HA4.out).below HB4.out.1, HB4.out.2⟩ fun w5 hw5 => ?_
  have H5 := Lib.hid hw5
  have b50 := lt_of_block hw5.1.2.2.2.2.1
  have b51 := lt_of_block hw5.1.2.2.2.2.2.1
  clear hw5 HB4 H4 HW4 HA4 HH4 b40 b41
  have g0 := Lib.cell_of_heap H5.out.1.2.2.2.2.1 0
  have g1 := Lib.cell_of_heap H5.out.1.2.2.2.2.1 1
  have g2 := Lib.cell_of_heap H5.out.1.2.2.2.2.1 2
  have g3 := Lib.cell_of_heap H5.out.1.2.2.2.2.1 3
  have g4 := Lib.cell_of_heap H5.out.1.2.2.2.2.1 4
  have g5 := Lib.cell_of_heap H5.out.1.2.2.2.2.1 5
  have g6 := Lib.cell_of_heap H5.out.1.2.2.2.2.1 6
  have g7 := Lib.cell_of_heap H5.out.1.2.2.2.2.1 7
  have g8 := Lib.cell_of_heap H5.out.1.2.2.2.2.1 8
  have g9 := Lib.cell_of_heap H5.out.1.2.2.2.2.1 9
  have g10 := Lib.cell_of_heap H5.out.1.2.2.2.2.1 10
  have g11 := Lib.cell_of_heap H5.out.1.2.2.2.2.1 11
  simp only [List.getElem?_toArray, List.getElem?_cons_zero, List.getElem?_cons_succ] at g0 g1 g2 g3 g4 g5 g6 g7 g8 g9 g10 g11
  have h0 := Lib.cell_of_heap H5.out.1.2.2.2.2.2.1 0
  have h1 := Lib.cell_of_heap H5.out.1.2.2.2.2.2.1 1
  have h2 := Lib.cell_of_heap H5.out.1.2.2.2.2.2.1 2
  have h3 := Lib.cell_of_heap H5.out.1.2.2.2.2.2.1 3
  have h4 := Lib.cell_of_heap H5.out.1.2.2.2.2.2.1 4
  have h5 := Lib.cell_of_heap H5.out.1.2.2.2.2.2.1 5
  simp only [List.getElem?_toArray, List.getElem?_cons_zero, List.getElem?_cons_succ] at h0 h1 h2 h3 h4 h5
  have HAW := Lib.hid awake7_any
  have HCK : Hid (Calls Tryz.prog 18 #[.agg #[.string nm', .slice A' n' c', .int .i64 key', .slice U' m' cu', .slice R' p' cr', .string op', .int .i64 k', .int .i64 i', .string vs', .string s', .slice B' q' d', .slice Ar' nr' ca']] w5 fun e w' => RetIP e (∀ r ∈ rows', FitF n' cols' key' us' (.mk op' ⟨k', i', vs'⟩ s' l') r) ∧ Below w5.heap.size w5 w') := Lib.hid (rcheck7_any nm' A' n' c' key' U' m' cu' R' p' cr' op' k' i' vs' s' B' q' d' Ar' nr' ca' cols' us' rs' l' _ 14 rows' _ w5 H5.out.1.2.2.1 HOKC.out H5.out.1.2.2.2.1 HOKR.out)
  by_cases hop : oe.toList = []
  · go_wp2_with (go_at_call 17; (with_reducible refine (HAW.out _).mono ?_); rintro e w6 ⟨rfl, hb6⟩; have HB6 := Lib.hid (H5.out.1.1.trans (hb6.mono H5.out.1.1.size)); clear hb6)
    go_ret
    exact ⟨rfl, HB6.out⟩
  have hop2 : (oe.toList == []) = false := by simpa using hop
  have HOP := Lib.hid hop
  obtain ⟨y1, hy1⟩ : ∃ b, (z1 != 0) = b := ⟨_, rfl⟩
  obtain ⟨y2, hy2⟩ : ∃ b, (z2 != 0) = b := ⟨_, rfl⟩
  obtain ⟨y3, hy3⟩ : ∃ b, (z3 != 0) = b := ⟨_, rfl⟩
  cases y1
  rotate_left
  · go_wp2_with (go_at_call 17; (with_reducible refine (HAW.out _).mono ?_); rintro e w6 ⟨rfl, hb6⟩; have HB6 := Lib.hid (H5.out.1.1.trans (hb6.mono H5.out.1.1.size)); clear hb6)
    go_ret
    exact ⟨rfl, HB6.out⟩
  cases y2
  rotate_left
  · go_wp2_with (go_at_call 17; (with_reducible refine (HAW.out _).mono ?_); rintro e w6 ⟨rfl, hb6⟩; have HB6 := Lib.hid (H5.out.1.1.trans (hb6.mono H5.out.1.1.size)); clear hb6)
    go_ret
    exact ⟨rfl, HB6.out⟩
  cases y3
  rotate_left
  · go_wp2_with (go_at_call 17; (with_reducible refine (HAW.out _).mono ?_); rintro e w6 ⟨rfl, hb6⟩; have HB6 := Lib.hid (H5.out.1.1.trans (hb6.mono H5.out.1.1.size)); clear hb6)
    go_ret
    exact ⟨rfl, HB6.out⟩
  have HZ := Lib.hid (And.intro hy1 (And.intro hy2 hy3))
  go_upto_region 7 with (first
    | (go_at_call 18; (with_reducible refine HCK.out.mono ?_); rintro e w6 ⟨⟨zc, rfl, hzc⟩, hb6⟩; have HB6 := Lib.hid (And.intro hb6 hzc); clear hb6 hzc; obtain ⟨yc, hyc⟩ : ∃ b, (zc != 0) = b := ⟨_, rfl⟩; cases yc)
    | (go_at_call 17; (with_reducible refine (HAW.out _).mono ?_); rintro e w7 ⟨rfl, hb7⟩; have HB7 := Lib.hid (H5.out.1.1.trans ((HB6.out.1.trans (hb7.mono HB6.out.1.size)).mono H5.out.1.1.size)); clear hb7))
  rotate_left
  · go_wp2_with (go_at_call 17; (with_reducible refine (HAW.out _).mono ?_); rintro e w7 ⟨rfl, hb7⟩; have HB7 := Lib.hid (H5.out.1.1.trans ((HB6.out.1.trans (hb7.mono HB6.out.1.size)).mono H5.out.1.1.size)); clear hb7)
    go_ret
    exact ⟨rfl, HB7.out⟩
  have HP : Hid (n1 + n2 + n3 = nr' ∧ ∀ r ∈ R1, r ∈ rows') := Lib.hid (by
    have h := parts_rows (t := (.mk oe ⟨ke, ie, ve⟩ se le)) (rows := rows') H5.out.1.2.2.1.hcols.1 (HB6.out.2 (by simpa using hyc)) HOP.out (by rw [HQ1.out]; simpa using HZ.out.1) (by rw [HQ2.out]; simpa using HZ.out.2.1) (by rw [HQ3.out]; simpa using HZ.out.2.2)
    rw [HQ1.out, HQ2.out, HQ3.out] at h
    have e1 := H5.out.2.1.1
    have e2 := H5.out.2.2.1.1
    have e3 := H5.out.2.2.2.1
    have e4 := H5.out.1.2.2.2.1.1
    dsimp only at h
    exact ⟨by omega, h.2⟩)
  have hN1 := H5.out.2.1.2.1
  have hN2 := H5.out.2.2.1.2.1
  have hN3 := H5.out.2.2.2.2.1
  have hNr := H5.out.1.2.2.2.1.2.1
  refine wp_gen (fun W => (Below w.heap.size w W ∧ RowsAt W (fun b => b < w0.heap.size) Ar' nr' rows' ∧ RowsAt W (fun _ => False) A1 n1 R1 ∧ W.heap[w.heap.size]? = some (.cells #[.string nm', .slice A' n' c', .int .i64 key', .slice U' m' cu', .slice R' p' cr', .string op', .int .i64 k', .int .i64 i', .string vs', .string s', .slice B' q' d', .slice Ar' nr' ca'] 34 (0, 0)))) ⟨H5.out.1.1.trans (HB6.out.1.mono H5.out.1.1.size), H5.out.1.2.2.2.1.below HB6.out.1, H5.out.2.1.below HB6.out.1, (HB6.out.1.block _ b50).trans H5.out.1.2.2.2.2.1⟩ fun w8 hw8 => ?_
  have H8 := Lib.hid hw8
  clear hw8 HB6 H5 b50 b51 HCK g0 g1 g2 g3 g4 g5 g6 g7 g8 g9 g10 g11 h0 h1 h2 h3 h4 h5 hy1 hy2 hy3 hyc hop hop2
  have g0 := Lib.cell_of_heap H8.out.2.2.2 0
  have g1 := Lib.cell_of_heap H8.out.2.2.2 1
  have g2 := Lib.cell_of_heap H8.out.2.2.2 2
  have g3 := Lib.cell_of_heap H8.out.2.2.2 3
  have g4 := Lib.cell_of_heap H8.out.2.2.2 4
  have g5 := Lib.cell_of_heap H8.out.2.2.2 5
  have g6 := Lib.cell_of_heap H8.out.2.2.2 6
  have g7 := Lib.cell_of_heap H8.out.2.2.2 7
  have g8 := Lib.cell_of_heap H8.out.2.2.2 8
  have g9 := Lib.cell_of_heap H8.out.2.2.2 9
  have g10 := Lib.cell_of_heap H8.out.2.2.2 10
  have g11 := Lib.cell_of_heap H8.out.2.2.2 11
  simp only [List.getElem?_toArray, List.getElem?_cons_zero, List.getElem?_cons_succ] at g0 g1 g2 g3 g4 g5 g6 g7 g8 g9 g10 g11
  have hz8 := lt_of_block H8.out.2.2.2
  have hs12 : IntKind.i64.wrap ((n1 : Int) + n2) = (n1 : Int) + n2 := by rw [IntKind.wrap_i64]; omega
  have hs123 : IntKind.i64.wrap ((n1 : Int) + n2 + n3) = (n1 : Int) + n2 + n3 := by rw [IntKind.wrap_i64]; omega
  have hsne : ((n1 : Int) + n2 + n3 != nr') = false := by have := HP.out.1; simp; omega
  go_wp2_with (fail)
  go_loopw [11] (fun iv wr => ∃ j : Nat, iv = .int .i64 j ∧ j ≤ n1 ∧ Hid ((Below w.heap.size w wr ∧ RowsAt wr (fun b => b < w0.heap.size) Ar' nr' rows' ∧ RowsAt wr (fun _ => False) A1 n1 R1 ∧ wr.heap[w.heap.size]? = some (.cells #[.string nm', .slice A' n' c', .int .i64 key', .slice U' m' cu', .slice R' p' cr', .string op', .int .i64 k', .int .i64 i', .string vs', .string s', .slice B' q' d', .slice Ar' nr' ca'] 34 (0, 0))))) (fun iv _ => n1 - (intOf iv).toNat)
  case atStart => exact ⟨0, rfl, by omega, H8⟩
  case round =>
    obtain ⟨j, rfl, hj, HS⟩ := hrel
    clear g0 g1 g2 g3 g4 g5 g6 g7 g8 g9 g10 g11 hz8
    by_cases hlt : j < n1
    · have HJR : Hid (∃ h : j < R1.length, R1[j] ∈ rows') := Lib.hid (by
        have h1 : j < R1.length := by have := HS.out.2.2.1.1; omega
        exact ⟨h1, HP.out.2 _ (List.getElem_mem h1)⟩)
      obtain ⟨hjl, hjm⟩ := HJR.out
      have HMEM := Lib.hid (List.getElem_of_mem hjm)
      clear hjm HJR
      obtain ⟨a, e⟩ : ∃ a, Ar' = some a := by
        obtain ⟨q, hq, _⟩ := HMEM.out
        obtain ⟨a, _, _, _, e, _⟩ := HS.out.2.1.2.2 0 (by omega)
        exact ⟨a, e⟩
      subst e
      obtain ⟨aA, e⟩ : ∃ a, A1 = some a := by
        obtain ⟨a, _, _, _, e, _⟩ := HS.out.2.2.1.2.2 j hjl
        exact ⟨a, e⟩
      subst e
      obtain ⟨rA, HRA⟩ : ∃ r, Hid (R1[j] = r) := ⟨_, Lib.hid rfl⟩
      have HMA : Hid (∃ t, ∃ h : t < rows'.length, rows'[t] = rA) := Lib.hid (by rw [← HRA.out]; exact HMEM.out)
      clear HMEM
      have hbx := HS.out.2.2.2
      have g0 := Lib.cell_of_heap hbx 0
      have g1 := Lib.cell_of_heap hbx 1
      have g2 := Lib.cell_of_heap hbx 2
      have g3 := Lib.cell_of_heap hbx 3
      have g4 := Lib.cell_of_heap hbx 4
      have g5 := Lib.cell_of_heap hbx 5
      have g6 := Lib.cell_of_heap hbx 6
      have g7 := Lib.cell_of_heap hbx 7
      have g8 := Lib.cell_of_heap hbx 8
      have g9 := Lib.cell_of_heap hbx 9
      have g10 := Lib.cell_of_heap hbx 10
      have g11 := Lib.cell_of_heap hbx 11
      simp only [List.getElem?_toArray, List.getElem?_cons_zero, List.getElem?_cons_succ] at g0 g1 g2 g3 g4 g5 g6 g7 g8 g9 g10 g11
      have hz8 := lt_of_block hbx
      clear hbx
      go_wp2_with (fail)
      go_loopw [12, 13] (fun fv kv wz => ∃ (fb : Bool) (q : Nat), fv = .bool fb ∧ kv = .int .i64 q ∧ q ≤ nr' ∧ Hid ((Below w.heap.size w wz ∧ RowsAt wz (fun b => b < w0.heap.size) (some a) nr' rows' ∧ RowsAt wz (fun _ => False) (some aA) n1 R1 ∧ wz.heap[w.heap.size]? = some (.cells #[.string nm', .slice A' n' c', .int .i64 key', .slice U' m' cu', .slice R' p' cr', .string op', .int .i64 k', .int .i64 i', .string vs', .string s', .slice B' q' d', .slice (some a) nr' ca'] 34 (0, 0)))) ∧ Hid (∀ t (h : t < rows'.length), t < q → rows'[t] = rA → fb = true)) (fun _ kv _ => nr' - (intOf kv).toNat)
      case atStart => exact ⟨false, 0, rfl, rfl, by omega, HS, Lib.hid fun t _ h => absurd h (by omega)⟩
      case round =>
        rename World => wz
        obtain ⟨fb, q, rfl, rfl, hq, HT, HF⟩ := hrel
        clear g0 g1 g2 g3 g4 g5 g6 g7 g8 g9 g10 g11 hz8
        have hbz := HT.out.2.2.2
        have g0 := Lib.cell_of_heap hbz 0
        have g1 := Lib.cell_of_heap hbz 1
        have g2 := Lib.cell_of_heap hbz 2
        have g3 := Lib.cell_of_heap hbz 3
        have g4 := Lib.cell_of_heap hbz 4
        have g5 := Lib.cell_of_heap hbz 5
        have g6 := Lib.cell_of_heap hbz 6
        have g7 := Lib.cell_of_heap hbz 7
        have g8 := Lib.cell_of_heap hbz 8
        have g9 := Lib.cell_of_heap hbz 9
        have g10 := Lib.cell_of_heap hbz 10
        have g11 := Lib.cell_of_heap hbz 11
        simp only [List.getElem?_toArray, List.getElem?_cons_zero, List.getElem?_cons_succ] at g0 g1 g2 g3 g4 g5 g6 g7 g8 g9 g10 g11
        have hz8 := lt_of_block hbz
        clear hbz
        by_cases hlt2 : q < nr'
        · have hql : q < rows'.length := by have := HT.out.2.1.1; omega
          obtain ⟨a', D2, m2, cd2, e, hc2, k1, k2, k3, _⟩ := HT.out.2.1.2.2 q hql
          injection e with e
          subst e
          obtain ⟨a', DA, mA, cA, e, hcA, l1, l2, l3, _⟩ := HT.out.2.2.1.2.2 j hjl
          injection e with e
          subst e
          rw [HRA.out] at l3
          have hl2 := World.block_lt_of_cell? _ _ hc2
          have hlA := World.block_lt_of_cell? _ _ hcA
          obtain ⟨rq, HRQ⟩ : ∃ r, Hid (rows'[q] = r) := ⟨_, Lib.hid rfl⟩
          rw [HRQ.out] at k3
          have HNX : Hid (∀ b : Bool, (rq = rA → b = true) → (fb = true → b = true) → ∀ t (h : t < rows'.length), t < q + 1 → rows'[t] = rA → b = true) := Lib.hid fun b hb hfb t ht hlt he => by
            by_cases e : t = q
            · subst e
              exact hb (HRQ.out.symm.trans he)
            · exact hfb (HF.out t ht (by omega) he)
          cases fb
          · go_upto_region 16 with (fail)
            refine detL_begin [.val (.bool false), .val (.bool false), .val (.slice (some aA) n1 c1), .val (.int .i64 j), .val (.pointer (some (aA.add j))), .val (.slice DA mA cA), .rel (nsX rA), .val (.pointer (some ⟨w.heap.size, 11, none⟩)), .val (.slice (some a) nr' ca'), .val (.int .i64 q), .val (.pointer (some (a.add q))), .val (.slice D2 m2 cd2), .rel (nsX rq), .rel (boolQ (rq = rA)), .rel (boolQ (rq = rA)), .rel (boolQ (rq = rA))] 16 (by kernel_rfl) ?_
            refine detL_val (by kernel_rfl) (yields_of rfl fun w5 hb5 => ?_) ?_
            · have HBx := Lib.hid hb5
              clear hb5
              go_simp
              exact Det1_same
            simp only [Act.put, List.setIfInBounds_toArray, List.set_cons_zero, List.set_cons_succ]
            refine detL_val (by kernel_rfl) (yields_of rfl fun w5 hb5 => ?_) ?_
            · have HBx := Lib.hid hb5
              clear hb5
              go_simp
              exact Det1_same
            simp only [Act.put, List.setIfInBounds_toArray, List.set_cons_zero, List.set_cons_succ]
            refine detL_val (by kernel_rfl) (yields_of rfl fun w5 hb5 => ?_) ?_
            · have HBx := Lib.hid hb5
              clear hb5
              go_simp
              exact Det1_same
            simp only [Act.put, List.setIfInBounds_toArray, List.set_cons_zero, List.set_cons_succ]
            refine detL_val (by kernel_rfl) (yields_of rfl fun w5 hb5 => ?_) ?_
            · have HBx := Lib.hid hb5
              clear hb5
              go_simp
              exact Det1_same
            simp only [Act.put, List.setIfInBounds_toArray, List.set_cons_zero, List.set_cons_succ]
            refine detL_val (by kernel_rfl) (yields_of rfl fun w5 hb5 => ?_) ?_
            · have HBx := Lib.hid hb5
              clear hb5
              go_simp
              exact Det1_same
            simp only [Act.put, List.setIfInBounds_toArray, List.set_cons_zero, List.set_cons_succ]
            refine detL_val (by kernel_rfl) (yields_of rfl fun w5 hb5 => ?_) ?_
            · have HBx := Lib.hid hb5
              have m0 := (hb5.cell (p := aA.add j) hlA).trans hcA
              clear hb5
              go_simp
              exact Det1_same
            simp only [Act.put, List.setIfInBounds_toArray, List.set_cons_zero, List.set_cons_succ]
            refine detL_rel (by kernel_rfl) (yields_rel (by rfl) nsX_lasting fun w5 hw5 => ?_) ?_
            · have hb5 := hw5.below
              have HBx := Lib.hid hb5
              clear hb5 hw5
              go_simp
              exact nsX_made l1 l2 (l3.below ((Below.refl _ _).drew.trans HBx.out))
            rintro v G9 w5 hw5
            have qq : nsX rA v G9 w5 := (hw5.ents _ List.mem_cons_self).1
            clear hw5
            unfold nsX at qq
            obtain ⟨bA, _, _, _, rfl, rfl, -⟩ := qq
            simp only [Act.put, List.setIfInBounds_toArray, List.set_cons_zero, List.set_cons_succ]
            refine detL_val (by kernel_rfl) (yields_of rfl fun w5 hb5 => ?_) ?_
            · have HBx := Lib.hid hb5
              clear hb5
              go_simp
              exact Det1_same
            simp only [Act.put, List.setIfInBounds_toArray, List.set_cons_zero, List.set_cons_succ]
            refine detL_val (by kernel_rfl) (yields_of rfl fun w5 hb5 => ?_) ?_
            · have HBx := Lib.hid hb5
              have m0 := (hb5.cell (p := ⟨w.heap.size, 11, none⟩) hz8).trans g11
              clear hb5
              go_simp
              exact Det1_same
            simp only [Act.put, List.setIfInBounds_toArray, List.set_cons_zero, List.set_cons_succ]
            refine detL_val (by kernel_rfl) (yields_of rfl fun w5 hb5 => ?_) ?_
            · have HBx := Lib.hid hb5
              clear hb5
              go_simp
              exact Det1_same
            simp only [Act.put, List.setIfInBounds_toArray, List.set_cons_zero, List.set_cons_succ]
            refine detL_val (by kernel_rfl) (yields_of rfl fun w5 hb5 => ?_) ?_
            · have HBx := Lib.hid hb5
              clear hb5
              go_simp
              exact Det1_same
            simp only [Act.put, List.setIfInBounds_toArray, List.set_cons_zero, List.set_cons_succ]
            refine detL_val (by kernel_rfl) (yields_of rfl fun w5 hb5 => ?_) ?_
            · have HBx := Lib.hid hb5
              have m0 := (hb5.cell (p := a.add q) hl2).trans hc2
              clear hb5
              go_simp
              exact Det1_same
            simp only [Act.put, List.setIfInBounds_toArray, List.set_cons_zero, List.set_cons_succ]
            refine detL_rel (by kernel_rfl) (yields_rel (by rfl) nsX_lasting fun w5 hw5 => ?_) ?_
            · have hb5 := hw5.below
              have HBx := Lib.hid hb5
              clear hb5 hw5
              go_simp
              exact nsX_made k1 k2 (k3.below ((Below.refl _ _).drew.trans HBx.out))
            rintro v G9 w5 hw5
            have qq : nsX rq v G9 w5 := (hw5.ents _ List.mem_cons_self).1
            clear hw5
            unfold nsX at qq
            obtain ⟨bq, _, _, _, rfl, rfl, -⟩ := qq
            simp only [Act.put, List.setIfInBounds_toArray, List.set_cons_zero, List.set_cons_succ]
            refine detL_rel (by kernel_rfl) (yields_rel (by rfl) boolQ_lasting fun w5 hw5 => ?_) ?_
            · have hb5 := hw5.below
              have HBx := Lib.hid hb5
              have q6 : nsX rA (.slice (some ⟨bA, 0, none⟩) 1 1) [bA] w5 := (hw5.ents _ (List.mem_filter.2 ⟨List.mem_cons_of_mem _ List.mem_cons_self, (by first | kernel_rfl | simp [depB, Region.binds] | decide)⟩)).1; have q12 : nsX rq (.slice (some ⟨bq, 0, none⟩) 1 1) [bq] w5 := (hw5.ents _ (List.mem_filter.2 ⟨List.mem_cons_self, (by first | kernel_rfl | simp [depB, Region.binds] | decide)⟩)).1
              clear hb5 hw5
              go_simp
              exact boolQ_same q6.rows q12.rows
            rintro v G9 w5 hw5
            have qq : boolQ (rq = rA) v G9 w5 := (hw5.ents _ List.mem_cons_self).1
            clear hw5
            unfold boolQ at qq
            obtain ⟨rfl, zz1, rfl, hh1⟩ := qq
            simp only [Act.put, List.setIfInBounds_toArray, List.set_cons_zero, List.set_cons_succ]
            refine detL_rel (by kernel_rfl) (yields_rel (by rfl) boolQ_lasting fun w5 hw5 => ?_) ?_
            · have hb5 := hw5.below
              have HBx := Lib.hid hb5
              clear hb5 hw5
              go_simp
              exact boolQ_is hh1
            rintro v G9 w5 hw5
            have qq : boolQ (rq = rA) v G9 w5 := (hw5.ents _ List.mem_cons_self).1
            clear hw5
            unfold boolQ at qq
            obtain ⟨rfl, zz2, rfl, hh2⟩ := qq
            simp only [Act.put, List.setIfInBounds_toArray, List.set_cons_zero, List.set_cons_succ]
            refine detL_rel (by kernel_rfl) (yields_rel (by rfl) boolQ_lasting fun w5 hw5 => ?_) ?_
            · have hb5 := hw5.below
              have HBx := Lib.hid hb5
              clear hb5 hw5
              go_simp
              exact boolQ_is hh2
            rintro v G9 w5 hw5
            have qq : boolQ (rq = rA) v G9 w5 := (hw5.ents _ List.mem_cons_self).1
            clear hw5
            unfold boolQ at qq
            obtain ⟨rfl, zz3, rfl, hh3⟩ := qq
            simp only [Act.put, List.setIfInBounds_toArray, List.set_cons_zero, List.set_cons_succ]
            refine detL_done (by kernel_rfl) fun w6 hw6 => ?_
            have hb6 : Below wz.heap.size wz w6 := (Below.refl _ _).drew.trans hw6.below
            have H6 := Lib.hid (show (Below w.heap.size w w6 ∧ RowsAt w6 (fun b => b < w0.heap.size) (some a) nr' rows' ∧ RowsAt w6 (fun _ => False) (some aA) n1 R1 ∧ w6.heap[w.heap.size]? = some (.cells #[.string nm', .slice A' n' c', .int .i64 key', .slice U' m' cu', .slice R' p' cr', .string op', .int .i64 k', .int .i64 i', .string vs', .string s', .slice B' q' d', .slice (some a) nr' ca'] 34 (0, 0))) from ⟨HT.out.1.trans (hb6.mono HT.out.1.size), HT.out.2.1.below hb6, HT.out.2.2.1.below hb6, (hb6.block _ hz8).trans HT.out.2.2.2⟩)
            have HNY := Lib.hid (HNX.out zz3 hh3 (fun h => by cases h))
            clear hw6 hb6 hh1 hh2 hh3
            go_wp2_with (fail)
            go_roundw
            case rel => exact ⟨zz3, q + 1, rfl, by go_num, by omega, H6, HNY⟩
            case measure => simp [intOf]; omega
          · go_upto_region 16 with (fail)
            refine detL_begin [.val (.bool true), .val (.bool true), .val (undef), .val (undef), .val (undef), .val (undef), .val (undef), .val (undef), .val (undef), .val (undef), .val (undef), .val (undef), .val (undef), .val (undef), .val (.bool true), .val (.bool true)] 16 (by kernel_rfl) ?_
            refine detL_val (by kernel_rfl) (yields_of rfl fun w5 hb5 => ?_) ?_
            · have HBx := Lib.hid hb5
              clear hb5
              go_simp
              exact Det1_same
            simp only [Act.put, List.setIfInBounds_toArray, List.set_cons_zero, List.set_cons_succ]
            refine detL_val (by kernel_rfl) (yields_of rfl fun w5 hb5 => ?_) ?_
            · have HBx := Lib.hid hb5
              clear hb5
              go_simp
              exact Det1_same
            simp only [Act.put, List.setIfInBounds_toArray, List.set_cons_zero, List.set_cons_succ]
            refine detL_val (by kernel_rfl) (yields_not rfl) ?_
            simp only [Act.put, List.setIfInBounds_toArray, List.set_cons_zero, List.set_cons_succ]
            refine detL_val (by kernel_rfl) (yields_not rfl) ?_
            simp only [Act.put, List.setIfInBounds_toArray, List.set_cons_zero, List.set_cons_succ]
            refine detL_val (by kernel_rfl) (yields_not rfl) ?_
            simp only [Act.put, List.setIfInBounds_toArray, List.set_cons_zero, List.set_cons_succ]
            refine detL_val (by kernel_rfl) (yields_not rfl) ?_
            simp only [Act.put, List.setIfInBounds_toArray, List.set_cons_zero, List.set_cons_succ]
            refine detL_val (by kernel_rfl) (yields_not rfl) ?_
            simp only [Act.put, List.setIfInBounds_toArray, List.set_cons_zero, List.set_cons_succ]
            refine detL_val (by kernel_rfl) (yields_not rfl) ?_
            simp only [Act.put, List.setIfInBounds_toArray, List.set_cons_zero, List.set_cons_succ]
            refine detL_val (by kernel_rfl) (yields_not rfl) ?_
            simp only [Act.put, List.setIfInBounds_toArray, List.set_cons_zero, List.set_cons_succ]
            refine detL_val (by kernel_rfl) (yields_not rfl) ?_
            simp only [Act.put, List.setIfInBounds_toArray, List.set_cons_zero, List.set_cons_succ]
            refine detL_val (by kernel_rfl) (yields_not rfl) ?_
            simp only [Act.put, List.setIfInBounds_toArray, List.set_cons_zero, List.set_cons_succ]
            refine detL_val (by kernel_rfl) (yields_not rfl) ?_
            simp only [Act.put, List.setIfInBounds_toArray, List.set_cons_zero, List.set_cons_succ]
            refine detL_val (by kernel_rfl) (yields_not rfl) ?_
            simp only [Act.put, List.setIfInBounds_toArray, List.set_cons_zero, List.set_cons_succ]
            refine detL_val (by kernel_rfl) (yields_not rfl) ?_
            simp only [Act.put, List.setIfInBounds_toArray, List.set_cons_zero, List.set_cons_succ]
            refine detL_val (by kernel_rfl) (yields_of rfl fun w5 hb5 => ?_) ?_
            · have HBx := Lib.hid hb5
              clear hb5
              go_simp
              exact Det1_same
            simp only [Act.put, List.setIfInBounds_toArray, List.set_cons_zero, List.set_cons_succ]
            refine detL_val (by kernel_rfl) (yields_of rfl fun w5 hb5 => ?_) ?_
            · have HBx := Lib.hid hb5
              clear hb5
              go_simp
              exact Det1_same
            simp only [Act.put, List.setIfInBounds_toArray, List.set_cons_zero, List.set_cons_succ]
            refine detL_done (by kernel_rfl) fun w6 hw6 => ?_
            have hb6 : Below wz.heap.size wz w6 := (Below.refl _ _).drew.trans hw6.below
            have H6 := Lib.hid (show (Below w.heap.size w w6 ∧ RowsAt w6 (fun b => b < w0.heap.size) (some a) nr' rows' ∧ RowsAt w6 (fun _ => False) (some aA) n1 R1 ∧ w6.heap[w.heap.size]? = some (.cells #[.string nm', .slice A' n' c', .int .i64 key', .slice U' m' cu', .slice R' p' cr', .string op', .int .i64 k', .int .i64 i', .string vs', .string s', .slice B' q' d', .slice (some a) nr' ca'] 34 (0, 0))) from ⟨HT.out.1.trans (hb6.mono HT.out.1.size), HT.out.2.1.below hb6, HT.out.2.2.1.below hb6, (hb6.block _ hz8).trans HT.out.2.2.2⟩)
            have HNY := Lib.hid (HNX.out true (fun _ => rfl) (fun _ => rfl))
            clear hw6 hb6
            go_wp2_with (fail)
            go_roundw
            case rel => exact ⟨true, q + 1, rfl, by go_num, by omega, H6, HNY⟩
            case measure => simp [intOf]; omega
        have hfb : fb = true := by
          obtain ⟨t, ht, he⟩ := HMA.out
          exact HF.out t ht (by have := HT.out.2.1.1; omega) he
        subst hfb
        go_wp2_with (fail)
        go_roundw
        case rel => exact ⟨j + 1, by go_num, by omega, HT⟩
        case measure => simp [intOf]; omega
    go_wp2_with (go_at_call 17; (with_reducible refine (HAW.out _).mono ?_); rintro e w9 ⟨rfl, hb9⟩; have HB9 := Lib.hid (HS.out.1.trans (hb9.mono HS.out.1.size)); clear hb9)
    go_ret
    exact ⟨rfl, HB9.out⟩
end Go.Proofs.YtmhkmliebhbkdaaGreat
