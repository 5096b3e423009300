import Derived.Test.YtmhkmliebhbkdaaGreatX28
import Derived.Test.YtmhkmliebhbkdaaGreatX14
import Derived.Test.YtmhkmliebhbkdaaGreatX18

/- The law RelBoth: its walk. -/
namespace Go.Proofs.YtmhkmliebhbkdaaGreat
open Go.RowKit Go.Lib

set_option maxRecDepth 100000 in
set_option maxHeartbeats 4000000 in
theorem law_both7 (nm : ByteArray) (A : Option Addr) (n c : Nat) (key : Int) (U : Option Addr) (m cu : Nat) (R : Option Addr) (p cr : Nat) (op : ByteArray) (k i : Int) (vs s : ByteArray) (B : Option Addr) (q d : Nat) (Ar : Option Addr) (nr ca : Nat) (cols : List Cl) (us : List Int) (rs : List Rf) (rows : List (List Vl)) (xo : ByteArray) (xk xi : Int) (xv xs : ByteArray) (xB : Option Addr) (xp xq : Nat) (yo : ByteArray) (yk yi : Int) (yv ys : ByteArray) (yB : Option Addr) (yp yq : Nat) (w : World) (ht : TbIn w nm A n c key U m cu R p cr op k i vs s B q d cols us rs) (hr : RowsIn w Ar nr rows) (hin : ∀ r ∈ rows, ∀ x ∈ r, In64 x.i)
    (hxo : xo.size ≤ maxLen) (hxv : xv.size ≤ maxLen) (hxs : xs.size ≤ maxLen) (hxi : In64 xi) (hxu : InL w w.heap.size 14 (.slice xB xp xq)) (hyo : yo.size ≤ maxLen) (hyv : yv.size ≤ maxLen) (hys : ys.size ≤ maxLen) (hyi : In64 yi) (hyu : InL w w.heap.size 14 (.slice yB yp yq)) :
    Calls Tryz.prog 6 #[.agg #[.string nm, .slice A n c, .int .i64 key, .slice U m cu, .slice R p cr, .string op, .int .i64 k, .int .i64 i, .string vs, .string s, .slice B q d, .slice Ar nr ca], .agg #[.string xo, .int .i64 xk, .int .i64 xi, .string xv, .string xs, .slice xB xp xq], .agg #[.string yo, .int .i64 yk, .int .i64 yi, .string yv, .string ys, .slice yB yp yq]] w fun e w' => e = .returned (.bool true) ∧ Below w.heap.size w w' := by
  have HFG : Hid (∀ W, Below w.heap.size w W → Calls Tryz.prog 10 #[.agg #[.string yo, .int .i64 yk, .int .i64 yi, .string yv, .string ys, .slice yB yp yq]] W fun e w' => (∃ t u, e = .returned (EVt t u) ∧ okT t ∧ Tr w' (fun b => W.heap.size ≤ b) 14 t u) ∧ Below W.heap.size W w') := Lib.hid fun W hW => few4_any yo yk yi yv ys _ W hyo hyv hys hyi (InL.more hW.size (InL.keep hW hyu))
  clear hyu
  have HFE : Hid (∀ W, Below w.heap.size w W → Calls Tryz.prog 9 #[.agg #[.string nm, .slice A n c, .int .i64 key, .slice U m cu, .slice R p cr, .string op, .int .i64 k, .int .i64 i, .string vs, .string s, .slice B q d, .slice Ar nr ca]] W fun e w' => (∃ v, e = .returned v ∧ RelR w' W.heap.size v rows) ∧ Below W.heap.size W w') := Lib.hid fun W hW => few7_any nm A n c key U m cu R p cr op k i vs s B q d Ar nr ca cols us rs rows W (ht.at7 hW) (hr.below hW)
  have HF4 : Hid (∀ W, Below w.heap.size w W → Calls Tryz.prog 10 #[.agg #[.string xo, .int .i64 xk, .int .i64 xi, .string xv, .string xs, .slice xB xp xq]] W fun e w' => (∃ t u, e = .returned (EVt t u) ∧ okT t ∧ Tr w' (fun b => W.heap.size ≤ b) 14 t u) ∧ Below W.heap.size W w') := Lib.hid fun W hW => few4_any xo xk xi xv xs _ W hxo hxv hxs hxi (InL.more hW.size (InL.keep hW hxu))
  have HIN := Lib.hid hin
  clear ht hr hxu hin
  go_enter Tryz.func6, Tryz.ntmps6
  go_upto_region 1 with (fail)
  refine wp_gen (fun W => Below w.heap.size w W ∧ w.heap.size + 1 + 1 < W.heap.size ∧ W.heap[w.heap.size]? = some (.cells #[.string nm, .slice A n c, .int .i64 key, .slice U m cu, .slice R p cr, .string op, .int .i64 k, .int .i64 i, .string vs, .string s, .slice B q d, .slice Ar nr ca] 34 (0, 0)) ∧ W.heap[w.heap.size + 1]? = some (.cells #[.string xo, .int .i64 xk, .int .i64 xi, .string xv, .string xs, .slice xB xp xq] 29 (0, 0)) ∧ W.heap[w.heap.size + 1 + 1]? = some (.cells #[.string yo, .int .i64 yk, .int .i64 yi, .string yv, .string ys, .slice yB yp yq] 29 (0, 0))) ⟨(((Below.refl _ _).alloc (Nat.le_refl _) _).alloc (by simp) _).alloc (by simp; omega) _, by simp, (Below.heap_alloc _ _ _ (by simp; omega)).trans ((Below.heap_alloc _ _ _ (by simp)).trans (alloc_at rfl _)), (Below.heap_alloc _ _ _ (by simp)).trans (alloc_at (by simp) _), alloc_at (by simp) _⟩ fun w0 hw0 => ?_
  have H0 := Lib.hid hw0
  have hz0 := lt_of_block hw0.2.2.1
  have hz0' := lt_of_block hw0.2.2.2.1
  have hz0'' := hw0.2.1
  clear hw0
  refine detL_begin [.val (.agg #[.string nm, .slice A n c, .int .i64 key, .slice U m cu, .slice R p cr, .string op, .int .i64 k, .int .i64 i, .string vs, .string s, .slice B q d, .slice Ar nr ca]), .rel (relRl w0.heap.size rows), .val (.agg #[.string xo, .int .i64 xk, .int .i64 xi, .string xv, .string xs, .slice xB xp xq]), .rel fewRl, .val (.agg #[.string yo, .int .i64 yk, .int .i64 yi, .string yv, .string ys, .slice yB yp yq]), .rel fewRl] 6 (by kernel_rfl) ?_
  refine detL_val (by kernel_rfl) (yields_of rfl fun w5 hb5 => det1_load_row 34 (.tmp 3) rfl w.heap.size rfl 34 _ (0, 0) _ ((hb5.block w.heap.size hz0).trans H0.out.2.2.1) Tryz.underlying34 rfl relSize) ?_
  simp only [Act.put, List.setIfInBounds_toArray, List.set_cons_zero, List.set_cons_succ]
  refine detL_rel (by kernel_rfl) (yields_rel (by rfl) relRl_lasting fun w5 hw5 => ?_) ?_
  · have hb5 := hw5.below
    have HBx := Lib.hid hb5
    clear hb5 hw5
    go_simp
    exact relRl_enter (HFE.out w5 (H0.out.1.trans (((Below.refl _ _).drew.trans HBx.out).mono H0.out.1.size))) ((Below.refl w0.heap.size w0).drew.trans HBx.out).size
  rintro v G9 w5 hw5
  have qq : relRl w0.heap.size rows v G9 w5 := (hw5.ents _ List.mem_cons_self).1
  clear hw5
  unfold relRl RelR at qq
  obtain ⟨rfl, nm', A', n', c', key', U', m', cu', R', p', cr', op', k', i', vs', s', B', q', d', cols', us', rs', l', Ar', nr', ca', rows', rfl, -⟩ := qq
  simp only [Act.put, List.setIfInBounds_toArray, List.set_cons_zero, List.set_cons_succ]
  refine detL_val (by kernel_rfl) (yields_of rfl fun w5 hb5 => det1_load_row 29 (.tmp 4) rfl (w.heap.size + 1) rfl 29 _ (0, 0) _ ((hb5.block (w.heap.size + 1) hz0').trans H0.out.2.2.2.1) Tryz.underlying29 rfl exSize7) ?_
  simp only [Act.put, List.setIfInBounds_toArray, List.set_cons_zero, List.set_cons_succ]
  refine detL_rel (by kernel_rfl) (yields_rel (by rfl) fewRl_lasting fun w5 hw5 => ?_) ?_
  · have hb5 := hw5.below
    have HBx := Lib.hid hb5
    clear hb5 hw5
    go_simp
    exact fewRl_enter (HF4.out w5 (H0.out.1.trans (((Below.refl _ _).drew.trans HBx.out).mono H0.out.1.size)))
  rintro v G8 w5 hw5
  have qq : fewRl v G8 w5 := (hw5.ents _ List.mem_cons_self).1
  clear hw5
  unfold fewRl at qq
  obtain ⟨⟨oe, ⟨ke, ie, ve⟩, se, _⟩, Be, qe, pe, rfl, -⟩ := qq
  simp only [Act.put, List.setIfInBounds_toArray, List.set_cons_zero, List.set_cons_succ]
  refine detL_val (by kernel_rfl) (yields_of rfl fun w5 hb5 => det1_load_row 29 (.tmp 5) rfl (w.heap.size + 1 + 1) rfl 29 _ (0, 0) _ ((hb5.block (w.heap.size + 1 + 1) hz0'').trans H0.out.2.2.2.2) Tryz.underlying29 rfl exSize7) ?_
  simp only [Act.put, List.setIfInBounds_toArray, List.set_cons_zero, List.set_cons_succ]
  refine detL_rel (by kernel_rfl) (yields_rel (by rfl) fewRl_lasting fun w5 hw5 => ?_) ?_
  · have hb5 := hw5.below
    have HBx := Lib.hid hb5
    clear hb5 hw5
    go_simp
    exact fewRl_enter (HFG.out w5 (H0.out.1.trans (((Below.refl _ _).drew.trans HBx.out).mono H0.out.1.size)))
  rintro v G9 w5 hw5
  have qq : fewRl v G9 w5 := (hw5.ents _ List.mem_cons_self).1
  clear hw5
  unfold fewRl at qq
  obtain ⟨⟨og, ⟨kg, ig, vg⟩, sg, _⟩, Bg, qg, pg, rfl, -⟩ := qq
  simp only [Act.put, List.setIfInBounds_toArray, List.set_cons_zero, List.set_cons_succ]
  refine detL_tail rfl (by kernel_rfl) fun w1 hw1 => ?_
  have q0 : fewRl (.agg #[.string og, .int .i64 kg, .int .i64 ig, .string vg, .string sg, .slice Bg pg qg]) G9 w1 := (hw1.ents _ List.mem_cons_self).1
  have q1 : fewRl (.agg #[.string oe, .int .i64 ke, .int .i64 ie, .string ve, .string se, .slice Be pe qe]) G8 w1 := (hw1.ents _ (List.mem_cons_of_mem _ List.mem_cons_self)).1
  have q2 : relRl w0.heap.size rows (.agg #[.string nm', .slice A' n' c', .int .i64 key', .slice U' m' cu', .slice R' p' cr', .string op', .int .i64 k', .int .i64 i', .string vs', .string s', .slice B' q' d', .slice Ar' nr' ca']) [] w1 := (hw1.ents _ (List.mem_cons_of_mem _ (List.mem_cons_of_mem _ List.mem_cons_self))).1
  have q3 : ∀ b ∈ G8, w0.heap.size ≤ b := fun b hb => ((hw1.ents _ (List.mem_cons_of_mem _ List.mem_cons_self)).2.2 b hb).1
  have q4 : ∀ b ∈ G9, w0.heap.size ≤ b := fun b hb => ((hw1.ents _ List.mem_cons_self).2.2 b hb).1
  have hb1 : Below w0.heap.size w0 w1 := (Below.refl _ _).drew.trans hw1.below
  clear hw1
  obtain ⟨le, _, ht1⟩ := fewRl_at q1
  obtain ⟨lg, _, ht2⟩ := fewRl_at q0
  obtain ⟨cols', us', rs', l', rows', t1, t2, t3, t4, t5, t6, t7, t8, t9⟩ := relR_at q2.2
  have hbx1 := (hb1.block _ hz0).trans H0.out.2.2.1
  have hbe1 := (hb1.block _ hz0').trans H0.out.2.2.2.1
  have hbg1 := (hb1.block _ hz0'').trans H0.out.2.2.2.2
  have hbe2 : (w1.setRow w.heap.size #[.string nm', .slice A' n' c', .int .i64 key', .slice U' m' cu', .slice R' p' cr', .string op', .int .i64 k', .int .i64 i', .string vs', .string s', .slice B' q' d', .slice Ar' nr' ca']).heap[w.heap.size + 1]? = some (.cells #[.string xo, .int .i64 xk, .int .i64 xi, .string xv, .string xs, .slice xB xp xq] 29 (0, 0)) := (setRow_other _ _ _ _ (by omega)).trans hbe1
  have hbg2 : ((w1.setRow w.heap.size #[.string nm', .slice A' n' c', .int .i64 key', .slice U' m' cu', .slice R' p' cr', .string op', .int .i64 k', .int .i64 i', .string vs', .string s', .slice B' q' d', .slice Ar' nr' ca']).setRow (w.heap.size + 1) #[.string oe, .int .i64 ke, .int .i64 ie, .string ve, .string se, .slice Be pe qe]).heap[w.heap.size + 1 + 1]? = some (.cells #[.string yo, .int .i64 yk, .int .i64 yi, .string yv, .string ys, .slice yB yp yq] 29 (0, 0)) := (setRow_other _ _ _ _ (by omega)).trans ((setRow_other _ _ _ _ (by omega)).trans hbg1)
  have HN := Lib.hid t5
  have HOKC := Lib.hid t8
  have HOKR : Hid (∀ r ∈ rows', ∀ x ∈ r, okV x) := Lib.hid (by
    rw [t9]
    intro r hr
    obtain ⟨r0, h0, rfl⟩ := List.mem_map.1 hr
    exact ok_few (HIN.out r0 (List.mem_of_mem_take h0)))
  have HX := Lib.hid (And.intro (And.intro t1 (And.intro t2 (And.intro t3 t4))) (And.intro (And.intro t6 t7) (And.intro hb1 (And.intro (And.intro ht1 q3) (And.intro ht2 q4)))))
  clear q0 q1 q2 q3 q4 ht1 ht2 t1 t2 t3 t4 t5 t6 t7 t8 t9 hb1
  go_upto_region 2 with (first
    | (refine wpList_store_row rfl 34 (.tmp 3) (.tmp 18) rfl w.heap.size #[.string nm', .slice A' n' c', .int .i64 key', .slice U' m' cu', .slice R' p' cr', .string op', .int .i64 k', .int .i64 i', .string vs', .string s', .slice B' q' d', .slice Ar' nr' ca'] rfl rfl 34 _ hbx1 relSize rfl (rel_one _ _ _ _ _ _ _ _ _ _ _ _ _ _ _ _ _ _ _ _ _ _) ?_)
    | (refine wpList_store_row rfl 29 (.tmp 4) (.tmp 20) rfl (w.heap.size + 1) #[.string oe, .int .i64 ke, .int .i64 ie, .string ve, .string se, .slice Be pe qe] rfl rfl 29 _ hbe2 exSize7 rfl (ex_one7 _ _ _ _ _ _ _ _) ?_)
    | (refine wpList_store_row rfl 29 (.tmp 5) (.tmp 22) rfl (w.heap.size + 1 + 1) #[.string og, .int .i64 kg, .int .i64 ig, .string vg, .string sg, .slice Bg pg qg] rfl rfl 29 _ hbg2 exSize7 rfl (ex_one7 _ _ _ _ _ _ _ _) ?_))
  have K : ∀ b, w0.heap.size ≤ b → (((w1.setRow w.heap.size #[.string nm', .slice A' n' c', .int .i64 key', .slice U' m' cu', .slice R' p' cr', .string op', .int .i64 k', .int .i64 i', .string vs', .string s', .slice B' q' d', .slice Ar' nr' ca']).setRow (w.heap.size + 1) #[.string oe, .int .i64 ke, .int .i64 ie, .string ve, .string se, .slice Be pe qe]).setRow (w.heap.size + 1 + 1) #[.string og, .int .i64 kg, .int .i64 ig, .string vg, .string sg, .slice Bg pg qg]).heap[b]? = w1.heap[b]? := fun b hb => (setRow_other _ _ _ _ (by omega)).trans ((setRow_other _ _ _ _ (by omega)).trans (setRow_other _ _ _ _ (by omega)))
  refine wp_gen (fun W => (Below w.heap.size w W ∧ w0.heap.size ≤ W.heap.size ∧ TbS W nm' A' n' c' key' U' m' cu' R' p' cr' op' k' i' vs' s' B' q' d' cols' us' rs' l' (fun b => w0.heap.size ≤ b) 14 ∧ RowsAt W (fun b => b < w0.heap.size) Ar' nr' rows' ∧ W.heap[w.heap.size]? = some (.cells #[.string nm', .slice A' n' c', .int .i64 key', .slice U' m' cu', .slice R' p' cr', .string op', .int .i64 k', .int .i64 i', .string vs', .string s', .slice B' q' d', .slice Ar' nr' ca'] 34 (0, 0)) ∧ W.heap[w.heap.size + 1]? = some (.cells #[.string oe, .int .i64 ke, .int .i64 ie, .string ve, .string se, .slice Be pe qe] 29 (0, 0)) ∧ W.heap[w.heap.size + 1 + 1]? = some (.cells #[.string og, .int .i64 kg, .int .i64 ig, .string vg, .string sg, .slice Bg pg qg] 29 (0, 0)) ∧ Tr W (fun b => w0.heap.size ≤ b) 14 (.mk oe ⟨ke, ie, ve⟩ se le) (.slice Be pe qe) ∧ Tr W (fun b => w0.heap.size ≤ b) 14 (.mk og ⟨kg, ig, vg⟩ sg lg) (.slice Bg pg qg))) ⟨below_row (below_row (below_row (H0.out.1.trans (HX.out.2.2.1.mono H0.out.1.size)) _ (Nat.le_refl _)) _ (by omega)) _ (by omega), by rw [setRow_size, setRow_size, setRow_size]; exact HX.out.2.2.1.size, HX.out.1.1.away7 HX.out.1.2.1 HX.out.1.2.2.1 HX.out.1.2.2.2 K, ((HX.out.2.1.1.row7 HX.out.2.1.2 hz0 _).row7 HX.out.2.1.2 hz0' _).row7 HX.out.2.1.2 hz0'' _, (setRow_other _ _ _ _ (by omega)).trans ((setRow_other _ _ _ _ (by omega)).trans (setRow_heap _ _ _ _ _ _ hbx1)), (setRow_other _ _ _ _ (by omega)).trans (setRow_heap _ _ _ _ _ _ hbe2), setRow_heap _ _ _ _ _ _ hbg2, HX.out.2.2.2.1.1.keep (fun b hb _ => K b (HX.out.2.2.2.1.2 b hb)) (fun b hb _ => HX.out.2.2.2.1.2 b hb), HX.out.2.2.2.2.1.keep (fun b hb _ => K b (HX.out.2.2.2.2.2 b hb)) (fun b hb _ => HX.out.2.2.2.2.2 b hb)⟩ fun w2 hw2 => ?_
  have H2 := Lib.hid hw2
  have b20 := lt_of_block hw2.2.2.2.2.1
  have b21 := lt_of_block hw2.2.2.2.2.2.1
  have b22 := lt_of_block hw2.2.2.2.2.2.2.1
  clear hw2 hbx1 hbe1 hbe2 hbg1 hbg2 HX K
  obtain ⟨R1, z1, HQ1⟩ : ∃ R z, Hid (whereR cols' rows' (.mk oe ⟨ke, ie, ve⟩ se le) = (R, z)) := ⟨_, _, Lib.hid rfl⟩
  obtain ⟨R2, z2, HQ2⟩ : ∃ R z, Hid (whereR cols' R1 (.mk og ⟨kg, ig, vg⟩ sg lg) = (R, z)) := ⟨_, _, Lib.hid rfl⟩
  obtain ⟨R3, z3, HQ3⟩ : ∃ R z, Hid (whereR cols' rows' (twoT ⟨#[97, 110, 100]⟩ (.mk oe ⟨ke, ie, ve⟩ se le) (.mk og ⟨kg, ig, vg⟩ sg lg)) = (R, z)) := ⟨_, _, Lib.hid rfl⟩
  obtain ⟨R4, z4, HQ4⟩ : ∃ R z, Hid (whereR cols' rows' (twoT ⟨#[111, 114]⟩ (.mk oe ⟨ke, ie, ve⟩ se le) (.mk og ⟨kg, ig, vg⟩ sg lg)) = (R, z)) := ⟨_, _, Lib.hid rfl⟩
  obtain ⟨R5, z5, HQ5⟩ : ∃ R z, Hid (whereR cols' rows' (.mk og ⟨kg, ig, vg⟩ sg lg) = (R, z)) := ⟨_, _, Lib.hid rfl⟩
  have HW2 : Hid (Calls Tryz.prog 14 #[.agg #[.string nm', .slice A' n' c', .int .i64 key', .slice U' m' cu', .slice R' p' cr', .string op', .int .i64 k', .int .i64 i', .string vs', .string s', .slice B' q' d', .slice Ar' nr' ca'], .agg #[.string oe, .int .i64 ke, .int .i64 ie, .string ve, .string se, .slice Be pe qe]] w2 fun e w' => ∃ A9 n9 c9, e = .returned (.tuple #[.slice A9 n9 c9, .int .i64 z1]) ∧ (nilOk A9 n9 c9 ∧ RowsAt w' (fun _ => False) A9 n9 R1) ∧ Below w2.heap.size w2 w') := Lib.hid (by
    refine Calls.mono (where_any nm' A' n' c' key' U' m' cu' R' p' cr' op' k' i' vs' s' B' q' d' Ar' nr' ca' cols' rows' _ oe ke ie ve se Be pe qe le _ 14 w2 H2.out.2.2.1.hcols HN.out H2.out.2.2.2.1 H2.out.2.2.2.2.2.2.2.1) ?_
    rintro e w' ⟨A9, n9, c9, he, h1, h2, h3⟩
    rw [HQ1.out] at he h2
    exact ⟨A9, n9, c9, he, ⟨h1, h2⟩, h3⟩)
  go_upto_region 3 with (first
    | (refine wpList_load_row rfl 34 (.tmp 3) rfl w.heap.size rfl 34 #[.string nm', .slice A' n' c', .int .i64 key', .slice U' m' cu', .slice R' p' cr', .string op', .int .i64 k', .int .i64 i', .string vs', .string s', .slice B' q' d', .slice Ar' nr' ca'] (0, 0) _ H2.out.2.2.2.2.1 Tryz.underlying34 rfl relSize ?_)
    | (refine wpList_load_row rfl 29 (.tmp 4) rfl (w.heap.size + 1) rfl 29 #[.string oe, .int .i64 ke, .int .i64 ie, .string ve, .string se, .slice Be pe qe] (0, 0) _ H2.out.2.2.2.2.2.1 Tryz.underlying29 rfl exSize7 ?_)
    | (refine wpList_load_row rfl 29 (.tmp 5) rfl (w.heap.size + 1 + 1) rfl 29 #[.string og, .int .i64 kg, .int .i64 ig, .string vg, .string sg, .slice Bg pg qg] (0, 0) _ H2.out.2.2.2.2.2.2.1 Tryz.underlying29 rfl exSize7 ?_)
    | (go_at_call 14; (with_reducible refine HW2.out.mono ?_); rintro e x2 ⟨A1, n1, c1, rfl, k1, hb2⟩; have HB2 := Lib.hid (And.intro hb2 k1); clear hb2 k1))
  have HNI1 := Lib.hid HB2.out.2.1
  refine wp_gen (fun W => (Below w.heap.size w W ∧ w0.heap.size ≤ W.heap.size ∧ TbS W nm' A' n' c' key' U' m' cu' R' p' cr' op' k' i' vs' s' B' q' d' cols' us' rs' l' (fun b => w0.heap.size ≤ b) 14 ∧ RowsAt W (fun b => b < w0.heap.size) Ar' nr' rows' ∧ W.heap[w.heap.size]? = some (.cells #[.string nm', .slice A' n' c', .int .i64 key', .slice U' m' cu', .slice R' p' cr', .string op', .int .i64 k', .int .i64 i', .string vs', .string s', .slice B' q' d', .slice Ar' nr' ca'] 34 (0, 0)) ∧ W.heap[w.heap.size + 1]? = some (.cells #[.string oe, .int .i64 ke, .int .i64 ie, .string ve, .string se, .slice Be pe qe] 29 (0, 0)) ∧ W.heap[w.heap.size + 1 + 1]? = some (.cells #[.string og, .int .i64 kg, .int .i64 ig, .string vg, .string sg, .slice Bg pg qg] 29 (0, 0)) ∧ Tr W (fun b => w0.heap.size ≤ b) 14 (.mk oe ⟨ke, ie, ve⟩ se le) (.slice Be pe qe) ∧ Tr W (fun b => w0.heap.size ≤ b) 14 (.mk og ⟨kg, ig, vg⟩ sg lg) (.slice Bg pg qg)) ∧ RowsAt W (fun _ => False) A1 n1 R1) ⟨⟨H2.out.1.trans (HB2.out.1.mono H2.out.1.size), Nat.le_trans H2.out.2.1 HB2.out.1.size, H2.out.2.2.1.below HB2.out.1, H2.out.2.2.2.1.below HB2.out.1, (HB2.out.1.block _ (lt_of_block H2.out.2.2.2.2.1)).trans H2.out.2.2.2.2.1, (HB2.out.1.block _ (lt_of_block H2.out.2.2.2.2.2.1)).trans H2.out.2.2.2.2.2.1, (HB2.out.1.block _ (lt_of_block H2.out.2.2.2.2.2.2.1)).trans H2.out.2.2.2.2.2.2.1, H2.out.2.2.2.2.2.2.2.1.below HB2.out.1, H2.out.2.2.2.2.2.2.2.2.below HB2.out.1⟩, HB2.out.2.2⟩ fun w3 hw3 => ?_
  have H3 := Lib.hid hw3
  have b30 := lt_of_block hw3.1.2.2.2.2.1
  have b31 := lt_of_block hw3.1.2.2.2.2.2.1
  have b32 := lt_of_block hw3.1.2.2.2.2.2.2.1
  clear hw3 HB2 H2 HW2 b20 b21 b22
  have g0 := Lib.cell_of_heap H3.out.1.2.2.2.2.1 0
  have g1 := Lib.cell_of_heap H3.out.1.2.2.2.2.1 1
  have g2 := Lib.cell_of_heap H3.out.1.2.2.2.2.1 2
  have g3 := Lib.cell_of_heap H3.out.1.2.2.2.2.1 3
  have g4 := Lib.cell_of_heap H3.out.1.2.2.2.2.1 4
  have g5 := Lib.cell_of_heap H3.out.1.2.2.2.2.1 5
  have g6 := Lib.cell_of_heap H3.out.1.2.2.2.2.1 6
  have g7 := Lib.cell_of_heap H3.out.1.2.2.2.2.1 7
  have g8 := Lib.cell_of_heap H3.out.1.2.2.2.2.1 8
  have g9 := Lib.cell_of_heap H3.out.1.2.2.2.2.1 9
  have g10 := Lib.cell_of_heap H3.out.1.2.2.2.2.1 10
  have g11 := Lib.cell_of_heap H3.out.1.2.2.2.2.1 11
  simp only [List.getElem?_toArray, List.getElem?_cons_zero, List.getElem?_cons_succ] at g0 g1 g2 g3 g4 g5 g6 g7 g8 g9 g10 g11
  have HW3 : Hid (Calls Tryz.prog 14 #[.agg #[.string nm', .slice A' n' c', .int .i64 key', .slice U' m' cu', .slice R' p' cr', .string op', .int .i64 k', .int .i64 i', .string vs', .string s', .slice B' q' d', .slice A1 n1 c1], .agg #[.string og, .int .i64 kg, .int .i64 ig, .string vg, .string sg, .slice Bg pg qg]] w3 fun e w' => ∃ A9 n9 c9, e = .returned (.tuple #[.slice A9 n9 c9, .int .i64 z2]) ∧ (nilOk A9 n9 c9 ∧ RowsAt w' (fun _ => False) A9 n9 R2) ∧ Below w3.heap.size w3 w') := Lib.hid (by
    refine Calls.mono (where_any nm' A' n' c' key' U' m' cu' R' p' cr' op' k' i' vs' s' B' q' d' A1 n1 c1 cols' R1 _ og kg ig vg sg Bg pg qg lg _ 14 w3 H3.out.1.2.2.1.hcols HNI1.out H3.out.2 H3.out.1.2.2.2.2.2.2.2.2) ?_
    rintro e w' ⟨A9, n9, c9, he, h1, h2, h3⟩
    rw [HQ2.out] at he h2
    exact ⟨A9, n9, c9, he, ⟨h1, h2⟩, h3⟩)
  go_upto_region 4 with (first
    | (refine wpList_load_row rfl 34 (.tmp 3) rfl w.heap.size rfl 34 #[.string nm', .slice A' n' c', .int .i64 key', .slice U' m' cu', .slice R' p' cr', .string op', .int .i64 k', .int .i64 i', .string vs', .string s', .slice B' q' d', .slice Ar' nr' ca'] (0, 0) _ H3.out.1.2.2.2.2.1 Tryz.underlying34 rfl relSize ?_)
    | (refine wpList_load_row rfl 29 (.tmp 4) rfl (w.heap.size + 1) rfl 29 #[.string oe, .int .i64 ke, .int .i64 ie, .string ve, .string se, .slice Be pe qe] (0, 0) _ H3.out.1.2.2.2.2.2.1 Tryz.underlying29 rfl exSize7 ?_)
    | (refine wpList_load_row rfl 29 (.tmp 5) rfl (w.heap.size + 1 + 1) rfl 29 #[.string og, .int .i64 kg, .int .i64 ig, .string vg, .string sg, .slice Bg pg qg] (0, 0) _ H3.out.1.2.2.2.2.2.2.1 Tryz.underlying29 rfl exSize7 ?_)
    | (go_at_call 14; (with_reducible refine HW3.out.mono ?_); rintro e x2 ⟨A2, n2, c2, rfl, k1, hb2⟩; have HB3 := Lib.hid (And.intro hb2 k1); clear hb2 k1))
  have HNI2 := Lib.hid HB3.out.2.1
  refine wp_gen (fun W => (Below w.heap.size w W ∧ w0.heap.size ≤ W.heap.size ∧ TbS W nm' A' n' c' key' U' m' cu' R' p' cr' op' k' i' vs' s' B' q' d' cols' us' rs' l' (fun b => w0.heap.size ≤ b) 14 ∧ RowsAt W (fun b => b < w0.heap.size) Ar' nr' rows' ∧ W.heap[w.heap.size]? = some (.cells #[.string nm', .slice A' n' c', .int .i64 key', .slice U' m' cu', .slice R' p' cr', .string op', .int .i64 k', .int .i64 i', .string vs', .string s', .slice B' q' d', .slice Ar' nr' ca'] 34 (0, 0)) ∧ W.heap[w.heap.size + 1]? = some (.cells #[.string oe, .int .i64 ke, .int .i64 ie, .string ve, .string se, .slice Be pe qe] 29 (0, 0)) ∧ W.heap[w.heap.size + 1 + 1]? = some (.cells #[.string og, .int .i64 kg, .int .i64 ig, .string vg, .string sg, .slice Bg pg qg] 29 (0, 0)) ∧ Tr W (fun b => w0.heap.size ≤ b) 14 (.mk oe ⟨ke, ie, ve⟩ se le) (.slice Be pe qe) ∧ Tr W (fun b => w0.heap.size ≤ b) 14 (.mk og ⟨kg, ig, vg⟩ sg lg) (.slice Bg pg qg)) ∧ RowsAt W (fun _ => False) A1 n1 R1 ∧ RowsAt W (fun _ => False) A2 n2 R2) ⟨⟨H3.out.1.1.trans (HB3.out.1.mono H3.out.1.1.size), Nat.le_trans H3.out.1.2.1 HB3.out.1.size, H3.out.1.2.2.1.below HB3.out.1, H3.out.1.2.2.2.1.below HB3.out.1, (HB3.out.1.block _ (lt_of_block H3.out.1.2.2.2.2.1)).trans H3.out.1.2.2.2.2.1, (HB3.out.1.block _ (lt_of_block H3.out.1.2.2.2.2.2.1)).trans H3.out.1.2.2.2.2.2.1, (HB3.out.1.block _ (lt_of_block H3.out.1.2.2.2.2.2.2.1)).trans H3.out.1.2.2.2.2.2.2.1, H3.out.1.2.2.2.2.2.2.2.1.below HB3.out.1, H3.out.1.2.2.2.2.2.2.2.2.below HB3.out.1⟩, H3.out.2.below HB3.out.1, HB3.out.2.2⟩ fun w4 hw4 => ?_
  have H4 := Lib.hid hw4
  have b40 := lt_of_block hw4.1.2.2.2.2.1
  have b41 := lt_of_block hw4.1.2.2.2.2.2.1
  have b42 := lt_of_block hw4.1.2.2.2.2.2.2.1
  clear g0 g1 g2 g3 g4 g5 g6 g7 g8 g9 g10 g11 hw4 HB3 H3 HW3 b30 b31 b32
  have HA4 : Hid (Below w4.heap.size w4 (w4.alloc (.cells #[.string oe, .int .i64 ke, .int .i64 ie, .string ve, .string se, .slice Be pe qe, .string og, .int .i64 kg, .int .i64 ig, .string vg, .string sg, .slice Bg pg qg] 29))) := Lib.hid ((Below.refl _ _).alloc (Nat.le_refl _) _)
  have HH4 : Hid ((Below w.heap.size w (w4.alloc (.cells #[.string oe, .int .i64 ke, .int .i64 ie, .string ve, .string se, .slice Be pe qe, .string og, .int .i64 kg, .int .i64 ig, .string vg, .string sg, .slice Bg pg qg] 29)) ∧ w0.heap.size ≤ (w4.alloc (.cells #[.string oe, .int .i64 ke, .int .i64 ie, .string ve, .string se, .slice Be pe qe, .string og, .int .i64 kg, .int .i64 ig, .string vg, .string sg, .slice Bg pg qg] 29)).heap.size ∧ TbS (w4.alloc (.cells #[.string oe, .int .i64 ke, .int .i64 ie, .string ve, .string se, .slice Be pe qe, .string og, .int .i64 kg, .int .i64 ig, .string vg, .string sg, .slice Bg pg qg] 29)) nm' A' n' c' key' U' m' cu' R' p' cr' op' k' i' vs' s' B' q' d' cols' us' rs' l' (fun b => w0.heap.size ≤ b) 14 ∧ RowsAt (w4.alloc (.cells #[.string oe, .int .i64 ke, .int .i64 ie, .string ve, .string se, .slice Be pe qe, .string og, .int .i64 kg, .int .i64 ig, .string vg, .string sg, .slice Bg pg qg] 29)) (fun b => b < w0.heap.size) Ar' nr' rows' ∧ (w4.alloc (.cells #[.string oe, .int .i64 ke, .int .i64 ie, .string ve, .string se, .slice Be pe qe, .string og, .int .i64 kg, .int .i64 ig, .string vg, .string sg, .slice Bg pg qg] 29)).heap[w.heap.size]? = some (.cells #[.string nm', .slice A' n' c', .int .i64 key', .slice U' m' cu', .slice R' p' cr', .string op', .int .i64 k', .int .i64 i', .string vs', .string s', .slice B' q' d', .slice Ar' nr' ca'] 34 (0, 0)) ∧ (w4.alloc (.cells #[.string oe, .int .i64 ke, .int .i64 ie, .string ve, .string se, .slice Be pe qe, .string og, .int .i64 kg, .int .i64 ig, .string vg, .string sg, .slice Bg pg qg] 29)).heap[w.heap.size + 1]? = some (.cells #[.string oe, .int .i64 ke, .int .i64 ie, .string ve, .string se, .slice Be pe qe] 29 (0, 0)) ∧ (w4.alloc (.cells #[.string oe, .int .i64 ke, .int .i64 ie, .string ve, .string se, .slice Be pe qe, .string og, .int .i64 kg, .int .i64 ig, .string vg, .string sg, .slice Bg pg qg] 29)).heap[w.heap.size + 1 + 1]? = some (.cells #[.string og, .int .i64 kg, .int .i64 ig, .string vg, .string sg, .slice Bg pg qg] 29 (0, 0)) ∧ Tr (w4.alloc (.cells #[.string oe, .int .i64 ke, .int .i64 ie, .string ve, .string se, .slice Be pe qe, .string og, .int .i64 kg, .int .i64 ig, .string vg, .string sg, .slice Bg pg qg] 29)) (fun b => w0.heap.size ≤ b) 14 (.mk oe ⟨ke, ie, ve⟩ se le) (.slice Be pe qe) ∧ Tr (w4.alloc (.cells #[.string oe, .int .i64 ke, .int .i64 ie, .string ve, .string se, .slice Be pe qe, .string og, .int .i64 kg, .int .i64 ig, .string vg, .string sg, .slice Bg pg qg] 29)) (fun b => w0.heap.size ≤ b) 14 (.mk og ⟨kg, ig, vg⟩ sg lg) (.slice Bg pg qg))) := Lib.hid ⟨H4.out.1.1.trans (HA4.out.mono H4.out.1.1.size), Nat.le_trans H4.out.1.2.1 HA4.out.size, H4.out.1.2.2.1.below HA4.out, H4.out.1.2.2.2.1.below HA4.out, (HA4.out.block _ b40).trans H4.out.1.2.2.2.2.1, (HA4.out.block _ b41).trans H4.out.1.2.2.2.2.2.1, (HA4.out.block _ b42).trans H4.out.1.2.2.2.2.2.2.1, H4.out.1.2.2.2.2.2.2.2.1.below HA4.out, H4.out.1.2.2.2.2.2.2.2.2.below HA4.out⟩
  have HW4 : Hid (Calls Tryz.prog 14 #[.agg #[.string nm', .slice A' n' c', .int .i64 key', .slice U' m' cu', .slice R' p' cr', .string op', .int .i64 k', .int .i64 i', .string vs', .string s', .slice B' q' d', .slice Ar' nr' ca'], .agg #[.string ⟨#[97, 110, 100]⟩, .int .i64 0, .int .i64 0, .string ⟨#[]⟩, .string ⟨#[]⟩, .slice (some ⟨w4.heap.size, 0, none⟩) 2 2]] (w4.alloc (.cells #[.string oe, .int .i64 ke, .int .i64 ie, .string ve, .string se, .slice Be pe qe, .string og, .int .i64 kg, .int .i64 ig, .string vg, .string sg, .slice Bg pg qg] 29)) fun e w' => ∃ A9 n9 c9, e = .returned (.tuple #[.slice A9 n9 c9, .int .i64 z3]) ∧ (nilOk A9 n9 c9 ∧ RowsAt w' (fun _ => False) A9 n9 R3) ∧ Below (w4.alloc (.cells #[.string oe, .int .i64 ke, .int .i64 ie, .string ve, .string se, .slice Be pe qe, .string og, .int .i64 kg, .int .i64 ig, .string vg, .string sg, .slice Bg pg qg] 29)).heap.size (w4.alloc (.cells #[.string oe, .int .i64 ke, .int .i64 ie, .string ve, .string se, .slice Be pe qe, .string og, .int .i64 kg, .int .i64 ig, .string vg, .string sg, .slice Bg pg qg] 29)) w') := Lib.hid (by
    refine Calls.mono (where_any nm' A' n' c' key' U' m' cu' R' p' cr' op' k' i' vs' s' B' q' d' Ar' nr' ca' cols' rows' _ ⟨#[97, 110, 100]⟩ 0 0 ⟨#[]⟩ ⟨#[]⟩ (some ⟨w4.heap.size, 0, none⟩) 2 2 [(.mk oe ⟨ke, ie, ve⟩ se le), (.mk og ⟨kg, ig, vg⟩ sg lg)] (fun b => w0.heap.size ≤ b) 15 (w4.alloc (.cells #[.string oe, .int .i64 ke, .int .i64 ie, .string ve, .string se, .slice Be pe qe, .string og, .int .i64 kg, .int .i64 ig, .string vg, .string sg, .slice Bg pg qg] 29)) HH4.out.2.2.1.hcols HN.out HH4.out.2.2.2.1 (by exact two_tr (x := (.mk oe ⟨ke, ie, ve⟩ se le)) (y := (.mk og ⟨kg, ig, vg⟩ sg lg)) ⟨#[97, 110, 100]⟩ (H4.out.1.2.2.2.2.2.2.2.1) (H4.out.1.2.2.2.2.2.2.2.2) (H4.out.1.2.1))) ?_
    rintro e w' ⟨A9, n9, c9, he, h1, h2, h3⟩
    rw [show (Ex.mk ⟨#[97, 110, 100]⟩ ⟨0, 0, ⟨#[]⟩⟩ ⟨#[]⟩ [(.mk oe ⟨ke, ie, ve⟩ se le), (.mk og ⟨kg, ig, vg⟩ sg lg)]) = twoT ⟨#[97, 110, 100]⟩ (.mk oe ⟨ke, ie, ve⟩ se le) (.mk og ⟨kg, ig, vg⟩ sg lg) from rfl] at he h2
    rw [HQ3.out] at he h2
    exact ⟨A9, n9, c9, he, ⟨h1, h2⟩, h3⟩)
  go_upto_region 5 with (first
    | (refine wpList_load_row rfl 34 (.tmp 3) rfl w.heap.size rfl 34 #[.string nm', .slice A' n' c', .int .i64 key', .slice U' m' cu', .slice R' p' cr', .string op', .int .i64 k', .int .i64 i', .string vs', .string s', .slice B' q' d', .slice Ar' nr' ca'] (0, 0) _ H4.out.1.2.2.2.2.1 Tryz.underlying34 rfl relSize ?_)
    | (refine wpList_load_row rfl 29 (.tmp 4) rfl (w.heap.size + 1) rfl 29 #[.string oe, .int .i64 ke, .int .i64 ie, .string ve, .string se, .slice Be pe qe] (0, 0) _ H4.out.1.2.2.2.2.2.1 Tryz.underlying29 rfl exSize7 ?_)
    | (refine wpList_load_row rfl 29 (.tmp 5) rfl (w.heap.size + 1 + 1) rfl 29 #[.string og, .int .i64 kg, .int .i64 ig, .string vg, .string sg, .slice Bg pg qg] (0, 0) _ H4.out.1.2.2.2.2.2.2.1 Tryz.underlying29 rfl exSize7 ?_)
    | (go_at_call 14; (with_reducible refine HW4.out.mono ?_); rintro e x2 ⟨A3, n3, c3, rfl, k1, hb2⟩; have HB4 := Lib.hid (And.intro hb2 k1); clear hb2 k1))
  have HNI3 := Lib.hid HB4.out.2.1
  refine wp_gen (fun W => (Below w.heap.size w W ∧ w0.heap.size ≤ W.heap.size ∧ TbS W nm' A' n' c' key' U' m' cu' R' p' cr' op' k' i' vs' s' B' q' d' cols' us' rs' l' (fun b => w0.heap.size ≤ b) 14 ∧ RowsAt W (fun b => b < w0.heap.size) Ar' nr' rows' ∧ W.heap[w.heap.size]? = some (.cells #[.string nm', .slice A' n' c', .int .i64 key', .slice U' m' cu', .slice R' p' cr', .string op', .int .i64 k', .int .i64 i', .string vs', .string s', .slice B' q' d', .slice Ar' nr' ca'] 34 (0, 0)) ∧ W.heap[w.heap.size + 1]? = some (.cells #[.string oe, .int .i64 ke, .int .i64 ie, .string ve, .string se, .slice Be pe qe] 29 (0, 0)) ∧ W.heap[w.heap.size + 1 + 1]? = some (.cells #[.string og, .int .i64 kg, .int .i64 ig, .string vg, .string sg, .slice Bg pg qg] 29 (0, 0)) ∧ Tr W (fun b => w0.heap.size ≤ b) 14 (.mk oe ⟨ke, ie, ve⟩ se le) (.slice Be pe qe) ∧ Tr W (fun b => w0.heap.size ≤ b) 14 (.mk og ⟨kg, ig, vg⟩ sg lg) (.slice Bg pg qg)) ∧ RowsAt W (fun _ => False) A1 n1 R1 ∧ RowsAt W (fun _ => False) A2 n2 R2 ∧ RowsAt W (fun _ => False) A3 n3 R3) ⟨⟨HH4.out.1.trans (HB4.out.1.mono HH4.out.1.size), Nat.le_trans HH4.out.2.1 HB4.out.1.size, HH4.out.2.2.1.below HB4.out.1, HH4.out.2.2.2.1.below HB4.out.1, (HB4.out.1.block _ (lt_of_block HH4.out.2.2.2.2.1)).trans HH4.out.2.2.2.2.1, (HB4.out.1.block _ (lt_of_block HH4.out.2.2.2.2.2.1)).trans HH4.out.2.2.2.2.2.1, (HB4.out.1.block _ (lt_of_block HH4.out.2.2.2.2.2.2.1)).trans HH4.out.2.2.2.2.2.2.1, HH4.out.2.2.2.2.2.2.2.1.below HB4.out.1, HH4.out.2.2.2.2.2.2.2.2.below HB4.out.1⟩, (H4.out.2.1.below HA4.out).below HB4.out.1, (H4.out.2.2.below HA4.out).below HB4.out.1, HB4.out.2.2⟩ fun w5 hw5 => ?_
  have H5 := Lib.hid hw5
  have b50 := lt_of_block hw5.1.2.2.2.2.1
  have b51 := lt_of_block hw5.1.2.2.2.2.2.1
  have b52 := lt_of_block hw5.1.2.2.2.2.2.2.1
  clear hw5 HB4 H4 HW4 b40 b41 b42 HA4 HH4
  have HA5 : Hid (Below w5.heap.size w5 (w5.alloc (.cells #[.string oe, .int .i64 ke, .int .i64 ie, .string ve, .string se, .slice Be pe qe, .string og, .int .i64 kg, .int .i64 ig, .string vg, .string sg, .slice Bg pg qg] 29))) := Lib.hid ((Below.refl _ _).alloc (Nat.le_refl _) _)
  have HH5 : Hid ((Below w.heap.size w (w5.alloc (.cells #[.string oe, .int .i64 ke, .int .i64 ie, .string ve, .string se, .slice Be pe qe, .string og, .int .i64 kg, .int .i64 ig, .string vg, .string sg, .slice Bg pg qg] 29)) ∧ w0.heap.size ≤ (w5.alloc (.cells #[.string oe, .int .i64 ke, .int .i64 ie, .string ve, .string se, .slice Be pe qe, .string og, .int .i64 kg, .int .i64 ig, .string vg, .string sg, .slice Bg pg qg] 29)).heap.size ∧ TbS (w5.alloc (.cells #[.string oe, .int .i64 ke, .int .i64 ie, .string ve, .string se, .slice Be pe qe, .string og, .int .i64 kg, .int .i64 ig, .string vg, .string sg, .slice Bg pg qg] 29)) nm' A' n' c' key' U' m' cu' R' p' cr' op' k' i' vs' s' B' q' d' cols' us' rs' l' (fun b => w0.heap.size ≤ b) 14 ∧ RowsAt (w5.alloc (.cells #[.string oe, .int .i64 ke, .int .i64 ie, .string ve, .string se, .slice Be pe qe, .string og, .int .i64 kg, .int .i64 ig, .string vg, .string sg, .slice Bg pg qg] 29)) (fun b => b < w0.heap.size) Ar' nr' rows' ∧ (w5.alloc (.cells #[.string oe, .int .i64 ke, .int .i64 ie, .string ve, .string se, .slice Be pe qe, .string og, .int .i64 kg, .int .i64 ig, .string vg, .string sg, .slice Bg pg qg] 29)).heap[w.heap.size]? = some (.cells #[.string nm', .slice A' n' c', .int .i64 key', .slice U' m' cu', .slice R' p' cr', .string op', .int .i64 k', .int .i64 i', .string vs', .string s', .slice B' q' d', .slice Ar' nr' ca'] 34 (0, 0)) ∧ (w5.alloc (.cells #[.string oe, .int .i64 ke, .int .i64 ie, .string ve, .string se, .slice Be pe qe, .string og, .int .i64 kg, .int .i64 ig, .string vg, .string sg, .slice Bg pg qg] 29)).heap[w.heap.size + 1]? = some (.cells #[.string oe, .int .i64 ke, .int .i64 ie, .string ve, .string se, .slice Be pe qe] 29 (0, 0)) ∧ (w5.alloc (.cells #[.string oe, .int .i64 ke, .int .i64 ie, .string ve, .string se, .slice Be pe qe, .string og, .int .i64 kg, .int .i64 ig, .string vg, .string sg, .slice Bg pg qg] 29)).heap[w.heap.size + 1 + 1]? = some (.cells #[.string og, .int .i64 kg, .int .i64 ig, .string vg, .string sg, .slice Bg pg qg] 29 (0, 0)) ∧ Tr (w5.alloc (.cells #[.string oe, .int .i64 ke, .int .i64 ie, .string ve, .string se, .slice Be pe qe, .string og, .int .i64 kg, .int .i64 ig, .string vg, .string sg, .slice Bg pg qg] 29)) (fun b => w0.heap.size ≤ b) 14 (.mk oe ⟨ke, ie, ve⟩ se le) (.slice Be pe qe) ∧ Tr (w5.alloc (.cells #[.string oe, .int .i64 ke, .int .i64 ie, .string ve, .string se, .slice Be pe qe, .string og, .int .i64 kg, .int .i64 ig, .string vg, .string sg, .slice Bg pg qg] 29)) (fun b => w0.heap.size ≤ b) 14 (.mk og ⟨kg, ig, vg⟩ sg lg) (.slice Bg pg qg))) := Lib.hid ⟨H5.out.1.1.trans (HA5.out.mono H5.out.1.1.size), Nat.le_trans H5.out.1.2.1 HA5.out.size, H5.out.1.2.2.1.below HA5.out, H5.out.1.2.2.2.1.below HA5.out, (HA5.out.block _ b50).trans H5.out.1.2.2.2.2.1, (HA5.out.block _ b51).trans H5.out.1.2.2.2.2.2.1, (HA5.out.block _ b52).trans H5.out.1.2.2.2.2.2.2.1, H5.out.1.2.2.2.2.2.2.2.1.below HA5.out, H5.out.1.2.2.2.2.2.2.2.2.below HA5.out⟩
  have HW5 : Hid (Calls Tryz.prog 14 #[.agg #[.string nm', .slice A' n' c', .int .i64 key', .slice U' m' cu', .slice R' p' cr', .string op', .int .i64 k', .int .i64 i', .string vs', .string s', .slice B' q' d', .slice Ar' nr' ca'], .agg #[.string ⟨#[111, 114]⟩, .int .i64 0, .int .i64 0, .string ⟨#[]⟩, .string ⟨#[]⟩, .slice (some ⟨w5.heap.size, 0, none⟩) 2 2]] (w5.alloc (.cells #[.string oe, .int .i64 ke, .int .i64 ie, .string ve, .string se, .slice Be pe qe, .string og, .int .i64 kg, .int .i64 ig, .string vg, .string sg, .slice Bg pg qg] 29)) fun e w' => ∃ A9 n9 c9, e = .returned (.tuple #[.slice A9 n9 c9, .int .i64 z4]) ∧ (nilOk A9 n9 c9 ∧ RowsAt w' (fun _ => False) A9 n9 R4) ∧ Below (w5.alloc (.cells #[.string oe, .int .i64 ke, .int .i64 ie, .string ve, .string se, .slice Be pe qe, .string og, .int .i64 kg, .int .i64 ig, .string vg, .string sg, .slice Bg pg qg] 29)).heap.size (w5.alloc (.cells #[.string oe, .int .i64 ke, .int .i64 ie, .string ve, .string se, .slice Be pe qe, .string og, .int .i64 kg, .int .i64 ig, .string vg, .string sg, .slice Bg pg qg] 29)) w') := Lib.hid (by
    refine Calls.mono (where_any nm' A' n' c' key' U' m' cu' R' p' cr' op' k' i' vs' s' B' q' d' Ar' nr' ca' cols' rows' _ ⟨#[111, 114]⟩ 0 0 ⟨#[]⟩ ⟨#[]⟩ (some ⟨w5.heap.size, 0, none⟩) 2 2 [(.mk oe ⟨ke, ie, ve⟩ se le), (.mk og ⟨kg, ig, vg⟩ sg lg)] (fun b => w0.heap.size ≤ b) 15 (w5.alloc (.cells #[.string oe, .int .i64 ke, .int .i64 ie, .string ve, .string se, .slice Be pe qe, .string og, .int .i64 kg, .int .i64 ig, .string vg, .string sg, .slice Bg pg qg] 29)) HH5.out.2.2.1.hcols HN.out HH5.out.2.2.2.1 (by exact two_tr (x := (.mk oe ⟨ke, ie, ve⟩ se le)) (y := (.mk og ⟨kg, ig, vg⟩ sg lg)) ⟨#[111, 114]⟩ (H5.out.1.2.2.2.2.2.2.2.1) (H5.out.1.2.2.2.2.2.2.2.2) (H5.out.1.2.1))) ?_
    rintro e w' ⟨A9, n9, c9, he, h1, h2, h3⟩
    rw [show (Ex.mk ⟨#[111, 114]⟩ ⟨0, 0, ⟨#[]⟩⟩ ⟨#[]⟩ [(.mk oe ⟨ke, ie, ve⟩ se le), (.mk og ⟨kg, ig, vg⟩ sg lg)]) = twoT ⟨#[111, 114]⟩ (.mk oe ⟨ke, ie, ve⟩ se le) (.mk og ⟨kg, ig, vg⟩ sg lg) from rfl] at he h2
    rw [HQ4.out] at he h2
    exact ⟨A9, n9, c9, he, ⟨h1, h2⟩, h3⟩)
  go_upto_region 6 with (first
    | (refine wpList_load_row rfl 34 (.tmp 3) rfl w.heap.size rfl 34 #[.string nm', .slice A' n' c', .int .i64 key', .slice U' m' cu', .slice R' p' cr', .string op', .int .i64 k', .int .i64 i', .string vs', .string s', .slice B' q' d', .slice Ar' nr' ca'] (0, 0) _ H5.out.1.2.2.2.2.1 Tryz.underlying34 rfl relSize ?_)
    | (refine wpList_load_row rfl 29 (.tmp 4) rfl (w.heap.size + 1) rfl 29 #[.string oe, .int .i64 ke, .int .i64 ie, .string ve, .string se, .slice Be pe qe] (0, 0) _ H5.out.1.2.2.2.2.2.1 Tryz.underlying29 rfl exSize7 ?_)
    | (refine wpList_load_row rfl 29 (.tmp 5) rfl (w.heap.size + 1 + 1) rfl 29 #[.string og, .int .i64 kg, .int .i64 ig, .string vg, .string sg, .slice Bg pg qg] (0, 0) _ H5.out.1.2.2.2.2.2.2.1 Tryz.underlying29 rfl exSize7 ?_)
    | (go_at_call 14; (with_reducible refine HW5.out.mono ?_); rintro e x2 ⟨A4, n4, c4, rfl, k1, hb2⟩; have HB5 := Lib.hid (And.intro hb2 k1); clear hb2 k1))
  have HNI4 := Lib.hid HB5.out.2.1
  refine wp_gen (fun W => (Below w.heap.size w W ∧ w0.heap.size ≤ W.heap.size ∧ TbS W nm' A' n' c' key' U' m' cu' R' p' cr' op' k' i' vs' s' B' q' d' cols' us' rs' l' (fun b => w0.heap.size ≤ b) 14 ∧ RowsAt W (fun b => b < w0.heap.size) Ar' nr' rows' ∧ W.heap[w.heap.size]? = some (.cells #[.string nm', .slice A' n' c', .int .i64 key', .slice U' m' cu', .slice R' p' cr', .string op', .int .i64 k', .int .i64 i', .string vs', .string s', .slice B' q' d', .slice Ar' nr' ca'] 34 (0, 0)) ∧ W.heap[w.heap.size + 1]? = some (.cells #[.string oe, .int .i64 ke, .int .i64 ie, .string ve, .string se, .slice Be pe qe] 29 (0, 0)) ∧ W.heap[w.heap.size + 1 + 1]? = some (.cells #[.string og, .int .i64 kg, .int .i64 ig, .string vg, .string sg, .slice Bg pg qg] 29 (0, 0)) ∧ Tr W (fun b => w0.heap.size ≤ b) 14 (.mk oe ⟨ke, ie, ve⟩ se le) (.slice Be pe qe) ∧ Tr W (fun b => w0.heap.size ≤ b) 14 (.mk og ⟨kg, ig, vg⟩ sg lg) (.slice Bg pg qg)) ∧ RowsAt W (fun _ => False) A1 n1 R1 ∧ RowsAt W (fun _ => False) A2 n2 R2 ∧ RowsAt W (fun _ => False) A3 n3 R3 ∧ RowsAt W (fun _ => False) A4 n4 R4) ⟨⟨HH5.out.1.trans (HB5.out.1.mono HH5.out.1.size), Nat.le_trans HH5.out.2.1 HB5.out.1.size, HH5.out.2.2.1.below HB5.out.1, HH5.out.2.2.2.1.below HB5.out.1, (HB5.out.1.block _ (lt_of_block HH5.out.2.2.2.2.1)).trans HH5.out.2.2.2.2.1, (HB5.out.1.block _ (lt_of_block HH5.out.2.2.2.2.2.1)).trans HH5.out.2.2.2.2.2.1, (HB5.out.1.block _ (lt_of_block HH5.out.2.2.2.2.2.2.1)).trans HH5.out.2.2.2.2.2.2.1, HH5.out.2.2.2.2.2.2.2.1.below HB5.out.1, HH5.out.2.2.2.2.2.2.2.2.below HB5.out.1⟩, (H5.out.2.1.below HA5.out).below HB5.out.1, (H5.out.2.2.1.below HA5.out).below HB5.out.1, (H5.out.2.2.2.below HA5.out).below HB5.out.1, HB5.out.2.2⟩ fun w6 hw6 => ?_
  have H6 := Lib.hid hw6
  have b60 := lt_of_block hw6.1.2.2.2.2.1
  have b61 := lt_of_block hw6.1.2.2.2.2.2.1
  have b62 := lt_of_block hw6.1.2.2.2.2.2.2.1
  clear hw6 HB5 H5 HW5 b50 b51 b52 HA5 HH5
  have HW6 : Hid (Calls Tryz.prog 14 #[.agg #[.string nm', .slice A' n' c', .int .i64 key', .slice U' m' cu', .slice R' p' cr', .string op', .int .i64 k', .int .i64 i', .string vs', .string s', .slice B' q' d', .slice Ar' nr' ca'], .agg #[.string og, .int .i64 kg, .int .i64 ig, .string vg, .string sg, .slice Bg pg qg]] w6 fun e w' => ∃ A9 n9 c9, e = .returned (.tuple #[.slice A9 n9 c9, .int .i64 z5]) ∧ (nilOk A9 n9 c9 ∧ RowsAt w' (fun _ => False) A9 n9 R5) ∧ Below w6.heap.size w6 w') := Lib.hid (by
    refine Calls.mono (where_any nm' A' n' c' key' U' m' cu' R' p' cr' op' k' i' vs' s' B' q' d' Ar' nr' ca' cols' rows' _ og kg ig vg sg Bg pg qg lg _ 14 w6 H6.out.1.2.2.1.hcols HN.out H6.out.1.2.2.2.1 H6.out.1.2.2.2.2.2.2.2.2) ?_
    rintro e w' ⟨A9, n9, c9, he, h1, h2, h3⟩
    rw [HQ5.out] at he h2
    exact ⟨A9, n9, c9, he, ⟨h1, h2⟩, h3⟩)
  go_upto_region 7 with (first
    | (refine wpList_load_row rfl 34 (.tmp 3) rfl w.heap.size rfl 34 #[.string nm', .slice A' n' c', .int .i64 key', .slice U' m' cu', .slice R' p' cr', .string op', .int .i64 k', .int .i64 i', .string vs', .string s', .slice B' q' d', .slice Ar' nr' ca'] (0, 0) _ H6.out.1.2.2.2.2.1 Tryz.underlying34 rfl relSize ?_)
    | (refine wpList_load_row rfl 29 (.tmp 4) rfl (w.heap.size + 1) rfl 29 #[.string oe, .int .i64 ke, .int .i64 ie, .string ve, .string se, .slice Be pe qe] (0, 0) _ H6.out.1.2.2.2.2.2.1 Tryz.underlying29 rfl exSize7 ?_)
    | (refine wpList_load_row rfl 29 (.tmp 5) rfl (w.heap.size + 1 + 1) rfl 29 #[.string og, .int .i64 kg, .int .i64 ig, .string vg, .string sg, .slice Bg pg qg] (0, 0) _ H6.out.1.2.2.2.2.2.2.1 Tryz.underlying29 rfl exSize7 ?_)
    | (go_at_call 14; (with_reducible refine HW6.out.mono ?_); rintro e x2 ⟨A5, n5, c5, rfl, k1, hb2⟩; have HB6 := Lib.hid (And.intro hb2 k1); clear hb2 k1))
  have HNI5 := Lib.hid HB6.out.2.1
  refine wp_gen (fun W => (Below w.heap.size w W ∧ w0.heap.size ≤ W.heap.size ∧ TbS W nm' A' n' c' key' U' m' cu' R' p' cr' op' k' i' vs' s' B' q' d' cols' us' rs' l' (fun b => w0.heap.size ≤ b) 14 ∧ RowsAt W (fun b => b < w0.heap.size) Ar' nr' rows' ∧ W.heap[w.heap.size]? = some (.cells #[.string nm', .slice A' n' c', .int .i64 key', .slice U' m' cu', .slice R' p' cr', .string op', .int .i64 k', .int .i64 i', .string vs', .string s', .slice B' q' d', .slice Ar' nr' ca'] 34 (0, 0)) ∧ W.heap[w.heap.size + 1]? = some (.cells #[.string oe, .int .i64 ke, .int .i64 ie, .string ve, .string se, .slice Be pe qe] 29 (0, 0)) ∧ W.heap[w.heap.size + 1 + 1]? = some (.cells #[.string og, .int .i64 kg, .int .i64 ig, .string vg, .string sg, .slice Bg pg qg] 29 (0, 0)) ∧ Tr W (fun b => w0.heap.size ≤ b) 14 (.mk oe ⟨ke, ie, ve⟩ se le) (.slice Be pe qe) ∧ Tr W (fun b => w0.heap.size ≤ b) 14 (.mk og ⟨kg, ig, vg⟩ sg lg) (.slice Bg pg qg)) ∧ RowsAt W (fun _ => False) A1 n1 R1 ∧ RowsAt W (fun _ => False) A2 n2 R2 ∧ RowsAt W (fun _ => False) A3 n3 R3 ∧ RowsAt W (fun _ => False) A4 n4 R4 ∧ RowsAt W (fun _ => False) A5 n5 R5) ⟨⟨H6.out.1.1.trans (HB6.out.1.mono H6.out.1.1.size), Nat.le_trans H6.out.1.2.1 HB6.out.1.size, H6.out.1.2.2.1.below HB6.out.1, H6.out.1.2.2.2.1.below HB6.out.1, (HB6.out.1.block _ (lt_of_block H6.out.1.2.2.2.2.1)).trans H6.out.1.2.2.2.2.1, (HB6.out.1.block _ (lt_of_block H6.out.1.2.2.2.2.2.1)).trans H6.out.1.2.2.2.2.2.1, (HB6.out.1.block _ (lt_of_block H6.out.1.2.2.2.2.2.2.1)).trans H6.out.1.2.2.2.2.2.2.1, H6.out.1.2.2.2.2.2.2.2.1.below HB6.out.1, H6.out.1.2.2.2.2.2.2.2.2.below HB6.out.1⟩, H6.out.2.1.below HB6.out.1, H6.out.2.2.1.below HB6.out.1, H6.out.2.2.2.1.below HB6.out.1, H6.out.2.2.2.2.below HB6.out.1, HB6.out.2.2⟩ fun w7 hw7 => ?_
  have H7 := Lib.hid hw7
  have b70 := lt_of_block hw7.1.2.2.2.2.1
  have b71 := lt_of_block hw7.1.2.2.2.2.2.1
  have b72 := lt_of_block hw7.1.2.2.2.2.2.2.1
  clear hw7 HB6 H6 HW6 b60 b61 b62
  have g0 := Lib.cell_of_heap H7.out.1.2.2.2.2.1 0
  have g1 := Lib.cell_of_heap H7.out.1.2.2.2.2.1 1
  have g2 := Lib.cell_of_heap H7.out.1.2.2.2.2.1 2
  have g3 := Lib.cell_of_heap H7.out.1.2.2.2.2.1 3
  have g4 := Lib.cell_of_heap H7.out.1.2.2.2.2.1 4
  have g5 := Lib.cell_of_heap H7.out.1.2.2.2.2.1 5
  have g6 := Lib.cell_of_heap H7.out.1.2.2.2.2.1 6
  have g7 := Lib.cell_of_heap H7.out.1.2.2.2.2.1 7
  have g8 := Lib.cell_of_heap H7.out.1.2.2.2.2.1 8
  have g9 := Lib.cell_of_heap H7.out.1.2.2.2.2.1 9
  have g10 := Lib.cell_of_heap H7.out.1.2.2.2.2.1 10
  have g11 := Lib.cell_of_heap H7.out.1.2.2.2.2.1 11
  simp only [List.getElem?_toArray, List.getElem?_cons_zero, List.getElem?_cons_succ] at g0 g1 g2 g3 g4 g5 g6 g7 g8 g9 g10 g11
  have h0 := Lib.cell_of_heap H7.out.1.2.2.2.2.2.1 0
  have h1 := Lib.cell_of_heap H7.out.1.2.2.2.2.2.1 1
  have h2 := Lib.cell_of_heap H7.out.1.2.2.2.2.2.1 2
  have h3 := Lib.cell_of_heap H7.out.1.2.2.2.2.2.1 3
  have h4 := Lib.cell_of_heap H7.out.1.2.2.2.2.2.1 4
  have h5 := Lib.cell_of_heap H7.out.1.2.2.2.2.2.1 5
  simp only [List.getElem?_toArray, List.getElem?_cons_zero, List.getElem?_cons_succ] at h0 h1 h2 h3 h4 h5
  have j0 := Lib.cell_of_heap H7.out.1.2.2.2.2.2.2.1 0
  have j1 := Lib.cell_of_heap H7.out.1.2.2.2.2.2.2.1 1
  have j2 := Lib.cell_of_heap H7.out.1.2.2.2.2.2.2.1 2
  have j3 := Lib.cell_of_heap H7.out.1.2.2.2.2.2.2.1 3
  have j4 := Lib.cell_of_heap H7.out.1.2.2.2.2.2.2.1 4
  have j5 := Lib.cell_of_heap H7.out.1.2.2.2.2.2.2.1 5
  simp only [List.getElem?_toArray, List.getElem?_cons_zero, List.getElem?_cons_succ] at j0 j1 j2 j3 j4 j5
  have HAW := Lib.hid awake7_any
  have HCK : Hid (Calls Tryz.prog 18 #[.agg #[.string nm', .slice A' n' c', .int .i64 key', .slice U' m' cu', .slice R' p' cr', .string op', .int .i64 k', .int .i64 i', .string vs', .string s', .slice B' q' d', .slice Ar' nr' ca']] w7 fun e w' => RetIP e True ∧ Below w7.heap.size w7 w') := Lib.hid (Calls.mono (rcheck7_any nm' A' n' c' key' U' m' cu' R' p' cr' op' k' i' vs' s' B' q' d' Ar' nr' ca' cols' us' rs' l' _ 14 rows' _ w7 H7.out.1.2.2.1 HOKC.out H7.out.1.2.2.2.1 HOKR.out) fun e w' ⟨⟨z, h1, _⟩, h2⟩ => ⟨⟨z, h1, fun _ => trivial⟩, h2⟩)
  by_cases hop : oe.toList = []
  · go_wp2_with (go_at_call 17; (with_reducible refine (HAW.out _).mono ?_); rintro e y6 ⟨rfl, hb6⟩; have HB6 := Lib.hid (H7.out.1.1.trans (hb6.mono H7.out.1.1.size)); clear hb6)
    go_ret
    exact ⟨rfl, HB6.out⟩
  have hop2 : (oe.toList == []) = false := by simpa using hop
  by_cases hoq : og.toList = []
  · go_wp2_with (go_at_call 17; (with_reducible refine (HAW.out _).mono ?_); rintro e y6 ⟨rfl, hb6⟩; have HB6 := Lib.hid (H7.out.1.1.trans (hb6.mono H7.out.1.1.size)); clear hb6)
    go_ret
    exact ⟨rfl, HB6.out⟩
  have hoq2 : (og.toList == []) = false := by simpa using hoq
  have HOP := Lib.hid (And.intro hop hoq)
  obtain ⟨y1, hy1⟩ : ∃ b, (z1 != 0) = b := ⟨_, rfl⟩
  obtain ⟨y2, hy2⟩ : ∃ b, (z2 != 0) = b := ⟨_, rfl⟩
  obtain ⟨y3, hy3⟩ : ∃ b, (z3 != 0) = b := ⟨_, rfl⟩
  obtain ⟨y4, hy4⟩ : ∃ b, (z4 != 0) = b := ⟨_, rfl⟩
  obtain ⟨y5, hy5⟩ : ∃ b, (z5 != 0) = b := ⟨_, rfl⟩
  cases y1
  rotate_left
  · go_wp2_with (go_at_call 17; (with_reducible refine (HAW.out _).mono ?_); rintro e y6 ⟨rfl, hb6⟩; have HB6 := Lib.hid (H7.out.1.1.trans (hb6.mono H7.out.1.1.size)); clear hb6)
    go_ret
    exact ⟨rfl, HB6.out⟩
  cases y2
  rotate_left
  · go_wp2_with (go_at_call 17; (with_reducible refine (HAW.out _).mono ?_); rintro e y6 ⟨rfl, hb6⟩; have HB6 := Lib.hid (H7.out.1.1.trans (hb6.mono H7.out.1.1.size)); clear hb6)
    go_ret
    exact ⟨rfl, HB6.out⟩
  cases y3
  rotate_left
  · go_wp2_with (go_at_call 17; (with_reducible refine (HAW.out _).mono ?_); rintro e y6 ⟨rfl, hb6⟩; have HB6 := Lib.hid (H7.out.1.1.trans (hb6.mono H7.out.1.1.size)); clear hb6)
    go_ret
    exact ⟨rfl, HB6.out⟩
  cases y4
  rotate_left
  · go_wp2_with (go_at_call 17; (with_reducible refine (HAW.out _).mono ?_); rintro e y6 ⟨rfl, hb6⟩; have HB6 := Lib.hid (H7.out.1.1.trans (hb6.mono H7.out.1.1.size)); clear hb6)
    go_ret
    exact ⟨rfl, HB6.out⟩
  cases y5
  rotate_left
  · go_wp2_with (go_at_call 17; (with_reducible refine (HAW.out _).mono ?_); rintro e y6 ⟨rfl, hb6⟩; have HB6 := Lib.hid (H7.out.1.1.trans (hb6.mono H7.out.1.1.size)); clear hb6)
    go_ret
    exact ⟨rfl, HB6.out⟩
  have HZ := Lib.hid (And.intro hy1 (And.intro hy2 (And.intro hy3 (And.intro hy4 hy5))))
  have HP : Hid (R2 = R3 ∧ R4.length + R3.length = R1.length + R5.length) := Lib.hid (by
    have h := both_rows (cols := cols') (rows := rows') (e := (.mk oe ⟨ke, ie, ve⟩ se le)) (g := (.mk og ⟨kg, ig, vg⟩ sg lg)) HOP.out.1 HOP.out.2 (by rw [HQ1.out]; simpa using HZ.out.1) (by rw [HQ1.out]; dsimp only; rw [HQ2.out]; simpa using HZ.out.2.1) (by rw [HQ3.out]; simpa using HZ.out.2.2.1) (by rw [HQ4.out]; simpa using HZ.out.2.2.2.1) (by rw [HQ5.out]; simpa using HZ.out.2.2.2.2)
    rw [HQ1.out, HQ3.out, HQ4.out, HQ5.out] at h
    dsimp only at h
    rw [HQ2.out] at h
    exact h)
  have e1 := H7.out.2.1.1
  have e2 := H7.out.2.2.1.1
  have e3 := H7.out.2.2.2.1.1
  have e4 := H7.out.2.2.2.2.1.1
  have e5 := H7.out.2.2.2.2.2.1
  have hN1 := H7.out.2.1.2.1
  have hN3 := H7.out.2.2.2.1.2.1
  have hN4 := H7.out.2.2.2.2.1.2.1
  have hN5 := H7.out.2.2.2.2.2.2.1
  have HS : Hid (n2 = n3 ∧ n4 + n3 = n1 + n5) := Lib.hid (by
    have h1 := HP.out.1
    have h2 := HP.out.2
    rw [h1] at e2
    exact ⟨by omega, by omega⟩)
  clear e1 e2 e3 e4 e5
  obtain rfl : n3 = n2 := HS.out.1.symm
  obtain rfl : R3 = R2 := HP.out.1.symm
  have hs15 : IntKind.i64.wrap ((n1 : Int) + n5) = (n1 : Int) + n5 := by rw [IntKind.wrap_i64]; omega
  have hs153 : IntKind.i64.wrap ((n1 : Int) + n5 - n3) = (n4 : Int) := by have := HS.out.2; rw [IntKind.wrap_i64]; omega
  have HSR : Hid (∀ W, Below w7.heap.size w7 W → Calls Tryz.prog 16 #[.slice A2 n3 c2, .slice A3 n3 c3] W fun e w' => e = .returned (.bool true) ∧ Below W.heap.size W w') := Lib.hid fun W hW => sameRows_eq _ _ A2 n3 c2 A3 c3 R3 W (H7.out.2.2.1.below hW) (H7.out.2.2.2.1.below hW)
  go_upto_region 9 with (first
    | (go_at_call 18; (with_reducible refine HCK.out.mono ?_); rintro e y6 ⟨⟨zc, rfl, -⟩, hb6⟩; have HB6 := Lib.hid hb6; clear hb6; obtain ⟨yc, hyc⟩ : ∃ b, (zc != 0) = b := ⟨_, rfl⟩; cases yc)
    | (go_at_call 17; (with_reducible refine (HAW.out _).mono ?_); rintro e y7 ⟨rfl, hb7⟩; have HB7 := Lib.hid (H7.out.1.1.trans ((HB6.out.trans (hb7.mono HB6.out.size)).mono H7.out.1.1.size)); clear hb7))
  rotate_left
  · go_wp2_with (go_at_call 17; (with_reducible refine (HAW.out _).mono ?_); rintro e y7 ⟨rfl, hb7⟩; have HB7 := Lib.hid (H7.out.1.1.trans ((HB6.out.trans (hb7.mono HB6.out.size)).mono H7.out.1.1.size)); clear hb7)
    go_ret
    exact ⟨rfl, HB7.out⟩
  go_wp2_with (first
    | (go_at_call 16; (with_reducible refine (HSR.out _ HB6.out).mono ?_); rintro e y8 ⟨rfl, hb8⟩; have HB8 := Lib.hid (HB6.out.trans (hb8.mono HB6.out.size)); clear hb8)
    | (go_at_call 17; (with_reducible refine (HAW.out _).mono ?_); rintro e y9 ⟨rfl, hb9⟩; have HB9 := Lib.hid (H7.out.1.1.trans ((HB8.out.trans (hb9.mono HB8.out.size)).mono H7.out.1.1.size)); clear hb9))
  go_ret
  exact ⟨rfl, HB9.out⟩
end Go.Proofs.YtmhkmliebhbkdaaGreat

/- A table with rows that comes in. -/
namespace Go.Proofs.YtmhkmliebhbkdaaGreat
open Go.ChangeShapes Go.WideShapes Go.ChangeAt Go.RowKit Go.Deep

theorem cellsRe : Tryz.prog.cellsOf 34 = 12 := by kernel_rfl
theorem cells1R : Tryz.prog.cellsOf 32 = 1 := by kernel_rfl
theorem cells1V7 : Tryz.prog.cellsOf 47 = 1 := by kernel_rfl
theorem twelve {α : Type} {l : List α} (h : l.length = 12) : ∃ a b c d e f a' b' c' d' e' f', l = [a, b, c, d, e, f, a', b', c', d', e', f'] := by
  match l, h with
  | [a, b, c, d, e, f, a', b', c', d', e', f'], _ => exact ⟨a, b, c, d, e, f, a', b', c', d', e', f', rfl⟩
section
variable {H : Type} {enc : TypeId × Value → H} {w : World} {base : Nat} {spare : Nat → Bool} {held : Bool}
set_option maxRecDepth 100000 in
/-- Rows that read. -/
theorem rows_of {fuel : Nat} {v : Value} {x : DataW H × List MemPlace} (hf : DataW.trod enc Tryz.prog w base spare held fuel 32 [v] = some x) :
    ∃ (A : Option Addr) (n cap : Nat) (rows : List (List Vl)), v = .slice A n cap ∧ RowsIn w A n rows ∧ ∀ r ∈ rows, ∀ x ∈ r, In64 x.i := by
  rcases open_slice1 Tryz.underlying32 cells1V7 hf with h0 | ⟨a, n, cap, m, q, V, D, Pl, h1, _, h2, h3, hm, _, hat⟩
  · have h0 := h0.1
    simp only [List.cons.injEq, and_true] at h0
    subst h0
    exact ⟨none, 0, 0, [], rfl, ⟨rfl, by unfold maxLen; omega, fun j hj => absurd hj (by simp)⟩, fun r hr => by cases hr⟩
  · simp only [List.cons.injEq, and_true] at h1
    subst h1
    have hnm : n ≤ m := by rw [hm]; split <;> omega
    have each : ∀ i, i < n → ∃ r : List Vl, ∃ D m c, w.cell? (a.add i) = some (.slice D m c) ∧ m ≤ maxLen ∧ Vals w w.heap.size D m r ∧ (∀ x ∈ r, x.s.size ≤ maxLen) ∧ ∀ x ∈ r, In64 x.i := by
      intro i hi
      obtain ⟨c0, t0⟩ := hat i (by omega)
      obtain ⟨D, m', c', r, e, g1, g2, g3, g4⟩ := vrow_of t0
      exact ⟨r, D, m', c', c0.trans (congrArg some e), g1, g2, g3, g4⟩
    have hall : ∃ l : List (List Vl), l.length = n ∧ ∀ j (hj : j < l.length), ∃ D m c, w.cell? (a.add j) = some (.slice D m c) ∧ m ≤ maxLen ∧ Vals w w.heap.size D m l[j] ∧ (∀ x ∈ l[j], x.s.size ≤ maxLen) ∧ ∀ x ∈ l[j], In64 x.i := by
      refine ⟨(List.range n).map fun i => if h : i < n then Classical.choose (each i h) else [], by simp, fun j hj => ?_⟩
      have hj' : j < n := by simpa using hj
      rw [List.getElem_map, List.getElem_range, dif_pos hj']
      exact Classical.choose_spec (each j hj')
    obtain ⟨l, hl, hat'⟩ := hall
    refine ⟨some a, n, cap, l, rfl, ⟨hl, by omega, fun j hj => ?_⟩, fun r hr => ?_⟩
    · obtain ⟨D, m', c', h1, h2, h3, h4, _⟩ := hat' j hj
      exact ⟨a, D, m', c', rfl, h1, h2, h3, h4⟩
    · obtain ⟨j, hj, rfl⟩ := List.getElem_of_mem hr
      obtain ⟨D, m', c', _, _, _, _, h5⟩ := hat' j hj
      exact h5
set_option maxRecDepth 100000 in
/-- A table with rows that comes in. -/
theorem open_rel {r : Reach} {b0 : Nat} {v : Value} {d' : DataW H} {p' : List MemPlace} (hv : Value.okWide Tryz.prog w r b0 34 v) (h : DataW.Trod enc Tryz.prog w base spare held 34 v d' p') :
    ∃ (nm : ByteArray) (A : Option Addr) (n c : Nat) (key : Int) (U : Option Addr) (m cu : Nat) (R : Option Addr) (p cr : Nat) (op : ByteArray) (k i : Int) (vs s : ByteArray) (B : Option Addr) (q d : Nat) (Ar : Option Addr) (nr ca : Nat) (cols : List Cl) (us : List Int) (rs : List Rf) (rows : List (List Vl)),
      v = .agg #[.string nm, .slice A n c, .int .i64 key, .slice U m cu, .slice R p cr, .string op, .int .i64 k, .int .i64 i, .string vs, .string s, .slice B q d, .slice Ar nr ca] ∧ TbIn w nm A n c key U m cu R p cr op k i vs s B q d cols us rs ∧ RowsIn w Ar nr rows ∧ ∀ r ∈ rows, ∀ x ∈ r, In64 x.i := by
  obtain ⟨cs, rfl, _⟩ := okWide_struct Tryz.underlying34 hv
  obtain ⟨fuel, hf⟩ := h
  obtain ⟨xs, n', _, _, hl, hxl, hat⟩ := DataW.trod_struct Tryz.underlying34 hf
  rw [cellsRe] at hl
  obtain ⟨c0, c1, c2, c3, c4, c5, c6, c7, c8, c9, c10, c11, hcs⟩ := twelve hl
  have hx2 : xs.length = 2 := by rw [hxl]; rfl
  rw [hcs] at hat
  have g0 : DataW.trod enc Tryz.prog w base spare held n' 31 (([c0, c1, c2, c3, c4, c5, c6, c7, c8, c9, c10, c11].drop 0).take (Tryz.prog.cellsOf 31)) = some (xs[0]'(by omega)) := (hat 0 _ rfl).trans (List.getElem?_eq_getElem (by omega))
  have g1 : DataW.trod enc Tryz.prog w base spare held n' 32 (([c0, c1, c2, c3, c4, c5, c6, c7, c8, c9, c10, c11].drop 11).take (Tryz.prog.cellsOf 32)) = some (xs[1]'(by omega)) := (hat 1 _ rfl).trans (List.getElem?_eq_getElem (by omega))
  rw [cellsTb] at g0
  rw [cells1R] at g1
  simp only [List.drop_zero, List.drop_succ_cons, List.take_succ_cons, List.take_zero] at g0 g1
  obtain ⟨nm, A, n, c, key, U, m, cu, R, p, cr, op, k, i, vs, s, B, q, d, cols, us, rs, e, hT⟩ := table_of g0
  obtain ⟨Ar, nr, ca, rows, e2, hR, h64⟩ := rows_of g1
  refine ⟨nm, A, n, c, key, U, m, cu, R, p, cr, op, k, i, vs, s, B, q, d, Ar, nr, ca, cols, us, rs, rows, ?_, hT, hR, h64⟩
  obtain ⟨lst⟩ := cs
  have hl2 : lst = [c0, c1, c2, c3, c4, c5, c6, c7, c8, c9, c10, c11] := by simpa [Value.cells] using hcs
  rw [hl2]
  simp only [List.cons.injEq, and_true] at e
  obtain ⟨rfl, rfl, rfl, rfl, rfl, rfl, rfl, rfl, rfl, rfl, rfl⟩ := e
  subst e2
  rfl
end
theorem readsRe : Tryz.prog.readableRec 34 = true := by kernel_rfl
theorem rowRe : 34 < Tryz.prog.types.size := of_decide_eq_true (by kernel_rfl)
end Go.Proofs.YtmhkmliebhbkdaaGreat

/- RelBoth: for every input the law returns true, and the input reads behind the call as it did. No condition. -/
namespace Go.Proofs.YtmhkmliebhbkdaaGreat
open Go.ChangeShapes Go.WideShapes Go.ChangeAt Go.RowKit

theorem ownrelBoth : ownKnob Tryz.prog.godebug = none := by kernel_rfl
theorem readsExrelBoth : Tryz.prog.readableRec 29 = true := by kernel_rfl
theorem rowExrelBoth : 29 < Tryz.prog.types.size := of_decide_eq_true (by kernel_rfl)
set_option maxRecDepth 100000 in
theorem relBoth_lifted (os : Os) (started : os.Started) (H : Type) (enc : TypeId × Value → H) :
    ReturnsInHanded {} Tryz.checked os 6 .any (Rows.relBothSpec.pre6 enc Tryz.prog Tryz.f6 Rows.relBothRow.domain false) (Rows.relBothSpec.post enc Tryz.prog Tryz.f6 false true false false) := by
  refine returnsInHanded_of_change (C := Tryz.checked) ownrelBoth started (by kernel_rfl) Tryz.func6
    (ChangeSpec.witness6 (enc := enc) (C := Tryz.checked) false ⟨#[], #[.agg #[.string ⟨#[]⟩, .slice none 0 0, .int .i64 0, .slice none 0 0, .slice none 0 0, .string ⟨#[]⟩, .int .i64 0, .int .i64 0, .string ⟨#[]⟩, .string ⟨#[]⟩, .slice none 0 0, .slice none 0 0], .agg #[.string ⟨#[]⟩, .int .i64 0, .int .i64 0, .string ⟨#[]⟩, .string ⟨#[]⟩, .slice none 0 0], .agg #[.string ⟨#[]⟩, .int .i64 0, .int .i64 0, .string ⟨#[]⟩, .string ⟨#[]⟩, .slice none 0 0]], []⟩ 8 (by kernel_rfl) (by kernel_rfl) (by kernel_rfl) (by kernel_rfl)) ?_
  intro W base args ds gs before hval0 hW hcnd _
  have hval : ∀ (j : Nat) t v, Tryz.f6.params[j]? = some t → args[j]? = some v → Value.okWide Tryz.prog W .any base t v := hval0
  have hW' := hW
  have hlt : ∀ p ∈ before, p.block < W.heap.size := fun p hp => hW.lt p hp
  obtain ⟨p, q, hA0, hV, rfl, _, _⟩ := hW
  have hA : DataW.TrodAll enc Tryz.prog W 0 (fun _ => true) true Tryz.f6.params.toList args.toList ds p := hA0
  rw [Tryz.params6] at hA hval
  obtain ⟨v0, v1, v2, d0, d1, d2, p0, p1, p2, rfl, rfl, hpp, h0, h1, h2⟩ := trodAll_three hA
  obtain ⟨rfl, rfl⟩ := trodVars_none hV
  simp only [List.append_nil] at hW' hlt
  subst hpp
  obtain ⟨nm, A, n, c, key, U, m, cu, R, pp, cr, op, k, i, vs, s, B, qq, dd, Ar, nr, ca, cols, us, rs, rows, rfl, hT, hR, h64⟩ := open_rel (hval 0 34 v0 rfl rfl) h0
  obtain ⟨o1, k1, i1, x1, s1, u1, rfl, a10, a11, a12, a13, a14⟩ := open_expr (hval 1 29 v1 rfl rfl) h1
  obtain ⟨B1, q1, c1, rfl, _⟩ := (a14 14).form
  obtain ⟨o2, k2, i2, x2, s2, u2, rfl, a20, a21, a22, a23, a24⟩ := open_expr (hval 2 29 v2 rfl rfl) h2
  obtain ⟨B2, q2, c2, rfl, _⟩ := (a24 14).form
  clear hA0 hval0
  refine (law_both7 nm A n c key U m cu R pp cr op k i vs s B qq dd Ar nr ca cols us rs rows o1 k1 i1 x1 s1 B1 q1 c1 o2 k2 i2 x2 s2 B2 q2 c2 W hT hR h64 a10 a11 a12 a13 (a14 14) a20 a21 a22 a23 (a24 14)).mono fun e W' ⟨he, hb⟩ => ?_
  subst he
  refine ⟨_, rfl, _, _, _, [], p0 ++ (p1 ++ p2), [], hW', ?_, ?_, ?_, hb.frame _, fun h => by cases h⟩
  · exact trodAll_mk1 (shut_bool Tryz.underlying4 true)
  · exact trodAll_mk3 (Below.trod laidOutB_E readsRe rowRe h0 hb (fun x hx => hlt x (by simp [hx]))) (Below.trod laidOutB_E readsExrelBoth rowExrelBoth h1 hb (fun x hx => hlt x (by simp [hx]))) (Below.trod laidOutB_E readsExrelBoth rowExrelBoth h2 hb (fun x hx => hlt x (by simp [hx])))
  · rfl

theorem relBoth_holds : Rows.RelBothSaid :=
  OpenClaim.holds_of_wide 6 Tryz.f6 rfl rfl rfl rfl rfl rfl rfl ⟨rfl, rfl, rfl, rfl, rfl⟩ rfl rfl rfl rfl rfl (by kernel_rfl) Tryz.func6 (by kernel_rfl)
    (of_decide_eq_true (by kernel_rfl)) (by unfold Func.isWrapper; first | (rw [if_pos (by decide +kernel)]; kernel_rfl) | (rw [if_neg (by decide +kernel)]; exact ⟨rfl, rfl⟩))
    (fun os started H enc _ => relBoth_lifted os started H enc)
end Go.Proofs.YtmhkmliebhbkdaaGreat
