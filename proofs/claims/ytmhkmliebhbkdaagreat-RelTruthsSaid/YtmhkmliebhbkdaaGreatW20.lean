import Derived.Test.YtmhkmliebhbkdaaGreatW19
import Derived.Test.YtmhkmliebhbkdaaGreatW17
import Derived.Test.YtmhkmliebhbkdaaGreatW12
import Derived.Test.YtmhkmliebhbkdaaGreatW16

/- The law RelTruths. -/
namespace Go.Proofs.YtmhkmliebhbkdaaGreat
open Go.RowKit Go.Lib

theorem det1_load_row {P : Program} {o : Oper} {a : Act} {w : World} (ty : TypeId) (x : Operand) (ho : o.op = .load ty x)
    (g : Nat) (hx : a.eval x = .pointer (some ⟨g, 0, none⟩)) (t : TypeId) (cs : Array Value) (fr : Nat × Nat) (d : TypeDesc) (hg : w.heap[g]? = some (.cells cs t fr))
    (hu : P.underlying ty = some d) (hd : (match d with | .struct _ | .array _ _ => true | _ => false) = true) (hi : (P.info? ty).map (·.size) = some cs.size) : Det1 P (.agg cs) w ((execOp a.eval o).run P w) := by
  unfold execOp
  simp only [ho, hx, Instr.loadAt, Instr.sureAddr, Sem.run_bind, Sem.run_pure, Result.andThen_ok, run_loadVar_row w g t ty cs fr d hg hu hd hi]
  exact Det1_same
theorem exSize7 : (Tryz.prog.info? 29).map (·.size) = some 6 := by kernel_rfl
theorem ex_one7 (o : ByteArray) (k i : Int) (vs s : ByteArray) (A : Option Addr) (n c : Nat) : (#[.string o, .int .i64 k, .int .i64 i, .string vs, .string s, .slice A n c] : Array Value).all (·.oneCell') = true := by simp [Value.oneCell']
set_option maxRecDepth 100000 in
set_option maxHeartbeats 4000000 in
theorem lit_any (k i : Int) (s : ByteArray) (w : World) : Calls Tryz.prog 21 #[.agg #[.int .i64 k, .int .i64 i, .string s]] w fun e w' => e = .returned (.agg #[.string ⟨#[108, 105, 116]⟩, .int .i64 k, .int .i64 i, .string s, .string ⟨#[]⟩, .slice none 0 0]) ∧ Below w.heap.size w w' := by
  have hz : ((w.alloc (.cells #[.int .i64 k, .int .i64 i, .string s] 26)).alloc (.cells #[.string ⟨#[]⟩, .int .i64 0, .int .i64 0, .string ⟨#[]⟩, .string ⟨#[]⟩, .slice none 0 0] 29)).heap[w.heap.size + 1]? = some (.cells #[.string ⟨#[]⟩, .int .i64 0, .int .i64 0, .string ⟨#[]⟩, .string ⟨#[]⟩, .slice none 0 0] 29 (0, 0)) := alloc_at (by simp) _
  go_enter Tryz.func21, Tryz.ntmps21
  go_wp2_with (refine wpList_store_row rfl 29 (.tmp 2) (.tmp 4) rfl (w.heap.size + 1) #[.string ⟨#[108, 105, 116]⟩, .int .i64 k, .int .i64 i, .string s, .string ⟨#[]⟩, .slice none 0 0] rfl rfl 29 _ hz exSize7 rfl (ex_one7 _ _ _ _ _ _ _ _) ?_)
  refine bodyPost_ret (results_cell_row rfl _ _ (w.heap.size + 1) 29 #[.string ⟨#[108, 105, 116]⟩, .int .i64 k, .int .i64 i, .string s, .string ⟨#[]⟩, .slice none 0 0] (0, 0) _ rfl (setRow_heap _ _ _ _ _ _ hz) Tryz.underlying29 rfl exSize7) rfl ⟨rfl, below_row (((Below.refl _ _).alloc (Nat.le_refl _) _).alloc (by simp) _) _ (by omega)⟩
/-- Where's answer, without an error. -/
def tupR (rows : List (List Vl)) (u : Value) (F : List Nat) (w : World) : Prop := F = [] ∧ ∃ A n c, u = .tuple #[.slice A n c, .int .i64 0] ∧ RowsAt w (fun _ => False) A n rows
def slcR (rows : List (List Vl)) (u : Value) (F : List Nat) (w : World) : Prop := F = [] ∧ ∃ A n c, u = .slice A n c ∧ RowsAt w (fun _ => False) A n rows
theorem tupR_lasting {rows : List (List Vl)} : ∀ u F, Lasting (tupR rows u F) := by
  rintro u F w w' hb ⟨h0, A, n, c, h1, h2⟩
  exact ⟨h0, A, n, c, h1, h2.below hb⟩
theorem slcR_lasting {rows : List (List Vl)} : ∀ u F, Lasting (slcR rows u F) := by
  rintro u F w w' hb ⟨h0, A, n, c, h1, h2⟩
  exact ⟨h0, A, n, c, h1, h2.below hb⟩
theorem tupR_enter {P : Program} {w : World} {f : FuncId} {args : Array Value} {rows : List (List Vl)} (h : Calls P f args w fun e w' => ∃ v, e = .returned v ∧ tupR rows v [] w' ∧ Below w.heap.size w w') : Rel1 P (tupR rows) w (.ok (.enter f args) w) :=
  Calls.mono h fun e w' ⟨v, h1, h2, hb⟩ => ⟨v, [], h1, h2, (fun b hb' => by cases hb'), hb⟩
theorem tupR_same {P : Program} {w : World} {rows : List (List Vl)} {v : Value} (h : tupR rows v [] w) : Rel1 P (tupR rows) w (.ok (.value v) w) := ⟨[], h, by simp, Below.refl _ _⟩
theorem slcR_same {P : Program} {w : World} {rows : List (List Vl)} {v : Value} (h : slcR rows v [] w) : Rel1 P (slcR rows) w (.ok (.value v) w) := ⟨[], h, by simp, Below.refl _ _⟩
theorem slcR_of {P : Program} {w : World} {rows : List (List Vl)} {A : Option Addr} {n c : Nat} {x : Value} (h : tupR rows (.tuple #[.slice A n c, x]) [] w) : Rel1 P (slcR rows) w (.ok (.value (.slice A n c)) w) := by
  obtain ⟨_, A', n', c', e, h2⟩ := h
  injection e with e
  have e1 : Value.slice A n c = .slice A' n' c' := congrArg (fun a : Array Value => a.getD 0 undef) e
  injection e1 with e1 e2 e3
  subst e1 e2 e3
  exact ⟨[], ⟨rfl, A, n, c, rfl, h2⟩, by simp, Below.refl _ _⟩
theorem where_true {cols : List Cl} {rows : List (List Vl)} : whereR cols rows (.mk ⟨#[108, 105, 116]⟩ ⟨3, 1, ⟨#[]⟩⟩ ⟨#[]⟩ []) = (rows, 0) := by
  have h1 : typT cols (.mk ⟨#[108, 105, 116]⟩ ⟨3, 1, ⟨#[]⟩⟩ ⟨#[]⟩ []) = (3, 0) := by kernel_rfl
  have h2 : ∀ r, trueB (evalT cols r (.mk ⟨#[108, 105, 116]⟩ ⟨3, 1, ⟨#[]⟩⟩ ⟨#[]⟩ [])) = true := fun r => by kernel_rfl
  unfold whereR
  rw [if_neg (by show ¬ (⟨#[108, 105, 116]⟩ : ByteArray).toList = []; rw [toList_data]; simp), h1, if_pos rfl, if_pos (.inl rfl)]
  simp [h2]
theorem where_false {cols : List Cl} {rows : List (List Vl)} : whereR cols rows (.mk ⟨#[108, 105, 116]⟩ ⟨3, 0, ⟨#[]⟩⟩ ⟨#[]⟩ []) = ([], 0) := by
  have h1 : typT cols (.mk ⟨#[108, 105, 116]⟩ ⟨3, 0, ⟨#[]⟩⟩ ⟨#[]⟩ []) = (3, 0) := by kernel_rfl
  have h2 : ∀ r, trueB (evalT cols r (.mk ⟨#[108, 105, 116]⟩ ⟨3, 0, ⟨#[]⟩⟩ ⟨#[]⟩ [])) = false := fun r => by kernel_rfl
  unfold whereR
  rw [if_neg (by show ¬ (⟨#[108, 105, 116]⟩ : ByteArray).toList = []; rw [toList_data]; simp), h1, if_pos rfl, if_pos (.inl rfl)]
  simp [h2]
theorem where_null {cols : List Cl} {rows : List (List Vl)} : whereR cols rows (.mk ⟨#[108, 105, 116]⟩ ⟨0, 0, ⟨#[]⟩⟩ ⟨#[]⟩ []) = ([], 0) := by
  have h1 : typT cols (.mk ⟨#[108, 105, 116]⟩ ⟨0, 0, ⟨#[]⟩⟩ ⟨#[]⟩ []) = (0, 0) := by kernel_rfl
  have h2 : ∀ r, trueB (evalT cols r (.mk ⟨#[108, 105, 116]⟩ ⟨0, 0, ⟨#[]⟩⟩ ⟨#[]⟩ [])) = false := fun r => by kernel_rfl
  unfold whereR
  rw [if_neg (by show ¬ (⟨#[108, 105, 116]⟩ : ByteArray).toList = []; rw [toList_data]; simp), h1, if_pos rfl, if_pos (.inr rfl)]
  simp [h2]
theorem where_none {cols : List Cl} {rows : List (List Vl)} : whereR cols rows (.mk ⟨#[]⟩ ⟨0, 0, ⟨#[]⟩⟩ ⟨#[]⟩ []) = (rows, 0) := by
  unfold whereR
  rw [if_pos (by show (⟨#[]⟩ : ByteArray).toList = []; rw [toList_data])]
theorem RowsAt.row7 {W : World} {g B1 : Nat} {A : Option Addr} {n : Nat} {rows : List (List Vl)} (h : RowsAt W (fun b => b < B1) A n rows) (hA : ∀ a, A = some a → n = 0 ∨ B1 ≤ a.block) (hg : g < B1) (cs : Array Value) : RowsAt (W.setRow g cs) (fun b => b < B1) A n rows :=
  ⟨h.1, h.2.1, fun j hj => by
    obtain ⟨a, D, m, c, e, hc, h1, h2, h3, h4⟩ := h.2.2 j hj
    have hn := h.1
    refine ⟨a, D, m, c, e, ?_, h1, h2, ?_, h4⟩
    · rcases hA a e with h0 | h0
      · omega
      · exact (World.cell?_of_block (w := W) (a := a.add j) (setRow_other _ _ _ _ (by rw [add_block]; omega))).trans hc
    · exact h3.same (by rw [setRow_size]; exact Nat.le_refl _) fun a' e' => (h4 a' e').imp id fun k => setRow_other _ _ _ _ (by omega)⟩
theorem slcR.len {rows : List (List Vl)} {A : Option Addr} {n c : Nat} {F : List Nat} {w : World} (h : slcR rows (.slice A n c) F w) : rows.length = n ∧ RowsAt w (fun _ => False) A n rows := by
  obtain ⟨_, A', n', c', e, h2⟩ := h
  injection e with e1 e2 e3
  subst e1 e2 e3
  exact ⟨h2.1, h2⟩
set_option maxRecDepth 100000 in
set_option maxHeartbeats 4000000 in
theorem law_truths7 (nm : ByteArray) (A : Option Addr) (n c : Nat) (key : Int) (U : Option Addr) (m cu : Nat) (R : Option Addr) (p cr : Nat) (op : ByteArray) (k i : Int) (vs s : ByteArray) (B : Option Addr) (q d : Nat) (Ar : Option Addr) (nr ca : Nat) (cols : List Cl) (us : List Int) (rs : List Rf) (rows : List (List Vl)) (w : World) (ht : TbIn w nm A n c key U m cu R p cr op k i vs s B q d cols us rs) (hr : RowsIn w Ar nr rows) :
    Calls Tryz.prog 7 #[.agg #[.string nm, .slice A n c, .int .i64 key, .slice U m cu, .slice R p cr, .string op, .int .i64 k, .int .i64 i, .string vs, .string s, .slice B q d, .slice Ar nr ca]] w fun e w' => e = .returned (.bool true) ∧ Below w.heap.size w w' := by
  have HFE : Hid (∀ W, Below w.heap.size w W → Calls Tryz.prog 9 #[.agg #[.string nm, .slice A n c, .int .i64 key, .slice U m cu, .slice R p cr, .string op, .int .i64 k, .int .i64 i, .string vs, .string s, .slice B q d, .slice Ar nr ca]] W fun e w' => (∃ v, e = .returned v ∧ RelR w' W.heap.size v) ∧ Below W.heap.size W w') := Lib.hid fun W hW => few7_any nm A n c key U m cu R p cr op k i vs s B q d Ar nr ca cols us rs rows W (ht.at7 hW) (hr.below hW)
  clear ht hr
  go_enter Tryz.func7, Tryz.ntmps7
  go_upto_region 1 with (fail)
  refine wp_gen (fun W => Below w.heap.size w W ∧ W.heap[w.heap.size]? = some (.cells #[.string nm, .slice A n c, .int .i64 key, .slice U m cu, .slice R p cr, .string op, .int .i64 k, .int .i64 i, .string vs, .string s, .slice B q d, .slice Ar nr ca] 34 (0, 0))) ⟨(Below.refl _ _).alloc (Nat.le_refl _) _, alloc_at rfl _⟩ fun w1 hw1 => ?_
  have H1 := Lib.hid hw1
  have hz1 := lt_of_block hw1.2
  clear hw1
  go_upto_region 2 with (first
    | (refine wpList_load_row rfl 34 (.tmp 1) rfl w.heap.size rfl 34 #[.string nm, .slice A n c, .int .i64 key, .slice U m cu, .slice R p cr, .string op, .int .i64 k, .int .i64 i, .string vs, .string s, .slice B q d, .slice Ar nr ca] (0, 0) _ H1.out.2 Tryz.underlying34 rfl relSize ?_)
    | (go_at_call 9; (with_reducible refine (HFE.out _ H1.out.1).mono ?_); rintro e x1 ⟨⟨v, rfl, hR⟩, hb1⟩; unfold RelR at hR; obtain ⟨nm', A', n', c', key', U', m', cu', R', p', cr', op', k', i', vs', s', B', q', d', cols', us', rs', l', Ar', nr', ca', rows', rfl, t1, t2, t3, t4, t5, t6, t7, t8⟩ := hR; have hbx1 := (hb1.block _ hz1).trans H1.out.2; have HX := Lib.hid (And.intro (And.intro t1 (And.intro t2 (And.intro t3 t4))) (And.intro t7 t8)); have HN := Lib.hid t5; have HB1 := Lib.hid hb1; clear t1 t2 t3 t4 t5 t6 t7 t8 hb1)
    | (refine wpList_store_row rfl 34 (.tmp 1) (.tmp 13) rfl w.heap.size #[.string nm', .slice A' n' c', .int .i64 key', .slice U' m' cu', .slice R' p' cr', .string op', .int .i64 k', .int .i64 i', .string vs', .string s', .slice B' q' d', .slice Ar' nr' ca'] rfl rfl 34 _ hbx1 relSize rfl (rel_one _ _ _ _ _ _ _ _ _ _ _ _ _ _ _ _ _ _ _ _ _ _) ?_))
  refine wp_gen (fun W => Below w.heap.size w W ∧ TbS W nm' A' n' c' key' U' m' cu' R' p' cr' op' k' i' vs' s' B' q' d' cols' us' rs' l' (fun b => w1.heap.size ≤ b) 14 ∧ RowsAt W (fun b => b < w1.heap.size) Ar' nr' rows' ∧ W.heap[w.heap.size]? = some (.cells #[.string nm', .slice A' n' c', .int .i64 key', .slice U' m' cu', .slice R' p' cr', .string op', .int .i64 k', .int .i64 i', .string vs', .string s', .slice B' q' d', .slice Ar' nr' ca'] 34 (0, 0))) ⟨below_row (H1.out.1.trans (HB1.out.mono H1.out.1.size)) _ (Nat.le_refl _), HX.out.1.1.away7 HX.out.1.2.1 HX.out.1.2.2.1 HX.out.1.2.2.2 (fun b hb => setRow_other _ _ _ _ (by omega)), HX.out.2.1.row7 HX.out.2.2 hz1 _, setRow_heap _ _ _ _ _ _ hbx1⟩ fun w2 hw2 => ?_
  have H2 := Lib.hid hw2
  have H2b := lt_of_block hw2.2.2.2
  clear hw2 hbx1 HX HB1 H1
  go_upto_region 3 with (fail)
  have HW2 : Hid (∀ W, Below w2.heap.size w2 W → Calls Tryz.prog 14 #[.agg #[.string nm', .slice A' n' c', .int .i64 key', .slice U' m' cu', .slice R' p' cr', .string op', .int .i64 k', .int .i64 i', .string vs', .string s', .slice B' q' d', .slice Ar' nr' ca'], .agg #[.string ⟨#[108, 105, 116]⟩, .int .i64 3, .int .i64 1, .string ⟨#[]⟩, .string ⟨#[]⟩, .slice none 0 0]] W fun e w' => ∃ v, e = .returned v ∧ tupR rows' v [] w' ∧ Below W.heap.size W w') := Lib.hid fun W hW => by
    refine Calls.mono (where_any nm' A' n' c' key' U' m' cu' R' p' cr' op' k' i' vs' s' B' q' d' Ar' nr' ca' cols' rows' _ ⟨#[108, 105, 116]⟩ 3 1 ⟨#[]⟩ ⟨#[]⟩ none 0 0 [] (fun _ => True) 0 W (H2.out.2.1.hcols.below hW) HN.out (H2.out.2.2.1.below hW) (leaf_tr W _ 0 _ _ _ (by decide))) ?_
    rintro e w' ⟨A9, n9, c9, he, h1, h2, h3⟩
    rw [where_true] at he h2
    exact ⟨_, he, ⟨rfl, A9, n9, c9, rfl, h2⟩, h3⟩
  refine detL_begin [.val (.agg #[.string nm', .slice A' n' c', .int .i64 key', .slice U' m' cu', .slice R' p' cr', .string op', .int .i64 k', .int .i64 i', .string vs', .string s', .slice B' q' d', .slice Ar' nr' ca']), .val (.func (.func 21) #[] #[]), .val (.agg #[.int .i64 3, .int .i64 1, .string ⟨#[]⟩]), .val (.agg #[.string ⟨#[108, 105, 116]⟩, .int .i64 3, .int .i64 1, .string ⟨#[]⟩, .string ⟨#[]⟩, .slice none 0 0]), .rel (tupR rows'), .rel (tupR rows'), .rel (slcR rows'), .val (.int .i64 0), .rel (slcR rows'), .val (.int .i64 0)] 10 (by kernel_rfl) ?_
  refine detL_val (by kernel_rfl) (yields_of rfl fun w5 hb5 => det1_load_row 34 (.tmp 1) rfl w.heap.size rfl 34 _ (0, 0) _ ((hb5.block w.heap.size H2b).trans H2.out.2.2.2) Tryz.underlying34 rfl relSize) ?_
  simp only [Act.put, List.setIfInBounds_toArray, List.set_cons_zero, List.set_cons_succ]
  refine detL_val (by kernel_rfl) (yields_of rfl fun w5 hb5 => ?_) ?_
  · have HBx := Lib.hid ((Below.refl w2.heap.size w2).drew.trans hb5)
    clear hb5
    go_simp
    exact Det1_same
  simp only [Act.put, List.setIfInBounds_toArray, List.set_cons_zero, List.set_cons_succ]
  refine detL_val (by kernel_rfl) (yields_of rfl fun w5 hb5 => ?_) ?_
  · have HBx := Lib.hid ((Below.refl w2.heap.size w2).drew.trans hb5)
    clear hb5
    go_simp
    exact Det1_same
  simp only [Act.put, List.setIfInBounds_toArray, List.set_cons_zero, List.set_cons_succ]
  refine detL_val (by kernel_rfl) (yields_of rfl fun w5 hb5 => ?_) ?_
  · have HBx := Lib.hid ((Below.refl w2.heap.size w2).drew.trans hb5)
    clear hb5
    go_simp
    exact Det1_enter (lit_any 3 1 ⟨#[]⟩ w5)
  simp only [Act.put, List.setIfInBounds_toArray, List.set_cons_zero, List.set_cons_succ]
  refine detL_rel (by kernel_rfl) (yields_rel (by rfl) tupR_lasting fun w5 hw5 => ?_) ?_
  · have hb5 := hw5.below
    have HBx := Lib.hid ((Below.refl w2.heap.size w2).drew.trans hb5)
    skip
    clear hb5 hw5
    go_simp
    exact tupR_enter (HW2.out w5 HBx.out)
  rintro v G9 w5 hw5
  have qq : tupR rows' v G9 w5 := (hw5.ents _ List.mem_cons_self).1
  clear hw5
  unfold tupR at qq
  obtain ⟨rfl, a1, n1, c1, rfl, -⟩ := qq
  simp only [Act.put, List.setIfInBounds_toArray, List.set_cons_zero, List.set_cons_succ]
  refine detL_rel (by kernel_rfl) (yields_rel (by rfl) tupR_lasting fun w5 hw5 => ?_) ?_
  · have hb5 := hw5.below
    have HBx := Lib.hid ((Below.refl w2.heap.size w2).drew.trans hb5)
    have q7 : tupR rows' (.tuple #[.slice a1 n1 c1, .int .i64 0]) [] w5 := (hw5.ents _ (List.mem_filter.2 ⟨List.mem_cons_self, (by first | kernel_rfl | simp [depB, Region.binds] | decide)⟩)).1
    clear hb5 hw5
    go_simp
    exact tupR_same q7
  rintro v G9 w5 hw5
  have qq : tupR rows' v G9 w5 := (hw5.ents _ List.mem_cons_self).1
  clear hw5
  unfold tupR at qq
  obtain ⟨rfl, a2, n2, c2, rfl, -⟩ := qq
  simp only [Act.put, List.setIfInBounds_toArray, List.set_cons_zero, List.set_cons_succ]
  refine detL_rel (by kernel_rfl) (yields_rel (by rfl) slcR_lasting fun w5 hw5 => ?_) ?_
  · have hb5 := hw5.below
    have HBx := Lib.hid ((Below.refl w2.heap.size w2).drew.trans hb5)
    have q7 : tupR rows' (.tuple #[.slice a2 n2 c2, .int .i64 0]) [] w5 := (hw5.ents _ (List.mem_filter.2 ⟨List.mem_cons_self, (by first | kernel_rfl | simp [depB, Region.binds] | decide)⟩)).1
    clear hb5 hw5
    go_simp
    exact slcR_of q7
  rintro v G9 w5 hw5
  have qq : slcR rows' v G9 w5 := (hw5.ents _ List.mem_cons_self).1
  clear hw5
  unfold slcR at qq
  obtain ⟨rfl, a3, n3, c3, rfl, -⟩ := qq
  simp only [Act.put, List.setIfInBounds_toArray, List.set_cons_zero, List.set_cons_succ]
  refine detL_val (by kernel_rfl) (yields_of rfl fun w5 hb5 => ?_) ?_
  · have HBx := Lib.hid ((Below.refl w2.heap.size w2).drew.trans hb5)
    clear hb5
    go_simp
    exact Det1_same
  simp only [Act.put, List.setIfInBounds_toArray, List.set_cons_zero, List.set_cons_succ]
  refine detL_rel (by kernel_rfl) (yields_rel (by rfl) slcR_lasting fun w5 hw5 => ?_) ?_
  · have hb5 := hw5.below
    have HBx := Lib.hid ((Below.refl w2.heap.size w2).drew.trans hb5)
    have q7 : slcR rows' (.slice a3 n3 c3) [] w5 := (hw5.ents _ (List.mem_filter.2 ⟨List.mem_cons_self, (by first | kernel_rfl | simp [depB, Region.binds] | decide)⟩)).1
    clear hb5 hw5
    go_simp
    exact slcR_same q7
  rintro v G9 w5 hw5
  have qq : slcR rows' v G9 w5 := (hw5.ents _ List.mem_cons_self).1
  clear hw5
  unfold slcR at qq
  obtain ⟨rfl, D2, e2, f2, rfl, -⟩ := qq
  simp only [Act.put, List.setIfInBounds_toArray, List.set_cons_zero, List.set_cons_succ]
  refine detL_val (by kernel_rfl) (yields_of rfl fun w5 hb5 => ?_) ?_
  · have HBx := Lib.hid ((Below.refl w2.heap.size w2).drew.trans hb5)
    clear hb5
    go_simp
    exact Det1_same
  simp only [Act.put, List.setIfInBounds_toArray, List.set_cons_zero, List.set_cons_succ]
  refine detL_done (by kernel_rfl) fun z2 hz2 => ?_
  have q2 : slcR rows' (.slice D2 e2 f2) [] z2 := (hz2.ents _ List.mem_cons_self).1
  have hbel2 : Below w2.heap.size w2 z2 := (Below.refl _ _).drew.trans hz2.below
  clear hz2
  go_upto_region 4 with (fail)
  refine wp_gen (fun W => Below w.heap.size w W ∧ TbS W nm' A' n' c' key' U' m' cu' R' p' cr' op' k' i' vs' s' B' q' d' cols' us' rs' l' (fun b => w1.heap.size ≤ b) 14 ∧ RowsAt W (fun b => b < w1.heap.size) Ar' nr' rows' ∧ W.heap[w.heap.size]? = some (.cells #[.string nm', .slice A' n' c', .int .i64 key', .slice U' m' cu', .slice R' p' cr', .string op', .int .i64 k', .int .i64 i', .string vs', .string s', .slice B' q' d', .slice Ar' nr' ca'] 34 (0, 0)) ∧ RowsAt W (fun _ => False) D2 e2 rows') ⟨H2.out.1.trans (hbel2.mono H2.out.1.size), H2.out.2.1.below hbel2, H2.out.2.2.1.below hbel2, (hbel2.block _ H2b).trans H2.out.2.2.2, q2.len.2⟩ fun w3 hw3 => ?_
  have H3 := Lib.hid hw3
  have H3b := lt_of_block hw3.2.2.2.1
  clear hw3 q2 hbel2 H2 H2b HW2
  have HW3 : Hid (∀ W, Below w3.heap.size w3 W → Calls Tryz.prog 14 #[.agg #[.string nm', .slice A' n' c', .int .i64 key', .slice U' m' cu', .slice R' p' cr', .string op', .int .i64 k', .int .i64 i', .string vs', .string s', .slice B' q' d', .slice Ar' nr' ca'], .agg #[.string ⟨#[108, 105, 116]⟩, .int .i64 3, .int .i64 0, .string ⟨#[]⟩, .string ⟨#[]⟩, .slice none 0 0]] W fun e w' => ∃ v, e = .returned v ∧ tupR [] v [] w' ∧ Below W.heap.size W w') := Lib.hid fun W hW => by
    refine Calls.mono (where_any nm' A' n' c' key' U' m' cu' R' p' cr' op' k' i' vs' s' B' q' d' Ar' nr' ca' cols' rows' _ ⟨#[108, 105, 116]⟩ 3 0 ⟨#[]⟩ ⟨#[]⟩ none 0 0 [] (fun _ => True) 0 W (H3.out.2.1.hcols.below hW) HN.out (H3.out.2.2.1.below hW) (leaf_tr W _ 0 _ _ _ (by decide))) ?_
    rintro e w' ⟨A9, n9, c9, he, h1, h2, h3⟩
    rw [where_false] at he h2
    exact ⟨_, he, ⟨rfl, A9, n9, c9, rfl, h2⟩, h3⟩
  refine detL_begin [.val (.agg #[.string nm', .slice A' n' c', .int .i64 key', .slice U' m' cu', .slice R' p' cr', .string op', .int .i64 k', .int .i64 i', .string vs', .string s', .slice B' q' d', .slice Ar' nr' ca']), .val (.func (.func 21) #[] #[]), .val (.agg #[.int .i64 3, .int .i64 0, .string ⟨#[]⟩]), .val (.agg #[.string ⟨#[108, 105, 116]⟩, .int .i64 3, .int .i64 0, .string ⟨#[]⟩, .string ⟨#[]⟩, .slice none 0 0]), .rel (tupR []), .rel (tupR []), .rel (slcR []), .val (.int .i64 0), .rel (slcR []), .val (.int .i64 0)] 10 (by kernel_rfl) ?_
  refine detL_val (by kernel_rfl) (yields_of rfl fun w5 hb5 => det1_load_row 34 (.tmp 1) rfl w.heap.size rfl 34 _ (0, 0) _ ((hb5.block w.heap.size H3b).trans H3.out.2.2.2.1) Tryz.underlying34 rfl relSize) ?_
  simp only [Act.put, List.setIfInBounds_toArray, List.set_cons_zero, List.set_cons_succ]
  refine detL_val (by kernel_rfl) (yields_of rfl fun w5 hb5 => ?_) ?_
  · have HBx := Lib.hid ((Below.refl w3.heap.size w3).drew.trans hb5)
    clear hb5
    go_simp
    exact Det1_same
  simp only [Act.put, List.setIfInBounds_toArray, List.set_cons_zero, List.set_cons_succ]
  refine detL_val (by kernel_rfl) (yields_of rfl fun w5 hb5 => ?_) ?_
  · have HBx := Lib.hid ((Below.refl w3.heap.size w3).drew.trans hb5)
    clear hb5
    go_simp
    exact Det1_same
  simp only [Act.put, List.setIfInBounds_toArray, List.set_cons_zero, List.set_cons_succ]
  refine detL_val (by kernel_rfl) (yields_of rfl fun w5 hb5 => ?_) ?_
  · have HBx := Lib.hid ((Below.refl w3.heap.size w3).drew.trans hb5)
    clear hb5
    go_simp
    exact Det1_enter (lit_any 3 0 ⟨#[]⟩ w5)
  simp only [Act.put, List.setIfInBounds_toArray, List.set_cons_zero, List.set_cons_succ]
  refine detL_rel (by kernel_rfl) (yields_rel (by rfl) tupR_lasting fun w5 hw5 => ?_) ?_
  · have hb5 := hw5.below
    have HBx := Lib.hid ((Below.refl w3.heap.size w3).drew.trans hb5)
    skip
    clear hb5 hw5
    go_simp
    exact tupR_enter (HW3.out w5 HBx.out)
  rintro v G9 w5 hw5
  have qq : tupR [] v G9 w5 := (hw5.ents _ List.mem_cons_self).1
  clear hw5
  unfold tupR at qq
  obtain ⟨rfl, a1, n1, c1, rfl, -⟩ := qq
  simp only [Act.put, List.setIfInBounds_toArray, List.set_cons_zero, List.set_cons_succ]
  refine detL_rel (by kernel_rfl) (yields_rel (by rfl) tupR_lasting fun w5 hw5 => ?_) ?_
  · have hb5 := hw5.below
    have HBx := Lib.hid ((Below.refl w3.heap.size w3).drew.trans hb5)
    have q7 : tupR [] (.tuple #[.slice a1 n1 c1, .int .i64 0]) [] w5 := (hw5.ents _ (List.mem_filter.2 ⟨List.mem_cons_self, (by first | kernel_rfl | simp [depB, Region.binds] | decide)⟩)).1
    clear hb5 hw5
    go_simp
    exact tupR_same q7
  rintro v G9 w5 hw5
  have qq : tupR [] v G9 w5 := (hw5.ents _ List.mem_cons_self).1
  clear hw5
  unfold tupR at qq
  obtain ⟨rfl, a2, n2, c2, rfl, -⟩ := qq
  simp only [Act.put, List.setIfInBounds_toArray, List.set_cons_zero, List.set_cons_succ]
  refine detL_rel (by kernel_rfl) (yields_rel (by rfl) slcR_lasting fun w5 hw5 => ?_) ?_
  · have hb5 := hw5.below
    have HBx := Lib.hid ((Below.refl w3.heap.size w3).drew.trans hb5)
    have q7 : tupR [] (.tuple #[.slice a2 n2 c2, .int .i64 0]) [] w5 := (hw5.ents _ (List.mem_filter.2 ⟨List.mem_cons_self, (by first | kernel_rfl | simp [depB, Region.binds] | decide)⟩)).1
    clear hb5 hw5
    go_simp
    exact slcR_of q7
  rintro v G9 w5 hw5
  have qq : slcR [] v G9 w5 := (hw5.ents _ List.mem_cons_self).1
  clear hw5
  unfold slcR at qq
  obtain ⟨rfl, a3, n3, c3, rfl, -⟩ := qq
  simp only [Act.put, List.setIfInBounds_toArray, List.set_cons_zero, List.set_cons_succ]
  refine detL_val (by kernel_rfl) (yields_of rfl fun w5 hb5 => ?_) ?_
  · have HBx := Lib.hid ((Below.refl w3.heap.size w3).drew.trans hb5)
    clear hb5
    go_simp
    exact Det1_same
  simp only [Act.put, List.setIfInBounds_toArray, List.set_cons_zero, List.set_cons_succ]
  refine detL_rel (by kernel_rfl) (yields_rel (by rfl) slcR_lasting fun w5 hw5 => ?_) ?_
  · have hb5 := hw5.below
    have HBx := Lib.hid ((Below.refl w3.heap.size w3).drew.trans hb5)
    have q7 : slcR [] (.slice a3 n3 c3) [] w5 := (hw5.ents _ (List.mem_filter.2 ⟨List.mem_cons_self, (by first | kernel_rfl | simp [depB, Region.binds] | decide)⟩)).1
    clear hb5 hw5
    go_simp
    exact slcR_same q7
  rintro v G9 w5 hw5
  have qq : slcR [] v G9 w5 := (hw5.ents _ List.mem_cons_self).1
  clear hw5
  unfold slcR at qq
  obtain ⟨rfl, D3, e3, f3, rfl, -⟩ := qq
  simp only [Act.put, List.setIfInBounds_toArray, List.set_cons_zero, List.set_cons_succ]
  refine detL_val (by kernel_rfl) (yields_of rfl fun w5 hb5 => ?_) ?_
  · have HBx := Lib.hid ((Below.refl w3.heap.size w3).drew.trans hb5)
    clear hb5
    go_simp
    exact Det1_same
  simp only [Act.put, List.setIfInBounds_toArray, List.set_cons_zero, List.set_cons_succ]
  refine detL_done (by kernel_rfl) fun z3 hz3 => ?_
  have q3 : slcR [] (.slice D3 e3 f3) [] z3 := (hz3.ents _ List.mem_cons_self).1
  have hbel3 : Below w3.heap.size w3 z3 := (Below.refl _ _).drew.trans hz3.below
  clear hz3
  obtain rfl : 0 = e3 := q3.len.1
  go_upto_region 5 with (fail)
  refine wp_gen (fun W => Below w.heap.size w W ∧ TbS W nm' A' n' c' key' U' m' cu' R' p' cr' op' k' i' vs' s' B' q' d' cols' us' rs' l' (fun b => w1.heap.size ≤ b) 14 ∧ RowsAt W (fun b => b < w1.heap.size) Ar' nr' rows' ∧ W.heap[w.heap.size]? = some (.cells #[.string nm', .slice A' n' c', .int .i64 key', .slice U' m' cu', .slice R' p' cr', .string op', .int .i64 k', .int .i64 i', .string vs', .string s', .slice B' q' d', .slice Ar' nr' ca'] 34 (0, 0)) ∧ RowsAt W (fun _ => False) D2 e2 rows') ⟨H3.out.1.trans (hbel3.mono H3.out.1.size), H3.out.2.1.below hbel3, H3.out.2.2.1.below hbel3, (hbel3.block _ H3b).trans H3.out.2.2.2.1, H3.out.2.2.2.2.below hbel3⟩ fun w4 hw4 => ?_
  have H4 := Lib.hid hw4
  have H4b := lt_of_block hw4.2.2.2.1
  clear hw4 q3 hbel3 H3 H3b HW3
  have HW4 : Hid (∀ W, Below w4.heap.size w4 W → Calls Tryz.prog 14 #[.agg #[.string nm', .slice A' n' c', .int .i64 key', .slice U' m' cu', .slice R' p' cr', .string op', .int .i64 k', .int .i64 i', .string vs', .string s', .slice B' q' d', .slice Ar' nr' ca'], .agg #[.string ⟨#[108, 105, 116]⟩, .int .i64 0, .int .i64 0, .string ⟨#[]⟩, .string ⟨#[]⟩, .slice none 0 0]] W fun e w' => ∃ v, e = .returned v ∧ tupR [] v [] w' ∧ Below W.heap.size W w') := Lib.hid fun W hW => by
    refine Calls.mono (where_any nm' A' n' c' key' U' m' cu' R' p' cr' op' k' i' vs' s' B' q' d' Ar' nr' ca' cols' rows' _ ⟨#[108, 105, 116]⟩ 0 0 ⟨#[]⟩ ⟨#[]⟩ none 0 0 [] (fun _ => True) 0 W (H4.out.2.1.hcols.below hW) HN.out (H4.out.2.2.1.below hW) (leaf_tr W _ 0 _ _ _ (by decide))) ?_
    rintro e w' ⟨A9, n9, c9, he, h1, h2, h3⟩
    rw [where_null] at he h2
    exact ⟨_, he, ⟨rfl, A9, n9, c9, rfl, h2⟩, h3⟩
  refine detL_begin [.val (.agg #[.string nm', .slice A' n' c', .int .i64 key', .slice U' m' cu', .slice R' p' cr', .string op', .int .i64 k', .int .i64 i', .string vs', .string s', .slice B' q' d', .slice Ar' nr' ca']), .val (.func (.func 21) #[] #[]), .val (.agg #[.int .i64 0, .int .i64 0, .string ⟨#[]⟩]), .val (.agg #[.string ⟨#[108, 105, 116]⟩, .int .i64 0, .int .i64 0, .string ⟨#[]⟩, .string ⟨#[]⟩, .slice none 0 0]), .rel (tupR []), .rel (tupR []), .rel (slcR []), .val (.int .i64 0), .rel (slcR []), .val (.int .i64 0)] 10 (by kernel_rfl) ?_
  refine detL_val (by kernel_rfl) (yields_of rfl fun w5 hb5 => det1_load_row 34 (.tmp 1) rfl w.heap.size rfl 34 _ (0, 0) _ ((hb5.block w.heap.size H4b).trans H4.out.2.2.2.1) Tryz.underlying34 rfl relSize) ?_
  simp only [Act.put, List.setIfInBounds_toArray, List.set_cons_zero, List.set_cons_succ]
  refine detL_val (by kernel_rfl) (yields_of rfl fun w5 hb5 => ?_) ?_
  · have HBx := Lib.hid ((Below.refl w4.heap.size w4).drew.trans hb5)
    clear hb5
    go_simp
    exact Det1_same
  simp only [Act.put, List.setIfInBounds_toArray, List.set_cons_zero, List.set_cons_succ]
  refine detL_val (by kernel_rfl) (yields_of rfl fun w5 hb5 => ?_) ?_
  · have HBx := Lib.hid ((Below.refl w4.heap.size w4).drew.trans hb5)
    clear hb5
    go_simp
    exact Det1_same
  simp only [Act.put, List.setIfInBounds_toArray, List.set_cons_zero, List.set_cons_succ]
  refine detL_val (by kernel_rfl) (yields_of rfl fun w5 hb5 => ?_) ?_
  · have HBx := Lib.hid ((Below.refl w4.heap.size w4).drew.trans hb5)
    clear hb5
    go_simp
    exact Det1_enter (lit_any 0 0 ⟨#[]⟩ w5)
  simp only [Act.put, List.setIfInBounds_toArray, List.set_cons_zero, List.set_cons_succ]
  refine detL_rel (by kernel_rfl) (yields_rel (by rfl) tupR_lasting fun w5 hw5 => ?_) ?_
  · have hb5 := hw5.below
    have HBx := Lib.hid ((Below.refl w4.heap.size w4).drew.trans hb5)
    skip
    clear hb5 hw5
    go_simp
    exact tupR_enter (HW4.out w5 HBx.out)
  rintro v G9 w5 hw5
  have qq : tupR [] v G9 w5 := (hw5.ents _ List.mem_cons_self).1
  clear hw5
  unfold tupR at qq
  obtain ⟨rfl, a1, n1, c1, rfl, -⟩ := qq
  simp only [Act.put, List.setIfInBounds_toArray, List.set_cons_zero, List.set_cons_succ]
  refine detL_rel (by kernel_rfl) (yields_rel (by rfl) tupR_lasting fun w5 hw5 => ?_) ?_
  · have hb5 := hw5.below
    have HBx := Lib.hid ((Below.refl w4.heap.size w4).drew.trans hb5)
    have q7 : tupR [] (.tuple #[.slice a1 n1 c1, .int .i64 0]) [] w5 := (hw5.ents _ (List.mem_filter.2 ⟨List.mem_cons_self, (by first | kernel_rfl | simp [depB, Region.binds] | decide)⟩)).1
    clear hb5 hw5
    go_simp
    exact tupR_same q7
  rintro v G9 w5 hw5
  have qq : tupR [] v G9 w5 := (hw5.ents _ List.mem_cons_self).1
  clear hw5
  unfold tupR at qq
  obtain ⟨rfl, a2, n2, c2, rfl, -⟩ := qq
  simp only [Act.put, List.setIfInBounds_toArray, List.set_cons_zero, List.set_cons_succ]
  refine detL_rel (by kernel_rfl) (yields_rel (by rfl) slcR_lasting fun w5 hw5 => ?_) ?_
  · have hb5 := hw5.below
    have HBx := Lib.hid ((Below.refl w4.heap.size w4).drew.trans hb5)
    have q7 : tupR [] (.tuple #[.slice a2 n2 c2, .int .i64 0]) [] w5 := (hw5.ents _ (List.mem_filter.2 ⟨List.mem_cons_self, (by first | kernel_rfl | simp [depB, Region.binds] | decide)⟩)).1
    clear hb5 hw5
    go_simp
    exact slcR_of q7
  rintro v G9 w5 hw5
  have qq : slcR [] v G9 w5 := (hw5.ents _ List.mem_cons_self).1
  clear hw5
  unfold slcR at qq
  obtain ⟨rfl, a3, n3, c3, rfl, -⟩ := qq
  simp only [Act.put, List.setIfInBounds_toArray, List.set_cons_zero, List.set_cons_succ]
  refine detL_val (by kernel_rfl) (yields_of rfl fun w5 hb5 => ?_) ?_
  · have HBx := Lib.hid ((Below.refl w4.heap.size w4).drew.trans hb5)
    clear hb5
    go_simp
    exact Det1_same
  simp only [Act.put, List.setIfInBounds_toArray, List.set_cons_zero, List.set_cons_succ]
  refine detL_rel (by kernel_rfl) (yields_rel (by rfl) slcR_lasting fun w5 hw5 => ?_) ?_
  · have hb5 := hw5.below
    have HBx := Lib.hid ((Below.refl w4.heap.size w4).drew.trans hb5)
    have q7 : slcR [] (.slice a3 n3 c3) [] w5 := (hw5.ents _ (List.mem_filter.2 ⟨List.mem_cons_self, (by first | kernel_rfl | simp [depB, Region.binds] | decide)⟩)).1
    clear hb5 hw5
    go_simp
    exact slcR_same q7
  rintro v G9 w5 hw5
  have qq : slcR [] v G9 w5 := (hw5.ents _ List.mem_cons_self).1
  clear hw5
  unfold slcR at qq
  obtain ⟨rfl, D4, e4, f4, rfl, -⟩ := qq
  simp only [Act.put, List.setIfInBounds_toArray, List.set_cons_zero, List.set_cons_succ]
  refine detL_val (by kernel_rfl) (yields_of rfl fun w5 hb5 => ?_) ?_
  · have HBx := Lib.hid ((Below.refl w4.heap.size w4).drew.trans hb5)
    clear hb5
    go_simp
    exact Det1_same
  simp only [Act.put, List.setIfInBounds_toArray, List.set_cons_zero, List.set_cons_succ]
  refine detL_done (by kernel_rfl) fun z4 hz4 => ?_
  have q4 : slcR [] (.slice D4 e4 f4) [] z4 := (hz4.ents _ List.mem_cons_self).1
  have hbel4 : Below w4.heap.size w4 z4 := (Below.refl _ _).drew.trans hz4.below
  clear hz4
  obtain rfl : 0 = e4 := q4.len.1
  go_upto_region 6 with (fail)
  refine wp_gen (fun W => Below w.heap.size w W ∧ TbS W nm' A' n' c' key' U' m' cu' R' p' cr' op' k' i' vs' s' B' q' d' cols' us' rs' l' (fun b => w1.heap.size ≤ b) 14 ∧ RowsAt W (fun b => b < w1.heap.size) Ar' nr' rows' ∧ W.heap[w.heap.size]? = some (.cells #[.string nm', .slice A' n' c', .int .i64 key', .slice U' m' cu', .slice R' p' cr', .string op', .int .i64 k', .int .i64 i', .string vs', .string s', .slice B' q' d', .slice Ar' nr' ca'] 34 (0, 0)) ∧ RowsAt W (fun _ => False) D2 e2 rows') ⟨H4.out.1.trans (hbel4.mono H4.out.1.size), H4.out.2.1.below hbel4, H4.out.2.2.1.below hbel4, (hbel4.block _ H4b).trans H4.out.2.2.2.1, H4.out.2.2.2.2.below hbel4⟩ fun w5 hw5 => ?_
  have H5 := Lib.hid hw5
  have H5b := lt_of_block hw5.2.2.2.1
  clear hw5 q4 hbel4 H4 H4b HW4
  have HWD : Hid (∀ W, Below w5.heap.size w5 W → Calls Tryz.prog 14 #[.agg #[.string nm', .slice A' n' c', .int .i64 key', .slice U' m' cu', .slice R' p' cr', .string op', .int .i64 k', .int .i64 i', .string vs', .string s', .slice B' q' d', .slice Ar' nr' ca'], .agg #[.string ⟨#[]⟩, .int .i64 0, .int .i64 0, .string ⟨#[]⟩, .string ⟨#[]⟩, .slice none 0 0]] W fun e w' => (∃ A9 n9 c9, e = .returned (.tuple #[.slice A9 n9 c9, .int .i64 0]) ∧ RowsAt w' (fun _ => False) A9 n9 rows') ∧ Below W.heap.size W w') := Lib.hid fun W hW => by
    refine Calls.mono (where_any nm' A' n' c' key' U' m' cu' R' p' cr' op' k' i' vs' s' B' q' d' Ar' nr' ca' cols' rows' _ ⟨#[]⟩ 0 0 ⟨#[]⟩ ⟨#[]⟩ none 0 0 [] (fun _ => True) 0 W (H5.out.2.1.hcols.below hW) HN.out (H5.out.2.2.1.below hW) (leaf_tr W _ 0 _ _ _ (by decide))) ?_
    rintro e w' ⟨A9, n9, c9, he, h1, h2, h3⟩
    rw [where_none] at he h2
    exact ⟨⟨A9, n9, c9, he, h2⟩, h3⟩
  go_upto_region 7 with (first
    | (refine wpList_load_row rfl 34 (.tmp 1) rfl w.heap.size rfl 34 #[.string nm', .slice A' n' c', .int .i64 key', .slice U' m' cu', .slice R' p' cr', .string op', .int .i64 k', .int .i64 i', .string vs', .string s', .slice B' q' d', .slice Ar' nr' ca'] (0, 0) _ H5.out.2.2.2.1 Tryz.underlying34 rfl relSize ?_)
    | (go_at_call 14; (with_reducible refine (HWD.out _ (Below.refl _ _)).mono ?_); rintro e z5 ⟨⟨D5, e5, f5, rfl, k5⟩, hb5⟩; have H6 := Lib.hid (And.intro k5 hb5); clear k5 hb5))
  refine wp_gen (fun W => Below w.heap.size w W ∧ RowsAt W (fun b => b < w1.heap.size) Ar' nr' rows' ∧ RowsAt W (fun _ => False) D2 e2 rows' ∧ RowsAt W (fun _ => False) D5 e5 rows' ∧ W.heap[w.heap.size]? = some (.cells #[.string nm', .slice A' n' c', .int .i64 key', .slice U' m' cu', .slice R' p' cr', .string op', .int .i64 k', .int .i64 i', .string vs', .string s', .slice B' q' d', .slice Ar' nr' ca'] 34 (0, 0))) ⟨H5.out.1.trans (H6.out.2.mono H5.out.1.size), H5.out.2.2.1.below H6.out.2, H5.out.2.2.2.2.below H6.out.2, H6.out.1, (H6.out.2.block _ H5b).trans H5.out.2.2.2.1⟩ fun w7 hw7 => ?_
  have H7 := Lib.hid hw7
  have g0 := Lib.cell_of_heap hw7.2.2.2.2 0
  have g1 := Lib.cell_of_heap hw7.2.2.2.2 1
  have g2 := Lib.cell_of_heap hw7.2.2.2.2 2
  have g3 := Lib.cell_of_heap hw7.2.2.2.2 3
  have g4 := Lib.cell_of_heap hw7.2.2.2.2 4
  have g5 := Lib.cell_of_heap hw7.2.2.2.2 5
  have g6 := Lib.cell_of_heap hw7.2.2.2.2 6
  have g7 := Lib.cell_of_heap hw7.2.2.2.2 7
  have g8 := Lib.cell_of_heap hw7.2.2.2.2 8
  have g9 := Lib.cell_of_heap hw7.2.2.2.2 9
  have g10 := Lib.cell_of_heap hw7.2.2.2.2 10
  have g11 := Lib.cell_of_heap hw7.2.2.2.2 11
  simp only [List.getElem?_toArray, List.getElem?_cons_zero, List.getElem?_cons_succ] at g0 g1 g2 g3 g4 g5 g6 g7 g8 g9 g10 g11
  have hz7 := lt_of_block hw7.2.2.2.2
  obtain rfl : e2 = nr' := hw7.2.2.1.1.symm.trans hw7.2.1.1
  obtain rfl : e5 = e2 := hw7.2.2.2.1.1.symm.trans hw7.2.1.1
  clear hw7 H5 H6 H5b
  have HSA : Hid (∀ W, Below w7.heap.size w7 W → Calls Tryz.prog 16 #[.slice D2 e5 f2, .slice Ar' e5 ca'] W fun e w' => e = .returned (.bool true) ∧ Below W.heap.size W w') := Lib.hid fun W hW => sameRows_eq _ _ D2 e5 f2 Ar' ca' rows' W (H7.out.2.2.1.below hW) (H7.out.2.1.below hW)
  have HSB : Hid (∀ W, Below w7.heap.size w7 W → Calls Tryz.prog 16 #[.slice D5 e5 f5, .slice Ar' e5 ca'] W fun e w' => e = .returned (.bool true) ∧ Below W.heap.size W w') := Lib.hid fun W hW => sameRows_eq _ _ D5 e5 f5 Ar' ca' rows' W (H7.out.2.2.2.1.below hW) (H7.out.2.1.below hW)
  have HAW := Lib.hid awake7_any
  go_wp2_with (first
    | (go_at_call 16; (with_reducible refine (HSA.out _ (Below.refl _ _)).mono ?_); rintro e w8 ⟨rfl, hb8⟩; have HB8 := Lib.hid hb8; have hc8 := (bcell hb8).1; have hy8 := hb8.size; have hz8 : w.heap.size < w8.heap.size := (by omega); clear hb8)
    | (go_at_call 16; (with_reducible refine (HSB.out _ HB8.out).mono ?_); rintro e w9 ⟨rfl, hb9⟩; have HB9 := Lib.hid (HB8.out.trans (hb9.mono HB8.out.size)); clear hb9)
    | (go_at_call 17; (with_reducible refine (HAW.out _).mono ?_); rintro e w10 ⟨rfl, hb10⟩; have HB10 := Lib.hid (HB9.out.trans (hb10.mono HB9.out.size)); clear hb10))
  go_ret
  exact ⟨rfl, H7.out.1.trans (HB10.out.mono H7.out.1.size)⟩
end Go.Proofs.YtmhkmliebhbkdaaGreat

/- A table with rows that comes in. -/
namespace Go.Proofs.YtmhkmliebhbkdaaGreat
open Go.ChangeShapes Go.WideShapes Go.ChangeAt Go.RowKit Go.Deep

theorem cellsRe : Tryz.prog.cellsOf 34 = 12 := by kernel_rfl
theorem cells1R : Tryz.prog.cellsOf 32 = 1 := by kernel_rfl
theorem cells1V7 : Tryz.prog.cellsOf 47 = 1 := by kernel_rfl
theorem twelve {α : Type} {l : List α} (h : l.length = 12) : ∃ a b c d e f a' b' c' d' e' f', l = [a, b, c, d, e, f, a', b', c', d', e', f'] := by
  match l, h with
  | [a, b, c, d, e, f, a', b', c', d', e', f'], _ => exact ⟨a, b, c, d, e, f, a', b', c', d', e', f', rfl⟩
section
variable {H : Type} {enc : TypeId × Value → H} {w : World} {base : Nat} {spare : Nat → Bool} {held : Bool}
set_option maxRecDepth 100000 in
/-- Rows that read. -/
theorem rows_of {fuel : Nat} {v : Value} {x : DataW H × List MemPlace} (hf : DataW.trod enc Tryz.prog w base spare held fuel 32 [v] = some x) :
    ∃ (A : Option Addr) (n cap : Nat) (rows : List (List Vl)), v = .slice A n cap ∧ RowsIn w A n rows := by
  rcases open_slice1 Tryz.underlying32 cells1V7 hf with h0 | ⟨a, n, cap, m, q, V, D, Pl, h1, _, h2, h3, hm, _, hat⟩
  · have h0 := h0.1
    simp only [List.cons.injEq, and_true] at h0
    subst h0
    exact ⟨none, 0, 0, [], rfl, rfl, by unfold maxLen; omega, fun j hj => absurd hj (by simp)⟩
  · simp only [List.cons.injEq, and_true] at h1
    subst h1
    have hnm : n ≤ m := by rw [hm]; split <;> omega
    have each : ∀ i, i < n → ∃ r : List Vl, ∃ D m c, w.cell? (a.add i) = some (.slice D m c) ∧ m ≤ maxLen ∧ Vals w w.heap.size D m r ∧ ∀ x ∈ r, x.s.size ≤ maxLen := by
      intro i hi
      obtain ⟨c0, t0⟩ := hat i (by omega)
      obtain ⟨D, m', c', r, e, g1, g2, g3, _⟩ := vrow_of t0
      exact ⟨r, D, m', c', c0.trans (congrArg some e), g1, g2, g3⟩
    have hall : ∃ l : List (List Vl), l.length = n ∧ ∀ j (hj : j < l.length), ∃ D m c, w.cell? (a.add j) = some (.slice D m c) ∧ m ≤ maxLen ∧ Vals w w.heap.size D m l[j] ∧ ∀ x ∈ l[j], x.s.size ≤ maxLen := by
      refine ⟨(List.range n).map fun i => if h : i < n then Classical.choose (each i h) else [], by simp, fun j hj => ?_⟩
      have hj' : j < n := by simpa using hj
      rw [List.getElem_map, List.getElem_range, dif_pos hj']
      exact Classical.choose_spec (each j hj')
    obtain ⟨l, hl, hat'⟩ := hall
    refine ⟨some a, n, cap, l, rfl, hl, by omega, fun j hj => ?_⟩
    obtain ⟨D, m', c', h1, h2, h3, h4⟩ := hat' j hj
    exact ⟨a, D, m', c', rfl, h1, h2, h3, h4⟩
set_option maxRecDepth 100000 in
/-- A table with rows that comes in. -/
theorem open_rel {r : Reach} {b0 : Nat} {v : Value} {d' : DataW H} {p' : List MemPlace} (hv : Value.okWide Tryz.prog w r b0 34 v) (h : DataW.Trod enc Tryz.prog w base spare held 34 v d' p') :
    ∃ (nm : ByteArray) (A : Option Addr) (n c : Nat) (key : Int) (U : Option Addr) (m cu : Nat) (R : Option Addr) (p cr : Nat) (op : ByteArray) (k i : Int) (vs s : ByteArray) (B : Option Addr) (q d : Nat) (Ar : Option Addr) (nr ca : Nat) (cols : List Cl) (us : List Int) (rs : List Rf) (rows : List (List Vl)),
      v = .agg #[.string nm, .slice A n c, .int .i64 key, .slice U m cu, .slice R p cr, .string op, .int .i64 k, .int .i64 i, .string vs, .string s, .slice B q d, .slice Ar nr ca] ∧ TbIn w nm A n c key U m cu R p cr op k i vs s B q d cols us rs ∧ RowsIn w Ar nr rows := by
  obtain ⟨cs, rfl, _⟩ := okWide_struct Tryz.underlying34 hv
  obtain ⟨fuel, hf⟩ := h
  obtain ⟨xs, n', _, _, hl, hxl, hat⟩ := DataW.trod_struct Tryz.underlying34 hf
  rw [cellsRe] at hl
  obtain ⟨c0, c1, c2, c3, c4, c5, c6, c7, c8, c9, c10, c11, hcs⟩ := twelve hl
  have hx2 : xs.length = 2 := by rw [hxl]; rfl
  rw [hcs] at hat
  have g0 : DataW.trod enc Tryz.prog w base spare held n' 31 (([c0, c1, c2, c3, c4, c5, c6, c7, c8, c9, c10, c11].drop 0).take (Tryz.prog.cellsOf 31)) = some (xs[0]'(by omega)) := (hat 0 _ rfl).trans (List.getElem?_eq_getElem (by omega))
  have g1 : DataW.trod enc Tryz.prog w base spare held n' 32 (([c0, c1, c2, c3, c4, c5, c6, c7, c8, c9, c10, c11].drop 11).take (Tryz.prog.cellsOf 32)) = some (xs[1]'(by omega)) := (hat 1 _ rfl).trans (List.getElem?_eq_getElem (by omega))
  rw [cellsTb] at g0
  rw [cells1R] at g1
  simp only [List.drop_zero, List.drop_succ_cons, List.take_succ_cons, List.take_zero] at g0 g1
  obtain ⟨nm, A, n, c, key, U, m, cu, R, p, cr, op, k, i, vs, s, B, q, d, cols, us, rs, e, hT⟩ := table_of g0
  obtain ⟨Ar, nr, ca, rows, e2, hR⟩ := rows_of g1
  refine ⟨nm, A, n, c, key, U, m, cu, R, p, cr, op, k, i, vs, s, B, q, d, Ar, nr, ca, cols, us, rs, rows, ?_, hT, hR⟩
  obtain ⟨lst⟩ := cs
  have hl2 : lst = [c0, c1, c2, c3, c4, c5, c6, c7, c8, c9, c10, c11] := by simpa [Value.cells] using hcs
  rw [hl2]
  simp only [List.cons.injEq, and_true] at e
  obtain ⟨rfl, rfl, rfl, rfl, rfl, rfl, rfl, rfl, rfl, rfl, rfl⟩ := e
  subst e2
  rfl
end
theorem readsRe : Tryz.prog.readableRec 34 = true := by kernel_rfl
theorem rowRe : 34 < Tryz.prog.types.size := of_decide_eq_true (by kernel_rfl)
end Go.Proofs.YtmhkmliebhbkdaaGreat

/- RelTruths: for every input the law returns true, and the input reads behind the call as it did. No condition. -/
namespace Go.Proofs.YtmhkmliebhbkdaaGreat
open Go.ChangeShapes Go.WideShapes Go.ChangeAt Go.RowKit

theorem own7 : ownKnob Tryz.prog.godebug = none := by kernel_rfl
set_option maxRecDepth 100000 in
theorem relTruths_lifted (os : Os) (started : os.Started) (H : Type) (enc : TypeId × Value → H) :
    ReturnsInHanded {} Tryz.checked os 7 .any (Rows.relTruthsSpec.pre6 enc Tryz.prog Tryz.f7 Rows.relTruthsRow.domain false) (Rows.relTruthsSpec.post enc Tryz.prog Tryz.f7 false true false false) := by
  refine returnsInHanded_of_change (C := Tryz.checked) own7 started (by kernel_rfl) Tryz.func7
    (ChangeSpec.witness6 (enc := enc) (C := Tryz.checked) false ⟨#[], #[.agg #[.string ⟨#[]⟩, .slice none 0 0, .int .i64 0, .slice none 0 0, .slice none 0 0, .string ⟨#[]⟩, .int .i64 0, .int .i64 0, .string ⟨#[]⟩, .string ⟨#[]⟩, .slice none 0 0, .slice none 0 0]], []⟩ 8 (by kernel_rfl) (by kernel_rfl) (by kernel_rfl) (by kernel_rfl)) ?_
  intro W base args ds gs before hval0 hW hcnd _
  have hval : ∀ (j : Nat) t v, Tryz.f7.params[j]? = some t → args[j]? = some v → Value.okWide Tryz.prog W .any base t v := hval0
  have hW' := hW
  have hlt : ∀ p ∈ before, p.block < W.heap.size := fun p hp => hW.lt p hp
  obtain ⟨p, q, hA0, hV, rfl, _, _⟩ := hW
  have hA : DataW.TrodAll enc Tryz.prog W 0 (fun _ => true) true Tryz.f7.params.toList args.toList ds p := hA0
  rw [Tryz.params7] at hA hval
  obtain ⟨v0, d0, rfl, rfl, h0⟩ := trodAll_one hA
  obtain ⟨rfl, rfl⟩ := trodVars_none hV
  simp only [List.append_nil] at hW' hlt
  obtain ⟨nm, A, n, c, key, U, m, cu, R, pp, cr, op, k, i, vs, s, B, qq, dd, Ar, nr, ca, cols, us, rs, rows, rfl, hT, hR⟩ := open_rel (hval 0 34 v0 rfl rfl) h0
  clear hA0 hval0
  refine (law_truths7 nm A n c key U m cu R pp cr op k i vs s B qq dd Ar nr ca cols us rs rows W hT hR).mono fun e W' ⟨he, hb⟩ => ?_
  subst he
  refine ⟨_, rfl, _, _, _, [], p, [], hW', ?_, ?_, ?_, hb.frame _, fun h => by cases h⟩
  · exact trodAll_mk1 (shut_bool Tryz.underlying4 true)
  · exact trodAll_mk1 (Below.trod laidOutB_E readsRe rowRe h0 hb (fun x hx => hlt x hx))
  · rfl

theorem relTruths_holds : Rows.RelTruthsSaid :=
  OpenClaim.holds_of_wide 7 Tryz.f7 rfl rfl rfl rfl rfl rfl rfl ⟨rfl, rfl, rfl, rfl, rfl⟩ rfl rfl rfl rfl rfl (by kernel_rfl) Tryz.func7 (by kernel_rfl)
    (of_decide_eq_true (by kernel_rfl)) (by unfold Func.isWrapper; first | (rw [if_pos (by decide +kernel)]; kernel_rfl) | (rw [if_neg (by decide +kernel)]; exact ⟨rfl, rfl⟩))
    (fun os started H enc _ => relTruths_lifted os started H enc)
end Go.Proofs.YtmhkmliebhbkdaaGreat
