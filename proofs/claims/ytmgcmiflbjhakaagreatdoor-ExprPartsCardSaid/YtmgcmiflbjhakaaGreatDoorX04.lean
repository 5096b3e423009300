import Derived.Test.YtmgcmiflbjhakaaGreatDoorX03
import Derived.Test.YtmgcmiflbjhakaaGreatDoorRows
import Derived.Test.YtmgcmiflbjhakaaGreatDoorW04
import Derived.Lib.LaidTab
import Derived.Stop.LaidErr
import Derived.MakeChecks
import Derived.Test.YtmgcmiflbjhakaaGreatDoorW05
import Derived.LaidLaws
import Derived.Test.YtmgcmiflbjhakaaGreatDoorX01
import Derived.ChangeMaps5

/- The law's Parts come in. -/
namespace Go.Proofs.YtmgcmiflbjhakaaGreatDoor
open Go.ChangeShapes Go.WideShapes Go.ChangeAt Go.RowKit Go.Deep

theorem cellsPa : Tryz.prog.cellsOf 30 = 14 := by kernel_rfl
theorem cells1C : Tryz.prog.cellsOf 27 = 1 := by kernel_rfl
theorem cells1V : Tryz.prog.cellsOf 28 = 1 := by kernel_rfl
theorem fourteen {α : Type} {l : List α} (h : l.length = 14) : ∃ a b c d e f a' b' c' d' e' f' g g', l = [a, b, c, d, e, f, a', b', c', d', e', f', g, g'] := by
  match l, h with
  | [a, b, c, d, e, f, a', b', c', d', e', f', g, g'], _ => exact ⟨a, b, c, d, e, f, a', b', c', d', e', f', g, g', rfl⟩
section
variable {H : Type} {enc : TypeId × Value → H} {w : World} {base : Nat} {spare : Nat → Bool} {held : Bool}
set_option maxRecDepth 100000 in
/-- A row of columns that reads. -/
theorem crow_of {fuel : Nat} {v : Value} {x : DataW H × List MemPlace} (hf : DataW.trod enc Tryz.prog w base spare held fuel 27 [v] = some x) :
    ∃ (A : Option Addr) (n cap : Nat) (l : List Cl), v = .slice A n cap ∧ ColS w A n l ∧ ∀ x ∈ l, x.n.size ≤ maxLen := by
  rcases slice_fieldsE Tryz.underlying27 Tryz.underlying67 (by kernel_rfl) cellsCl hf with h0 | ⟨a, n, cap, h1, h2, h3, h4⟩
  · simp only [List.cons.injEq, and_true] at h0
    subst h0
    exact ⟨none, 0, 0, [], rfl, ⟨rfl, by unfold maxLen; omega, fun j hj => absurd hj (by simp)⟩, (fun x hx => by cases hx)⟩
  · simp only [List.cons.injEq, and_true] at h1
    subst h1
    have each : ∀ i, i < n → ∃ x : Cl, ClAt w (a.add (i * 3)) x ∧ x.n.size ≤ maxLen := by
      intro i hi
      obtain ⟨v0, y0, n0, c0, t0⟩ := h4 i hi 0 _ rfl
      obtain ⟨v1, y1, n1, c1, t1⟩ := h4 i hi 1 _ rfl
      obtain ⟨v2, y2, n2, c2, t2⟩ := h4 i hi 2 _ rfl
      obtain ⟨s, e0, _, ws⟩ := DataW.trod_string Tryz.underlying9 t0
      obtain ⟨k, e1, _, wk⟩ := DataW.trod_int Tryz.underlying3 t1
      obtain ⟨b, e2, _⟩ := DataW.trod_bool Tryz.underlying4 t2
      simp at e0 e1 e2
      subst e0 e1 e2
      exact ⟨⟨s, k, b⟩, ⟨c0, c1, c2⟩, ws⟩
    have hall : ∃ l : List Cl, l.length = n ∧ ∀ j (hj : j < l.length), ClAt w (a.add (j * 3)) l[j] ∧ l[j].n.size ≤ maxLen := by
      refine ⟨(List.range n).map fun i => if h : i < n then Classical.choose (each i h) else ⟨⟨#[]⟩, 0, false⟩, by simp, fun j hj => ?_⟩
      have hj' : j < n := by simpa using hj
      rw [List.getElem_map, List.getElem_range, dif_pos hj']
      exact Classical.choose_spec (each j hj')
    obtain ⟨l, hl, hat⟩ := hall
    refine ⟨some a, n, cap, l, rfl, ⟨hl, by omega, fun j hj => ⟨a, rfl, ?_⟩⟩, fun x hx => ?_⟩
    · exact (hat j (by omega)).1
    · obtain ⟨j, hj, rfl⟩ := List.getElem_of_mem hx
      exact (hat j hj).2
set_option maxRecDepth 100000 in
/-- A row of values that reads. -/
theorem vrow_of {fuel : Nat} {v : Value} {x : DataW H × List MemPlace} (hf : DataW.trod enc Tryz.prog w base spare held fuel 28 [v] = some x) :
    ∃ (A : Option Addr) (n cap : Nat) (l : List Vl), v = .slice A n cap ∧ n ≤ maxLen ∧ Vals w w.heap.size A n l ∧ (∀ x ∈ l, x.s.size ≤ maxLen) ∧ ∀ x ∈ l, In64 x.i := by
  rcases slice_fieldsE Tryz.underlying28 Tryz.underlying23 (by kernel_rfl) cellsV hf with h0 | ⟨a, n, cap, h1, h2, h3, h4⟩
  · simp only [List.cons.injEq, and_true] at h0
    subst h0
    exact ⟨none, 0, 0, [], rfl, by unfold maxLen; omega, ⟨rfl, fun j hj => absurd hj (by simp)⟩, (fun x hx => by cases hx), (fun x hx => by cases hx)⟩
  · simp only [List.cons.injEq, and_true] at h1
    subst h1
    have each : ∀ i, i < n → ∃ x : Vl, VlAt w (a.add (i * 3)) x ∧ x.s.size ≤ maxLen ∧ In64 x.i := by
      intro i hi
      obtain ⟨v0, y0, n0, c0, t0⟩ := h4 i hi 0 _ rfl
      obtain ⟨v1, y1, n1, c1, t1⟩ := h4 i hi 1 _ rfl
      obtain ⟨v2, y2, n2, c2, t2⟩ := h4 i hi 2 _ rfl
      obtain ⟨k, e0, _, wk⟩ := DataW.trod_int Tryz.underlying3 t0
      obtain ⟨j, e1, _, wi⟩ := DataW.trod_int Tryz.underlying2 t1
      obtain ⟨s, e2, _, ws⟩ := DataW.trod_string Tryz.underlying9 t2
      simp at e0 e1 e2
      subst e0 e1 e2
      exact ⟨⟨k, j, s⟩, ⟨c0, c1, c2⟩, ws, in64_of_wf wi⟩
    have hall : ∃ l : List Vl, l.length = n ∧ ∀ j (hj : j < l.length), VlAt w (a.add (j * 3)) l[j] ∧ l[j].s.size ≤ maxLen ∧ In64 l[j].i := by
      refine ⟨(List.range n).map fun i => if h : i < n then Classical.choose (each i h) else ⟨0, 0, ⟨#[]⟩⟩, by simp, fun j hj => ?_⟩
      have hj' : j < n := by simpa using hj
      rw [List.getElem_map, List.getElem_range, dif_pos hj']
      exact Classical.choose_spec (each j hj')
    obtain ⟨l, hl, hat⟩ := hall
    refine ⟨some a, n, cap, l, rfl, by omega, ⟨hl, fun j hj => ⟨a, rfl, (hat j hj).1, ?_⟩⟩, fun x hx => ?_, fun x hx => ?_⟩
    · have := World.block_lt_of_cell? w _ (hat j hj).1.k
      rwa [add_block] at this
    · obtain ⟨j, hj, rfl⟩ := List.getElem_of_mem hx
      exact (hat j hj).2.1
    · obtain ⟨j, hj, rfl⟩ := List.getElem_of_mem hx
      exact (hat j hj).2.2
set_option maxRecDepth 100000 in
/-- The law's argument. -/
theorem open_parts {r : Reach} {b0 : Nat} {v : Value} {d : DataW H} {p : List MemPlace} (hv : Value.okWide Tryz.prog w r b0 30 v) (h : DataW.Trod enc Tryz.prog w base spare held 30 v d p) :
    ∃ (op : ByteArray) (k i : Int) (vs s : ByteArray) (u : Value) (op2 : ByteArray) (k2 i2 : Int) (vs2 s2 : ByteArray) (u2 : Value) (A : Option Addr) (n c : Nat) (l : List Cl) (A' : Option Addr) (m c' : Nat) (row : List Vl),
      v = .agg #[.string op, .int .i64 k, .int .i64 i, .string vs, .string s, u, .string op2, .int .i64 k2, .int .i64 i2, .string vs2, .string s2, u2, .slice A n c, .slice A' m c'] ∧
      (op.size ≤ maxLen ∧ vs.size ≤ maxLen ∧ s.size ≤ maxLen ∧ In64 i ∧ InL w w.heap.size 14 u) ∧ (op2.size ≤ maxLen ∧ vs2.size ≤ maxLen ∧ s2.size ≤ maxLen ∧ In64 i2 ∧ InL w w.heap.size 14 u2) ∧
      ColS w A n l ∧ (∀ x ∈ l, x.n.size ≤ maxLen) ∧ m ≤ maxLen ∧ Vals w w.heap.size A' m row ∧ (∀ x ∈ row, x.s.size ≤ maxLen) ∧ ∀ x ∈ row, In64 x.i := by
  obtain ⟨cs, rfl, _⟩ := okWide_struct Tryz.underlying30 hv
  obtain ⟨fuel, hf⟩ := h
  obtain ⟨y0, y1, y2, y3, m0, _, hl, h0, h1, h2, h3⟩ := Go.Joins.trod_struct4 Tryz.underlying30 hf
  rw [cellsPa] at hl
  obtain ⟨c0, c1, c2, c3, c4, c5, d0, d1, d2, d3, d4, d5, g0, g1, e⟩ := fourteen hl
  rw [e] at h0 h1 h2 h3
  dsimp only at h0 h1 h2 h3
  rw [cellsE] at h0 h1
  rw [cells1C] at h2
  rw [cells1V] at h3
  simp only [List.drop_zero, List.drop_succ_cons, List.take_succ_cons, List.take_zero] at h0 h1 h2 h3
  obtain ⟨op, k, i, vs, s, u, n0, x0, e0, a1, a2, a3, a4, hr⟩ := open_cells h0
  obtain ⟨op2, k2, i2, vs2, s2, u2, n1, x1, e1, b1, b2, b3, b4, hr2⟩ := open_cells h1
  obtain ⟨A, n, c, l, rfl, q1, q2⟩ := crow_of h2
  obtain ⟨A', m, c', row, rfl, r1, r2, r3, r4⟩ := vrow_of h3
  simp only [List.cons.injEq, and_true] at e0 e1
  obtain ⟨rfl, rfl, rfl, rfl, rfl, rfl⟩ := e0
  obtain ⟨rfl, rfl, rfl, rfl, rfl, rfl⟩ := e1
  refine ⟨op, k, i, vs, s, c5, op2, k2, i2, vs2, s2, d5, A, n, c, l, A', m, c', row, ?_, ⟨a1, a2, a3, a4, open_tree 14 hr⟩, ⟨b1, b2, b3, b4, open_tree 14 hr2⟩, q1, q2, r1, r2, r3, r4⟩
  obtain ⟨lst⟩ := cs
  have : lst = [.string op, .int .i64 k, .int .i64 i, .string vs, .string s, c5, .string op2, .int .i64 k2, .int .i64 i2, .string vs2, .string s2, d5, .slice A n c, .slice A' m c'] := by simpa [Value.cells] using e
  rw [this]
end
theorem readsPa : Tryz.prog.readableRec 30 = true := by kernel_rfl
theorem rowPa : 30 < Tryz.prog.types.size := of_decide_eq_true (by kernel_rfl)
end Go.Proofs.YtmgcmiflbjhakaaGreatDoor

/- What a row's condition on the listed variables says of them. -/
namespace Go.Proofs.YtmgcmiflbjhakaaGreatDoor
open Go.RowKit Go.Lib

theorem pow10_data : (Rows.laid_internal_strconv_uint64pow10 : DataW Unit) = tabData .u64 pow10Tab := by kernel_rfl
theorem tab_of_row {laid : List (String × DataW Unit)} {W : World} (h : laidMetH Tryz.prog laid W) (hp : (laid.all fun x => x.2.handleName?.isNone) = true) {x y : String × DataW Unit} {r : List (String × DataW Unit)}
    (hl : laid = x :: y :: ("internal/strconv.uint64pow10", Rows.laid_internal_strconv_uint64pow10) :: r) : Lib.TabIs Tryz.prog W "internal/strconv.uint64pow10" .u64 Lib.pow10Tab := by
  rw [MakeChecks.laidMetH_plain _ _ _ hp, hl, pow10_data] at h
  exact tabIs_of_head (g := 2) (by kernel_rfl) (by kernel_rfl) Tryz.underlying238 Tryz.underlying215 (by kernel_rfl) (by kernel_rfl) h.tail.tail
theorem libs_of {laid : List (String × DataW Unit)} {W : World} {m : Int} (h : laidMetH Tryz.prog laid W) (hm : W.cell? ⟨1, 0, none⟩ = some (.int .i64 m)) (hp : (laid.all fun x => x.2.handleName?.isNone) = true) {x y : String × DataW Unit} {r : List (String × DataW Unit)}
    (hl : laid = x :: y :: ("internal/strconv.uint64pow10", Rows.laid_internal_strconv_uint64pow10) :: r) : Libs W := ⟨tab_of_row h hp hl, m, hm⟩
end Go.Proofs.YtmgcmiflbjhakaaGreatDoor

/- What a row's condition on the listed variables says of the library's two errors. -/
namespace Go.Proofs.YtmgcmiflbjhakaaGreatDoor
open Go.RowKit Go.Lib

theorem es_star : "*" ++ "errors.errorString" = "*errors.errorString" := by decide
theorem es_row (u : TypeId) (h : Tryz.prog.typeName? 3 u = some "*errors.errorString") : u = 278 :=
  typeName_ptr_named (nm := "errors.errorString") (by rw [es_star]; kernel_rfl) (by kernel_rfl) (by decide) u (by rw [es_star]; exact h)
theorem errs_of {laid : List (String × DataW Unit)} {W : World} (h : laidMetH Tryz.prog laid W) (hp : (laid.all fun x => x.2.handleName?.isNone) = true) {x y z u : String × DataW Unit} {r : List (String × DataW Unit)}
    (hl : laid = x :: y :: z :: u :: ("strconv.ErrRange", Rows.laid_strconv_ErrRange) :: ("strconv.ErrSyntax", Rows.laid_strconv_ErrSyntax) :: r) : Errs W := by
  rw [MakeChecks.laidMetH_plain _ _ _ hp, hl] at h
  have h4 := h.tail.tail.tail.tail
  obtain ⟨a1, s1, hv1, _⟩ := laid_sentinel (g := 9) (ti := 148) (tp := 278) (te := 280) (ts := 9) h4 (by kernel_rfl) (by kernel_rfl) Tryz.underlying148 es_row Tryz.underlying278 Tryz.underlying280 rfl rfl Tryz.underlying9 (by kernel_rfl) (by kernel_rfl)
  obtain ⟨a2, s2, hv2, _⟩ := laid_sentinel (g := 8) (ti := 148) (tp := 278) (te := 280) (ts := 9) h4.tail (by kernel_rfl) (by kernel_rfl) Tryz.underlying148 es_row Tryz.underlying278 Tryz.underlying280 rfl rfl Tryz.underlying9 (by kernel_rfl) (by kernel_rfl)
  exact ⟨⟨_, _, by have := World.var?_cell (g := 8) (by kernel_rfl) hv2 0; simpa using this⟩, ⟨_, _, by have := World.var?_cell (g := 9) (by kernel_rfl) hv1 0; simpa using this⟩⟩
end Go.Proofs.YtmgcmiflbjhakaaGreatDoor

/- ExprParts: for every input the law returns true, and the input reads behind the call as it did. The row and its tied card. -/
namespace Go.Proofs.YtmgcmiflbjhakaaGreatDoor
open Go.ChangeShapes Go.WideShapes Go.ChangeAt Go.RowKit Go.ChangeMaps

set_option maxRecDepth 100000 in
theorem exprParts_lifted (os : Os) (started : os.Started) (H : Type) (enc : TypeId × Value → H) :
    ReturnsInHanded {} Tryz.checked os 3 .any (fun w args => (Rows.exprPartsSpec.pre enc Tryz.prog Tryz.f3 [] false w args ∧ laidMetH Tryz.prog Rows.exprPartsRow.laid w) ∧ sizedMet enc Tryz.prog Tryz.f3 (OpenSpec.ofChange Rows.exprPartsSpec) false w args)
      (Rows.exprPartsSpec.post enc Tryz.prog Tryz.f3 false true false false) := by
  refine returns_laid_shaped (C := Tryz.checked) (X := fun w _ => laidMetH Tryz.prog Rows.exprPartsRow.laid w) (fun _ _ _ hh h => h.of_heap hh) own started (by kernel_rfl) Tryz.func3
    (ChangeSpec.witness_shaped (enc := enc) (C := Tryz.checked) (os := os) (X := fun w _ => laidMetH Tryz.prog Rows.exprPartsRow.laid w) false (World.laidAll Tryz.prog os Rows.exprPartsRow.laid) #[.agg #[.string ⟨#[]⟩, .int .i64 0, .int .i64 0, .string ⟨#[]⟩, .string ⟨#[]⟩, .slice none 0 0, .string ⟨#[]⟩, .int .i64 0, .int .i64 0, .string ⟨#[]⟩, .string ⟨#[]⟩, .slice none 0 0, .slice none 0 0, .slice none 0 0]] 8 (World.laidAll_os _ _ _)
      (World.shaped_of_ZipB (by kernel_rfl) (by kernel_rfl)) (by kernel_rfl) (by kernel_rfl) (by kernel_rfl)
      (by rw [MakeChecks.laidMetH_plain _ _ _ (by kernel_rfl)]; exact laidMet_laidAll _ (by kernel_rfl) (by kernel_rfl))) ?_
  intro W base args ds gs before hval0 hW hL hsh
  have hval : ∀ (j : Nat) t v, Tryz.f3.params[j]? = some t → args[j]? = some v → Value.okWide Tryz.prog W .any base t v := hval0
  have hW' := hW
  have hlt : ∀ p ∈ before, p.block < W.heap.size := fun p hp => hW.lt p hp
  obtain ⟨p, q, hA0, hV, rfl, _, _⟩ := hW
  have hA : DataW.TrodAll enc Tryz.prog W 0 (fun _ => true) true Tryz.f3.params.toList args.toList ds p := hA0
  rw [Tryz.params3] at hA hval
  obtain ⟨v0, d0, rfl, rfl, h0⟩ := trodAll_one hA
  obtain ⟨rfl, rfl⟩ := trodVars_none hV
  obtain ⟨op, k, i, vs, s, u, op2, k2, i2, vs2, s2, u2, A, n, c, l, A', m, c', row, rfl, hE, hG, hc, hcs, hm, hv, hvs, hvi⟩ := open_parts (hval 0 30 v0 rfl rfl) h0
  obtain ⟨mx, hmx⟩ := maxLen_cell hsh
  clear hA0 hval0
  obtain ⟨B, pn, q, rfl, _⟩ := hE.2.2.2.2.form
  obtain ⟨B2, pn2, q2, rfl, _⟩ := hG.2.2.2.2.form
  simp only [List.append_nil] at hW' hlt
  refine (law_parts op k i vs s B pn q op2 k2 i2 vs2 s2 B2 pn2 q2 A n c l A' m c' row W ⟨libs_of hL hmx (by kernel_rfl) rfl, errs_of hL (by kernel_rfl) rfl⟩ hE hG hc hcs hm hv hvs hvi).mono fun e W' ⟨he, hb⟩ => ?_
  subst he
  refine ⟨_, rfl, _, _, _, [], p, [], hW', ?_, ?_, ?_, hb.frame _, fun h => by cases h⟩
  · exact trodAll_mk1 (shut_bool Tryz.underlying4 true)
  · exact trodAll_mk1 (Below.trod laidOutB_E readsPa rowPa h0 hb (fun x hx => hlt x hx))
  · rfl

theorem exprParts_holds : Rows.ExprPartsSaid :=
  OpenClaim.holds_of_wide 3 Tryz.f3 rfl rfl rfl rfl rfl rfl rfl ⟨rfl, rfl, rfl, rfl, rfl⟩ rfl rfl rfl rfl rfl (by kernel_rfl) Tryz.func3 (by kernel_rfl)
    (of_decide_eq_true (by kernel_rfl)) (by unfold Func.isWrapper; rw [if_neg (of_decide_eq_false (by kernel_rfl))]; exact ⟨rfl, rfl⟩)
    (fun os started H enc _ => exprParts_lifted os started H enc)

theorem exprParts_card : Rows.ExprPartsCardSaid :=
  Claim7.holds_tied_plain_at .later [] _ _ _ _ exprParts_holds (fun _ h => by cases h) (by kernel_rfl) (fun _ h => by cases h) exprParts_row_tie rfl ⟨rfl, rfl⟩ (by kernel_rfl) rfl
    (fun f fn hf hfn => by
      obtain rfl : f = 3 := Option.some.inj ((show Tryz.prog.funcNamed "caddis/caddislaw04.ExprParts" = some 3 by kernel_rfl).symm.trans hf) |>.symm
      obtain rfl : fn = Tryz.f3 := (Option.some.inj (Tryz.func3.symm.trans hfn)).symm
      exact ⟨by kernel_rfl, fun j t ht => by
        rw [Tryz.params3] at ht
        have hm : t ∈ [30] := by simpa using Array.mem_of_getElem? ht
        have hall : ([30].all fun u => !Tryz.prog.wantsStandIn u) = true := by kernel_rfl
        exact (show Tryz.prog.wantsStandIn t = false by simpa using List.all_eq_true.1 hall t hm)⟩)
    (by kernel_rfl)
end Go.Proofs.YtmgcmiflbjhakaaGreatDoor
