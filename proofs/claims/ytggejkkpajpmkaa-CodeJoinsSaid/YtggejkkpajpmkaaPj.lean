/- CodeJoins: for every input the law returns true, and the input reads behind the call as it did. No condition. -/
import Derived.Test.YtggejkkpajpmkaaJl
import Derived.Test.YtggejkkpajpmkaaWrapC
namespace Go.Proofs.Ytggejkkpajpmkaa
open Go.ChangeShapes Go.WideShapes Go.ChangeAt Go.RowKit

set_option maxRecDepth 100000 in
/-- A row of values that comes in, as a field. -/
theorem open_row_cell {H : Type} {enc : TypeId × Value → H} {W : World} {base : Nat} {spare : Nat → Bool} {held : Bool} {v : Value} {fuel : Nat} {x : DataW H × List MemPlace}
    (hf : DataW.trod enc Try.prog W base spare held fuel 22 [v] = some x) :
    ∃ (A : Option Addr) (n cap : Nat) (l : List Vl), v = .slice A n cap ∧ Inp W A n l := by
  rcases slice_fields Try.underlying22 Try.underlying24 (by kernel_rfl) cellsV hf with h0 | ⟨a, n, cap, h1, h2, h3, h4⟩
  · obtain rfl : v = .slice none 0 0 := by simpa using h0
    exact ⟨none, 0, 0, [], rfl, by unfold maxLen; omega, ⟨rfl, fun j hj => absurd hj (by simp)⟩, (fun x hx => by cases hx), (fun x hx => by cases hx)⟩
  · obtain rfl : v = .slice (some a) n cap := by simpa using h1
    have each : ∀ i, i < n → ∃ x : Vl, VlAt W (a.add (i * 3)) x ∧ x.s.size ≤ maxLen ∧ In64 x.i := by
      intro i hi
      obtain ⟨v0, y0, n0, c0, t0⟩ := h4 i hi 0 _ rfl
      obtain ⟨v1, y1, n1, c1, t1⟩ := h4 i hi 1 _ rfl
      obtain ⟨v2, y2, n2, c2, t2⟩ := h4 i hi 2 _ rfl
      obtain ⟨k, e0, _, wk⟩ := DataW.trod_int Try.underlying3 t0
      obtain ⟨j, e1, _, wi⟩ := DataW.trod_int Try.underlying2 t1
      obtain ⟨s, e2, _, ws⟩ := DataW.trod_string Try.underlying9 t2
      simp at e0 e1 e2
      subst e0 e1 e2
      exact ⟨⟨k, j, s⟩, ⟨c0, c1, c2⟩, ws, in64_of_wf wi⟩
    have hall : ∃ l : List Vl, l.length = n ∧ ∀ j (hj : j < l.length), VlAt W (a.add (j * 3)) l[j] ∧ l[j].s.size ≤ maxLen ∧ In64 l[j].i := by
      refine ⟨(List.range n).map fun i => if h : i < n then Classical.choose (each i h) else ⟨0, 0, ⟨#[]⟩⟩, by simp, fun j hj => ?_⟩
      have hj' : j < n := by simpa using hj
      rw [List.getElem_map, List.getElem_range, dif_pos hj']
      exact Classical.choose_spec (each j hj')
    obtain ⟨l, hl, hat⟩ := hall
    refine ⟨some a, n, cap, l, rfl, by omega, ⟨hl, fun j hj => ⟨a, rfl, (hat j hj).1, ?_⟩⟩, fun x hx => ?_, fun x hx => ?_⟩
    · have := World.block_lt_of_cell? W _ (hat j hj).1.k
      rwa [add_block] at this
    · obtain ⟨j, hj, rfl⟩ := List.getElem_of_mem hx
      exact (hat j hj).2.1
    · obtain ⟨j, hj, rfl⟩ := List.getElem_of_mem hx
      exact (hat j hj).2.2
theorem array8 {α : Type} {cs : Array α} (h : cs.size = 8) : ∃ c0 c1 c2 c3 c4 c5 c6 c7, cs = #[c0, c1, c2, c3, c4, c5, c6, c7] := by
  obtain ⟨l⟩ := cs
  match l, h with
  | [c0, c1, c2, c3, c4, c5, c6, c7], _ => exact ⟨c0, c1, c2, c3, c4, c5, c6, c7, rfl⟩
theorem cellsJ : Try.prog.cellsOf 41 = 8 := by kernel_rfl
theorem cellsRow : Try.prog.cellsOf 22 = 1 := by kernel_rfl
theorem cellsI : Try.prog.cellsOf 3 = 1 := by kernel_rfl
theorem cellsI64 : Try.prog.cellsOf 2 = 1 := by kernel_rfl
theorem cellsS : Try.prog.cellsOf 9 = 1 := by kernel_rfl
theorem readsJ : Try.prog.readableRec 41 = true := by kernel_rfl
theorem rowJ : 41 < Try.prog.types.size := of_decide_eq_true (by kernel_rfl)
set_option maxRecDepth 100000 in
theorem open_value_cells {H : Type} {enc : TypeId × Value → H} {W : World} {base : Nat} {spare : Nat → Bool} {held : Bool} {c0 c1 c2 : Value} {fuel : Nat} {x : DataW H × List MemPlace}
    (hf : DataW.trod enc Try.prog W base spare held fuel 24 [c0, c1, c2] = some x) :
    ∃ (k i : Int) (s : ByteArray), c0 = .int .i64 k ∧ c1 = .int .i64 i ∧ c2 = .string s ∧ (Lit.int .i64 i).wf = true ∧ s.size ≤ maxLen := by
  obtain ⟨z0, z1, z2, n', rfl, _, g0, g1, g2⟩ := Go.Deep.trod_struct3 Try.underlying24 hf
  simp only [cellsI, cellsI64, cellsS] at g0 g1 g2
  obtain ⟨k, ek, rfl, wk⟩ := DataW.trod_int Try.underlying3 g0
  obtain ⟨i, ei, rfl, wi⟩ := DataW.trod_int Try.underlying2 g1
  obtain ⟨s, es, rfl, ws⟩ := DataW.trod_string Try.underlying9 g2
  simp at ek ei es
  subst ek ei es
  exact ⟨k, i, s, rfl, rfl, rfl, wi, ws⟩
set_option maxRecDepth 100000 in
theorem open_joins {H : Type} {enc : TypeId × Value → H} {W : World} {r : Reach} {b0 base : Nat} {spare : Nat → Bool} {held : Bool} {v : Value} {d : DataW H} {p : List MemPlace}
    (hv : Value.okWide Try.prog W r b0 41 v) (h : DataW.Trod enc Try.prog W base spare held 41 v d p) :
    ∃ (A : Option Addr) (n cap : Nat) (l : List Vl) (A' : Option Addr) (m cap' : Nat) (l' : List Vl) (k i : Int) (s : ByteArray) (k' i' : Int) (s' : ByteArray),
      v = .agg #[.slice A n cap, .slice A' m cap', .int .i64 k, .int .i64 i, .string s, .int .i64 k', .int .i64 i', .string s'] ∧ Inp W A n l ∧ Inp W A' m l' ∧
      (Lit.int .i64 i).wf = true ∧ s.size ≤ maxLen ∧ (Lit.int .i64 i').wf = true ∧ s'.size ≤ maxLen := by
  obtain ⟨cs, rfl, hsz⟩ := okWide_struct Try.underlying41 hv
  obtain ⟨c0, c1, c2, c3, c4, c5, c6, c7, rfl⟩ := array8 (hsz.trans cellsJ)
  obtain ⟨fuel, hf⟩ := h
  obtain ⟨y0, y1, y2, y3, n, hx, _, h0, h1, h2, h3⟩ := Go.Joins.trod_struct4 Try.underlying41 hf
  simp only [Value.cells, cellsRow, cellsV] at h0 h1 h2 h3
  obtain ⟨A, n0, cap, l, rfl, hi⟩ := open_row_cell h0
  obtain ⟨A', m, cap', l', rfl, hi'⟩ := open_row_cell h1
  obtain ⟨k, i, s, rfl, rfl, rfl, wi, ws⟩ := open_value_cells h2
  obtain ⟨k', i', s', rfl, rfl, rfl, wi', ws'⟩ := open_value_cells h3
  exact ⟨A, n0, cap, l, A', m, cap', l', k, i, s, k', i', s', rfl, hi, hi', wi, ws, wi', ws'⟩

set_option maxRecDepth 100000 in
theorem codeJoins_lifted (os : Os) (started : os.Started) (H : Type) (enc : TypeId × Value → H) :
    ReturnsInHanded {} Try.checked os 5 .any (Rows.codeJoinsSpec.pre6 enc Try.prog Try.f5 Rows.codeJoinsRow.domain false) (Rows.codeJoinsSpec.post enc Try.prog Try.f5 false true false false) := by
  refine returnsInHanded_of_change (C := Try.checked) own started (by kernel_rfl) Try.func5
    (ChangeSpec.witness6 (enc := enc) (C := Try.checked) false ⟨#[], #[.agg #[.slice none 0 0, .slice none 0 0, .int .i64 0, .int .i64 0, .string ⟨#[]⟩, .int .i64 0, .int .i64 0, .string ⟨#[]⟩]], []⟩ 8 (by kernel_rfl) (by kernel_rfl) (by kernel_rfl) (by kernel_rfl)) ?_
  intro W base args ds gs before hval0 hW hcnd _
  have hval : ∀ (j : Nat) t v, Try.f5.params[j]? = some t → args[j]? = some v → Value.okWide Try.prog W .any base t v := hval0
  have hW' := hW
  have hlt : ∀ p ∈ before, p.block < W.heap.size := fun p hp => hW.lt p hp
  obtain ⟨p, q, hA0, hV, rfl, _, _⟩ := hW
  have hA : DataW.TrodAll enc Try.prog W 0 (fun _ => true) true Try.f5.params.toList args.toList ds p := hA0
  rw [Try.params5] at hA hval
  obtain ⟨v0, d0, rfl, rfl, h0⟩ := trodAll_one hA
  obtain ⟨rfl, rfl⟩ := trodVars_none hV
  simp only [List.append_nil] at hW' hlt
  obtain ⟨A, n, cap, l, A', m, cap', l', k, i, s, k', i', s', rfl, hi, hi', wi, ws, wi', ws'⟩ := open_joins (hval 0 41 v0 rfl rfl) h0
  clear hA0 hval0
  refine (law_joins A n cap l A' m cap' l' k i s k' i' s' W hi hi' (in64_of_wf wi) ws (in64_of_wf wi') ws').mono fun e W' ⟨he, hb⟩ => ?_
  subst he
  refine ⟨_, rfl, _, _, _, [], p, [], hW', ?_, ?_, ?_, hb.frame _, fun h => by cases h⟩
  · exact trodAll_mk1 (shut_bool Try.underlying4 true)
  · exact trodAll_mk1 (Below.trod laidOutB_prog readsJ rowJ h0 hb (fun x hx => hlt x hx))
  · rfl

theorem codeJoins_holds : Rows.CodeJoinsSaid :=
  OpenClaim.holds_of_wide 5 Try.f5 rfl rfl rfl rfl rfl rfl rfl ⟨rfl, rfl, rfl, rfl, rfl⟩ rfl rfl rfl rfl rfl (by kernel_rfl) Try.func5 (by kernel_rfl)
    (of_decide_eq_true (by kernel_rfl)) (by unfold Func.isWrapper; first | (rw [if_pos (by decide +kernel)]; kernel_rfl) | (rw [if_neg (by decide +kernel)]; exact ⟨rfl, rfl⟩))
    (fun os started H enc _ => codeJoins_lifted os started H enc)
end Go.Proofs.Ytggejkkpajpmkaa
