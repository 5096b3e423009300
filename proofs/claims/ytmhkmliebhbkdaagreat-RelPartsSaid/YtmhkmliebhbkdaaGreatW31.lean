import Derived.Test.YtmhkmliebhbkdaaGreatW14
import Derived.Test.YtmhkmliebhbkdaaGreatW19
import Derived.Test.YtmhkmliebhbkdaaGreatW30

/- A table with rows that comes in. -/
namespace Go.Proofs.YtmhkmliebhbkdaaGreat
open Go.ChangeShapes Go.WideShapes Go.ChangeAt Go.RowKit Go.Deep

theorem cellsRe : Tryz.prog.cellsOf 34 = 12 := by kernel_rfl
theorem cells1R : Tryz.prog.cellsOf 32 = 1 := by kernel_rfl
theorem cells1V7 : Tryz.prog.cellsOf 47 = 1 := by kernel_rfl
theorem twelve {α : Type} {l : List α} (h : l.length = 12) : ∃ a b c d e f a' b' c' d' e' f', l = [a, b, c, d, e, f, a', b', c', d', e', f'] := by
  match l, h with
  | [a, b, c, d, e, f, a', b', c', d', e', f'], _ => exact ⟨a, b, c, d, e, f, a', b', c', d', e', f', rfl⟩
section
variable {H : Type} {enc : TypeId × Value → H} {w : World} {base : Nat} {spare : Nat → Bool} {held : Bool}
set_option maxRecDepth 100000 in
/-- Rows that read. -/
theorem rows_of {fuel : Nat} {v : Value} {x : DataW H × List MemPlace} (hf : DataW.trod enc Tryz.prog w base spare held fuel 32 [v] = some x) :
    ∃ (A : Option Addr) (n cap : Nat) (rows : List (List Vl)), v = .slice A n cap ∧ RowsIn w A n rows ∧ ∀ r ∈ rows, ∀ x ∈ r, In64 x.i := by
  rcases open_slice1 Tryz.underlying32 cells1V7 hf with h0 | ⟨a, n, cap, m, q, V, D, Pl, h1, _, h2, h3, hm, _, hat⟩
  · have h0 := h0.1
    simp only [List.cons.injEq, and_true] at h0
    subst h0
    exact ⟨none, 0, 0, [], rfl, ⟨rfl, by unfold maxLen; omega, fun j hj => absurd hj (by simp)⟩, fun r hr => by cases hr⟩
  · simp only [List.cons.injEq, and_true] at h1
    subst h1
    have hnm : n ≤ m := by rw [hm]; split <;> omega
    have each : ∀ i, i < n → ∃ r : List Vl, ∃ D m c, w.cell? (a.add i) = some (.slice D m c) ∧ m ≤ maxLen ∧ Vals w w.heap.size D m r ∧ (∀ x ∈ r, x.s.size ≤ maxLen) ∧ ∀ x ∈ r, In64 x.i := by
      intro i hi
      obtain ⟨c0, t0⟩ := hat i (by omega)
      obtain ⟨D, m', c', r, e, g1, g2, g3, g4⟩ := vrow_of t0
      exact ⟨r, D, m', c', c0.trans (congrArg some e), g1, g2, g3, g4⟩
    have hall : ∃ l : List (List Vl), l.length = n ∧ ∀ j (hj : j < l.length), ∃ D m c, w.cell? (a.add j) = some (.slice D m c) ∧ m ≤ maxLen ∧ Vals w w.heap.size D m l[j] ∧ (∀ x ∈ l[j], x.s.size ≤ maxLen) ∧ ∀ x ∈ l[j], In64 x.i := by
      refine ⟨(List.range n).map fun i => if h : i < n then Classical.choose (each i h) else [], by simp, fun j hj => ?_⟩
      have hj' : j < n := by simpa using hj
      rw [List.getElem_map, List.getElem_range, dif_pos hj']
      exact Classical.choose_spec (each j hj')
    obtain ⟨l, hl, hat'⟩ := hall
    refine ⟨some a, n, cap, l, rfl, ⟨hl, by omega, fun j hj => ?_⟩, fun r hr => ?_⟩
    · obtain ⟨D, m', c', h1, h2, h3, h4, _⟩ := hat' j hj
      exact ⟨a, D, m', c', rfl, h1, h2, h3, h4⟩
    · obtain ⟨j, hj, rfl⟩ := List.getElem_of_mem hr
      obtain ⟨D, m', c', _, _, _, _, h5⟩ := hat' j hj
      exact h5
set_option maxRecDepth 100000 in
/-- A table with rows that comes in. -/
theorem open_rel {r : Reach} {b0 : Nat} {v : Value} {d' : DataW H} {p' : List MemPlace} (hv : Value.okWide Tryz.prog w r b0 34 v) (h : DataW.Trod enc Tryz.prog w base spare held 34 v d' p') :
    ∃ (nm : ByteArray) (A : Option Addr) (n c : Nat) (key : Int) (U : Option Addr) (m cu : Nat) (R : Option Addr) (p cr : Nat) (op : ByteArray) (k i : Int) (vs s : ByteArray) (B : Option Addr) (q d : Nat) (Ar : Option Addr) (nr ca : Nat) (cols : List Cl) (us : List Int) (rs : List Rf) (rows : List (List Vl)),
      v = .agg #[.string nm, .slice A n c, .int .i64 key, .slice U m cu, .slice R p cr, .string op, .int .i64 k, .int .i64 i, .string vs, .string s, .slice B q d, .slice Ar nr ca] ∧ TbIn w nm A n c key U m cu R p cr op k i vs s B q d cols us rs ∧ RowsIn w Ar nr rows ∧ ∀ r ∈ rows, ∀ x ∈ r, In64 x.i := by
  obtain ⟨cs, rfl, _⟩ := okWide_struct Tryz.underlying34 hv
  obtain ⟨fuel, hf⟩ := h
  obtain ⟨xs, n', _, _, hl, hxl, hat⟩ := DataW.trod_struct Tryz.underlying34 hf
  rw [cellsRe] at hl
  obtain ⟨c0, c1, c2, c3, c4, c5, c6, c7, c8, c9, c10, c11, hcs⟩ := twelve hl
  have hx2 : xs.length = 2 := by rw [hxl]; rfl
  rw [hcs] at hat
  have g0 : DataW.trod enc Tryz.prog w base spare held n' 31 (([c0, c1, c2, c3, c4, c5, c6, c7, c8, c9, c10, c11].drop 0).take (Tryz.prog.cellsOf 31)) = some (xs[0]'(by omega)) := (hat 0 _ rfl).trans (List.getElem?_eq_getElem (by omega))
  have g1 : DataW.trod enc Tryz.prog w base spare held n' 32 (([c0, c1, c2, c3, c4, c5, c6, c7, c8, c9, c10, c11].drop 11).take (Tryz.prog.cellsOf 32)) = some (xs[1]'(by omega)) := (hat 1 _ rfl).trans (List.getElem?_eq_getElem (by omega))
  rw [cellsTb] at g0
  rw [cells1R] at g1
  simp only [List.drop_zero, List.drop_succ_cons, List.take_succ_cons, List.take_zero] at g0 g1
  obtain ⟨nm, A, n, c, key, U, m, cu, R, p, cr, op, k, i, vs, s, B, q, d, cols, us, rs, e, hT⟩ := table_of g0
  obtain ⟨Ar, nr, ca, rows, e2, hR, h64⟩ := rows_of g1
  refine ⟨nm, A, n, c, key, U, m, cu, R, p, cr, op, k, i, vs, s, B, q, d, Ar, nr, ca, cols, us, rs, rows, ?_, hT, hR, h64⟩
  obtain ⟨lst⟩ := cs
  have hl2 : lst = [c0, c1, c2, c3, c4, c5, c6, c7, c8, c9, c10, c11] := by simpa [Value.cells] using hcs
  rw [hl2]
  simp only [List.cons.injEq, and_true] at e
  obtain ⟨rfl, rfl, rfl, rfl, rfl, rfl, rfl, rfl, rfl, rfl, rfl⟩ := e
  subst e2
  rfl
end
theorem readsRe : Tryz.prog.readableRec 34 = true := by kernel_rfl
theorem rowRe : 34 < Tryz.prog.types.size := of_decide_eq_true (by kernel_rfl)
end Go.Proofs.YtmhkmliebhbkdaaGreat

/- RelParts: for every input the law returns true, and the input reads behind the call as it did. No condition. -/
namespace Go.Proofs.YtmhkmliebhbkdaaGreat
open Go.ChangeShapes Go.WideShapes Go.ChangeAt Go.RowKit

theorem ownrelParts : ownKnob Tryz.prog.godebug = none := by kernel_rfl
theorem readsEx7 : Tryz.prog.readableRec 29 = true := by kernel_rfl
theorem rowEx7 : 29 < Tryz.prog.types.size := of_decide_eq_true (by kernel_rfl)
set_option maxRecDepth 100000 in
theorem relParts_lifted (os : Os) (started : os.Started) (H : Type) (enc : TypeId × Value → H) :
    ReturnsInHanded {} Tryz.checked os 4 .any (Rows.relPartsSpec.pre6 enc Tryz.prog Tryz.f4 Rows.relPartsRow.domain false) (Rows.relPartsSpec.post enc Tryz.prog Tryz.f4 false true false false) := by
  refine returnsInHanded_of_change (C := Tryz.checked) ownrelParts started (by kernel_rfl) Tryz.func4
    (ChangeSpec.witness6 (enc := enc) (C := Tryz.checked) false ⟨#[], #[.agg #[.string ⟨#[]⟩, .slice none 0 0, .int .i64 0, .slice none 0 0, .slice none 0 0, .string ⟨#[]⟩, .int .i64 0, .int .i64 0, .string ⟨#[]⟩, .string ⟨#[]⟩, .slice none 0 0, .slice none 0 0], .agg #[.string ⟨#[]⟩, .int .i64 0, .int .i64 0, .string ⟨#[]⟩, .string ⟨#[]⟩, .slice none 0 0]], []⟩ 8 (by kernel_rfl) (by kernel_rfl) (by kernel_rfl) (by kernel_rfl)) ?_
  intro W base args ds gs before hval0 hW hcnd _
  have hval : ∀ (j : Nat) t v, Tryz.f4.params[j]? = some t → args[j]? = some v → Value.okWide Tryz.prog W .any base t v := hval0
  have hW' := hW
  have hlt : ∀ p ∈ before, p.block < W.heap.size := fun p hp => hW.lt p hp
  obtain ⟨p, q, hA0, hV, rfl, _, _⟩ := hW
  have hA : DataW.TrodAll enc Tryz.prog W 0 (fun _ => true) true Tryz.f4.params.toList args.toList ds p := hA0
  rw [Tryz.params4] at hA hval
  obtain ⟨v0, v1, d0, d1, p0, p1, rfl, rfl, rfl, h0, h1⟩ := trodAll_two hA
  obtain ⟨rfl, rfl⟩ := trodVars_none hV
  simp only [List.append_nil] at hW' hlt
  obtain ⟨nm, A, n, c, key, U, m, cu, R, pp, cr, op, k, i, vs, s, B, qq, dd, Ar, nr, ca, cols, us, rs, rows, rfl, hT, hR, h64⟩ := open_rel (hval 0 34 v0 rfl rfl) h0
  obtain ⟨o1, k1, i1, x1, s1, u1, rfl, a10, a11, a12, a13, a14⟩ := open_expr (hval 1 29 v1 rfl rfl) h1
  obtain ⟨B1, q1, c1, rfl, _⟩ := (a14 14).form
  clear hA0 hval0
  refine (law_parts7 nm A n c key U m cu R pp cr op k i vs s B qq dd Ar nr ca cols us rs rows o1 k1 i1 x1 s1 B1 q1 c1 W hT hR h64 a10 a11 a12 a13 (a14 14)).mono fun e W' ⟨he, hb⟩ => ?_
  subst he
  refine ⟨_, rfl, _, _, _, [], p0 ++ p1, [], hW', ?_, ?_, ?_, hb.frame _, fun h => by cases h⟩
  · exact trodAll_mk1 (shut_bool Tryz.underlying4 true)
  · exact trodAll_mk2 (Below.trod laidOutB_E readsRe rowRe h0 hb (fun x hx => hlt x (by simp [hx]))) (Below.trod laidOutB_E readsEx7 rowEx7 h1 hb (fun x hx => hlt x (by simp [hx])))
  · rfl

theorem relParts_holds : Rows.RelPartsSaid :=
  OpenClaim.holds_of_wide 4 Tryz.f4 rfl rfl rfl rfl rfl rfl rfl ⟨rfl, rfl, rfl, rfl, rfl⟩ rfl rfl rfl rfl rfl (by kernel_rfl) Tryz.func4 (by kernel_rfl)
    (of_decide_eq_true (by kernel_rfl)) (by unfold Func.isWrapper; first | (rw [if_pos (by decide +kernel)]; kernel_rfl) | (rw [if_neg (by decide +kernel)]; exact ⟨rfl, rfl⟩))
    (fun os started H enc _ => relParts_lifted os started H enc)
end Go.Proofs.YtmhkmliebhbkdaaGreat
