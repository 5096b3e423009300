import Derived.Test.YtnahejljelbbgaaRows
import Derived.Test.YtnahejljelbbgaaCe
import Derived.Test.YtnahejljelbbgaaCq
import Derived.ProofKit
import Derived.OpenShut
import Derived.Handed
import Derived.Carry
import Derived.SizedLaws
import Derived.Lib.SmallJoins
import Derived.Deep.Slices
import Derived.Deep.Fields
import Derived.ChangeSame
/- From a law's contract to its row, where rows of values come in. -/
namespace Go.Proofs.Ytnahejljelbbgaa
open Go.ChangeShapes Go.WideShapes Go.ChangeAt Go.RowKit Go.Deep

theorem own : ownKnob Try.prog.godebug = none := by kernel_rfl
theorem cellsV : Try.prog.cellsOf 31 = 3 := by kernel_rfl
set_option maxRecDepth 100000 in
/-- A value that comes in. -/
theorem open_value {H : Type} {enc : TypeId × Value → H} {W : World} {r : Reach} {b0 base : Nat} {spare : Nat → Bool} {held : Bool} {v : Value} {d : DataW H} {p : List MemPlace}
    (hv : Value.okWide Try.prog W r b0 31 v) (h : DataW.Trod enc Try.prog W base spare held 31 v d p) :
    ∃ (k i : Int) (s : ByteArray), v = .agg #[.int .i64 k, .int .i64 i, .string s] ∧ d = .agg [.lit (.int .i64 k), .lit (.int .i64 i), .lit (.string s.data.toList)] ∧ p = [] ∧ (Lit.int .i64 k).wf = true ∧ (Lit.int .i64 i).wf = true ∧ s.size ≤ maxLen := by
  obtain ⟨c0, c1, c2, y0, y1, y2, n, rfl, rfl, rfl, h0, h1, h2⟩ := Go.Joins.open_agg3 Try.underlying31 (by kernel_rfl) cellsV hv h
  obtain ⟨k, e0, rfl, wk⟩ := DataW.trod_int Try.underlying3 h0
  obtain ⟨i, e1, rfl, wi⟩ := DataW.trod_int Try.underlying2 h1
  obtain ⟨s, e2, rfl, ws⟩ := DataW.trod_string Try.underlying9 h2
  simp at e0 e1 e2
  subst e0 e1 e2
  exact ⟨k, i, s, rfl, rfl, rfl, wk, wi, ws⟩
/-- It reads so in whatever world. -/
theorem shut_value {H : Type} {enc : TypeId × Value → H} {W : World} {base : Nat} {spare : Nat → Bool} {held : Bool} {k i : Int} {s : ByteArray} (wk : (Lit.int .i64 k).wf = true) (wi : (Lit.int .i64 i).wf = true) (ws : s.size ≤ maxLen) :
    DataW.Trod enc Try.prog W base spare held 31 (.agg #[.int .i64 k, .int .i64 i, .string s]) (.agg [.lit (.int .i64 k), .lit (.int .i64 i), .lit (.string s.data.toList)]) [] :=
  Go.Joins.shut_agg3 (y0 := (.lit (.int .i64 k), [])) (y1 := (.lit (.int .i64 i), [])) (y2 := (.lit (.string s.data.toList), [])) Try.underlying31 (by kernel_rfl) cellsV
    ⟨1, by simp [DataW.trod, Try.underlying3, wk]⟩ ⟨1, by simp [DataW.trod, Try.underlying2, wi]⟩ ⟨1, by simp [DataW.trod, Try.underlying9, ws]⟩

section
variable {H : Type} {enc : TypeId × Value → H} {P : Program} {w : World} {base : Nat} {spare : Nat → Bool} {held : Bool}
/-- The fields of a struct whose fields are one cell each, at each element of a slice. -/
theorem slice_fields {t e : TypeId} {fs : Array Field} {fuel : Nat} {cs : List Value} {x : DataW H × List MemPlace} (ht : P.underlying t = some (.slice e)) (he : P.underlying e = some (.struct fs))
    (hone : oneCellFields P fs = true) (hC : P.cellsOf e = fs.size) (h : DataW.trod enc P w base spare held fuel t cs = some x) :
    (cs = [.slice none 0 0]) ∨
    ∃ (a : Addr) (len cap : Nat), cs = [.slice (some a) len cap] ∧ len ≤ cap ∧ cap ≤ maxLen ∧
      ∀ i, i < len → ∀ (j : Nat) (f : Field), fs[j]? = some f → ∃ (v : Value) (y : DataW H × List MemPlace) (n : Nat), w.cell? ((a.add (i * fs.size)).add j) = some v ∧ DataW.trod enc P w base spare held n f.type [v] = some y := by
  rcases Go.Deep.open_slice ht h with h0 | ⟨a, len, cap, m, n, D, Pl, hcs, hb, hl, hm, hmm, hx, hi⟩
  · exact .inl h0.1
  · refine .inr ⟨a, len, cap, hcs, hl, hm, fun i hil j f hj => ?_⟩
    have hlm : len ≤ m := by rw [hmm]; split <;> omega
    obtain ⟨cs', hc, ht'⟩ := hi i (by omega)
    rw [hC] at hc
    obtain ⟨ys, n', hn', hy, hlen, hyl, hf⟩ := DataW.trod_struct he ht'
    obtain ⟨_, hcl, hat⟩ := World.cells?_some hc
    obtain ⟨ho, hk⟩ := hone_of hone j f hj
    have hjl : j < fs.size := (Array.getElem?_eq_some_iff.1 hj).1
    have hcell := hat j hjl
    have hv : cs'[j]? = some (cs'[j]'(by omega)) := List.getElem?_eq_getElem (by omega)
    have h1 := hf j f hj
    rw [ho, hk] at h1
    have hone' : (cs'.drop j).take 1 = [cs'[j]'(by omega)] := by
      rw [List.drop_eq_getElem_cons (by omega)]
      rfl
    rw [hone'] at h1
    have hys : ys[j]? = some (ys[j]'(by omega)) := List.getElem?_eq_getElem (by omega)
    exact ⟨_, _, _, by rw [hcell, hv], h1.trans hys⟩
end

theorem add_at (a : Addr) (j : Nat) (hj : j ≠ 0) : a.add j = ⟨a.block, a.off + j, none⟩ := by unfold Addr.add; rw [if_neg hj]
theorem add_zero' (a : Addr) : a.add 0 = a := rfl
set_option maxRecDepth 100000 in
/-- A row of values that comes in. -/
theorem open_row {H : Type} {enc : TypeId × Value → H} {W : World} {r : Reach} {b0 base : Nat} {spare : Nat → Bool} {held : Bool} {v : Value} {d : DataW H} {p : List MemPlace}
    (hv : Value.okWide Try.prog W r b0 22 v) (h : DataW.Trod enc Try.prog W base spare held 22 v d p) :
    ∃ (A : Option Addr) (n cap : Nat) (l : List Vl), v = .slice A n cap ∧ Inp W A n l := by
  obtain ⟨A, n, cap, rfl⟩ := okWide_slice Try.underlying22 hv
  obtain ⟨fuel, hf⟩ := h
  rcases slice_fields Try.underlying22 Try.underlying31 (by kernel_rfl) cellsV hf with h0 | ⟨a, len, cap', h1, h2, h3, h4⟩
  · have e : Value.slice A n cap = .slice none 0 0 := by simpa [Value.cells] using h0
    injection e with e1 e2 e3
    subst e1 e2 e3
    exact ⟨none, 0, 0, [], rfl, by unfold maxLen; omega, ⟨rfl, fun j hj => absurd hj (by simp)⟩, (fun x hx => by cases hx), (fun x hx => by cases hx)⟩
  · have e : Value.slice A n cap = .slice (some a) len cap' := by simpa [Value.cells] using h1
    injection e with e1 e2 e3
    subst e1 e2 e3
    have each : ∀ i, i < n → ∃ x : Vl, VlAt W (a.add (i * 3)) x ∧ x.s.size ≤ maxLen ∧ In64 x.i := by
      intro i hi
      obtain ⟨v0, y0, n0, c0, t0⟩ := h4 i hi 0 _ rfl
      obtain ⟨v1, y1, n1, c1, t1⟩ := h4 i hi 1 _ rfl
      obtain ⟨v2, y2, n2, c2, t2⟩ := h4 i hi 2 _ rfl
      obtain ⟨k, e0, _, wk⟩ := DataW.trod_int Try.underlying3 t0
      obtain ⟨j, e1, _, wi⟩ := DataW.trod_int Try.underlying2 t1
      obtain ⟨s, e2, _, ws⟩ := DataW.trod_string Try.underlying9 t2
      simp at e0 e1 e2
      subst e0 e1 e2
      exact ⟨⟨k, j, s⟩, ⟨c0, c1, c2⟩, ws, in64_of_wf wi⟩
    have hall : ∃ l : List Vl, l.length = n ∧ ∀ j (hj : j < l.length), VlAt W (a.add (j * 3)) l[j] ∧ l[j].s.size ≤ maxLen ∧ In64 l[j].i := by
      refine ⟨(List.range n).map fun i => if h : i < n then Classical.choose (each i h) else ⟨0, 0, ⟨#[]⟩⟩, by simp, fun j hj => ?_⟩
      have hj' : j < n := by simpa using hj
      rw [List.getElem_map, List.getElem_range, dif_pos hj']
      exact Classical.choose_spec (each j hj')
    obtain ⟨l, hl, hat⟩ := hall
    refine ⟨some a, n, cap, l, rfl, by omega, ⟨hl, fun j hj => ⟨a, rfl, (hat j hj).1, ?_⟩⟩, fun x hx => ?_, fun x hx => ?_⟩
    · have := World.block_lt_of_cell? W _ (hat j hj).1.k
      rwa [add_block] at this
    · obtain ⟨j, hj, rfl⟩ := List.getElem_of_mem hx
      exact (hat j hj).2.1
    · obtain ⟨j, hj, rfl⟩ := List.getElem_of_mem hx
      exact (hat j hj).2.2
theorem laidOutB_prog : laidOutB Try.prog = true := by kernel_rfl
theorem readsRow : Try.prog.readableRec 22 = true := by kernel_rfl
theorem rowRow : 22 < Try.prog.types.size := of_decide_eq_true (by kernel_rfl)
end Go.Proofs.Ytnahejljelbbgaa
