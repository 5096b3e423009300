import Derived.Test.YtnahejljelbbgaaGreatDoorLw
import Derived.Test.YtnahejljelbbgaaGreatDoorWrap
import Derived.Handed
import Derived.Carry
import Derived.Deep.Slices
import Derived.Deep.Fields
import Derived.ChangeSame
/- Where rows of tokens come in. -/
namespace Go.Proofs.YtnahejljelbbgaaGreatDoor
open Go.ChangeShapes Go.WideShapes Go.ChangeAt Go.RowKit Go.Deep

theorem cellsTk : Tryz.prog.cellsOf 37 = 2 := by kernel_rfl
section
variable {H : Type} {enc : TypeId × Value → H} {P : Program} {w : World} {base : Nat} {spare : Nat → Bool} {held : Bool}
/-- The fields of a struct whose fields are one cell each, at each element of a slice. -/
theorem slice_fields {t e : TypeId} {fs : Array Field} {fuel : Nat} {cs : List Value} {x : DataW H × List MemPlace} (ht : P.underlying t = some (.slice e)) (he : P.underlying e = some (.struct fs))
    (hone : oneCellFields P fs = true) (hC : P.cellsOf e = fs.size) (h : DataW.trod enc P w base spare held fuel t cs = some x) :
    (cs = [.slice none 0 0]) ∨
    ∃ (a : Addr) (len cap : Nat), cs = [.slice (some a) len cap] ∧ len ≤ cap ∧ cap ≤ maxLen ∧
      ∀ i, i < len → ∀ (j : Nat) (f : Field), fs[j]? = some f → ∃ (v : Value) (y : DataW H × List MemPlace) (n : Nat), w.cell? ((a.add (i * fs.size)).add j) = some v ∧ DataW.trod enc P w base spare held n f.type [v] = some y := by
  rcases Go.Deep.open_slice ht h with h0 | ⟨a, len, cap, m, n, D, Pl, hcs, hb, hl, hm, hmm, hx, hi⟩
  · exact .inl h0.1
  · refine .inr ⟨a, len, cap, hcs, hl, hm, fun i hil j f hj => ?_⟩
    have hlm : len ≤ m := by rw [hmm]; split <;> omega
    obtain ⟨cs', hc, ht'⟩ := hi i (by omega)
    rw [hC] at hc
    obtain ⟨ys, n', hn', hy, hlen, hyl, hf⟩ := DataW.trod_struct he ht'
    obtain ⟨_, hcl, hat⟩ := World.cells?_some hc
    obtain ⟨ho, hk⟩ := hone_of hone j f hj
    have hjl : j < fs.size := (Array.getElem?_eq_some_iff.1 hj).1
    have hcell := hat j hjl
    have hv : cs'[j]? = some (cs'[j]'(by omega)) := List.getElem?_eq_getElem (by omega)
    have h1 := hf j f hj
    rw [ho, hk] at h1
    have hone' : (cs'.drop j).take 1 = [cs'[j]'(by omega)] := by
      rw [List.drop_eq_getElem_cons (by omega)]
      rfl
    rw [hone'] at h1
    have hys : ys[j]? = some (ys[j]'(by omega)) := List.getElem?_eq_getElem (by omega)
    exact ⟨_, _, _, by rw [hcell, hv], h1.trans hys⟩
end


theorem add_at (a : Addr) (j : Nat) (hj : j ≠ 0) : a.add j = ⟨a.block, a.off + j, none⟩ := by unfold Addr.add; rw [if_neg hj]
set_option maxRecDepth 100000 in
/-- A row of tokens that comes in. -/
theorem open_trow {H : Type} {enc : TypeId × Value → H} {W : World} {r : Reach} {b0 base : Nat} {spare : Nat → Bool} {held : Bool} {v : Value} {d : DataW H} {p : List MemPlace}
    (hv : Value.okWide Tryz.prog W r b0 22 v) (h : DataW.Trod enc Tryz.prog W base spare held 22 v d p) :
    ∃ (A : Option Addr) (n cap : Nat) (l : List Tk), v = .slice A n cap ∧ InpT W A n cap l := by
  obtain ⟨A, n, cap, rfl⟩ := okWide_slice Tryz.underlying22 hv
  obtain ⟨fuel, hf⟩ := h
  rcases slice_fields Tryz.underlying22 Tryz.underlying37 (by kernel_rfl) cellsTk hf with h0 | ⟨a, len, cap', h1, h2, h3, h4⟩
  · have e : Value.slice A n cap = .slice none 0 0 := by simpa [Value.cells] using h0
    injection e with e1 e2 e3
    subst e1 e2 e3
    exact ⟨none, 0, 0, [], rfl, by unfold maxLen; omega, Nat.le_refl _, ⟨rfl, fun j hj => absurd hj (by simp)⟩, (fun x hx => by cases hx)⟩
  · have e : Value.slice A n cap = .slice (some a) len cap' := by simpa [Value.cells] using h1
    injection e with e1 e2 e3
    subst e1 e2 e3
    have each : ∀ i, i < n → ∃ x : Tk, TkAt W (a.add (i * 2)) x ∧ (⟨x.s.toArray⟩ : ByteArray).size ≤ maxLen := by
      intro i hi
      obtain ⟨v0, y0, n0, c0, t0⟩ := h4 i hi 0 _ rfl
      obtain ⟨v1, y1, n1, c1, t1⟩ := h4 i hi 1 _ rfl
      obtain ⟨k, e0, _, wk⟩ := DataW.trod_int Tryz.underlying3 t0
      obtain ⟨s, e1, _, ws⟩ := DataW.trod_string Tryz.underlying9 t1
      simp at e0 e1
      subst e0 e1
      have es : (⟨s.data.toList.toArray⟩ : ByteArray) = s := by cases s; simp
      refine ⟨⟨k, s.data.toList⟩, ⟨c0, ?_⟩, by rw [es]; exact ws⟩
      rw [es]
      exact c1
    have hall : ∃ l : List Tk, l.length = n ∧ ∀ j (hj : j < l.length), TkAt W (a.add (j * 2)) l[j] ∧ (⟨l[j].s.toArray⟩ : ByteArray).size ≤ maxLen := by
      refine ⟨(List.range n).map fun i => if h : i < n then Classical.choose (each i h) else ⟨0, []⟩, by simp, fun j hj => ?_⟩
      have hj' : j < n := by simpa using hj
      rw [List.getElem_map, List.getElem_range, dif_pos hj']
      exact Classical.choose_spec (each j hj')
    obtain ⟨l, hl, hat⟩ := hall
    refine ⟨some a, n, cap, l, rfl, by omega, h2, ⟨hl, fun j hj => ⟨a, rfl, (hat j hj).1, ?_⟩⟩, fun x hx => ?_⟩
    · have := World.block_lt_of_cell? W _ (hat j hj).1.k
      rwa [add_blk] at this
    · obtain ⟨j, hj, rfl⟩ := List.getElem_of_mem hx
      exact (hat j hj).2
theorem laidOutB_prog : laidOutB Tryz.prog = true := by kernel_rfl
theorem readsTrow : Tryz.prog.readableRec 22 = true := by kernel_rfl
theorem rowTrow : 22 < Tryz.prog.types.size := of_decide_eq_true (by kernel_rfl)
end Go.Proofs.YtnahejljelbbgaaGreatDoor
