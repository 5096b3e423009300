import Derived.Test.YtmhkmliebhbkdaaGreatW11
import Derived.Maps.RangeWalk
import Derived.Test.YtmhkmliebhbkdaaGreatW10
import Derived.Laws.Rows
import Derived.Laws.Tables
import Derived.Test.YtmhkmliebhbkdaaGreatW01

/- The law ExprParts: what its regions leave behind. -/
namespace Go.Proofs.YtmhkmliebhbkdaaGreat
open Go.RowKit Go.Lib

/-- The blocks that are new since. -/
def since (w w' : World) : List Nat := List.range' w.heap.size (w'.heap.size - w.heap.size)
theorem mem_since {w w' : World} {b : Nat} : b ∈ since w w' ↔ w.heap.size ≤ b ∧ b < w'.heap.size := by
  unfold since
  rw [List.mem_range'_1]
  omega
/-- What Few leaves. -/
def fewRl (v : Value) (F : List Nat) (w : World) : Prop := ∃ (t : Ex) (B : Option Addr) (q p : Nat), v = .agg #[.string t.op, .int .i64 t.x.k, .int .i64 t.x.i, .string t.x.s, .string t.s, .slice B p q] ∧ okT t ∧ Tr w (fun b => b ∈ F) 14 t (.slice B p q)
theorem fewRl_lasting : ∀ u F, Lasting (fewRl u F) := by
  rintro u F w w' hb ⟨t, B, q, p, h1, h2, h3⟩
  exact ⟨t, B, q, p, h1, h2, h3.below hb⟩
theorem fewRl_enter {P : Program} {w : World} {f : FuncId} {args : Array Value} (h : Calls P f args w fun e w' => (∃ t u, e = .returned (EVt t u) ∧ okT t ∧ Tr w' (fun b => w.heap.size ≤ b) 14 t u) ∧ Below w.heap.size w w') : Rel1 P fewRl w (.ok (.enter f args) w) :=
  Calls.mono h fun e w' ⟨⟨t, u, h1, h2, h3⟩, hb⟩ => by
    obtain ⟨B, q, rfl, _⟩ := h3.form
    exact ⟨_, since w w', h1, ⟨t, B, q, _, rfl, h2, h3.keep (fun _ _ _ => rfl) (fun b hb hl => mem_since.2 ⟨hb, hl⟩)⟩, fun b hb => mem_since.1 hb, hb⟩
theorem fewRl_at {op : ByteArray} {k i : Int} {vs s : ByteArray} {B : Option Addr} {p q : Nat} {F : List Nat} {w : World} (h : fewRl (.agg #[.string op, .int .i64 k, .int .i64 i, .string vs, .string s, .slice B p q]) F w) :
    ∃ l, okT (.mk op ⟨k, i, vs⟩ s l) ∧ Tr w (fun b => b ∈ F) 14 (.mk op ⟨k, i, vs⟩ s l) (.slice B p q) := by
  obtain ⟨t, B', q', p', e, hk, ht⟩ := h
  injection e with e
  simp only [Array.mk.injEq, List.cons.injEq, Value.string.injEq, Value.int.injEq, Value.slice.injEq, true_and, and_true] at e
  obtain ⟨e1, e2, e3, e4, e5, e6, e7, e8⟩ := e
  subst e6 e7 e8
  cases t with
  | mk op0 x0 s0 l0 =>
    cases x0 with
    | mk k0 i0 vs0 =>
      change op = op0 at e1
      change k = k0 at e2
      change i = i0 at e3
      change vs = vs0 at e4
      change s = s0 at e5
      subst e1 e2 e3 e4 e5
      exact ⟨l0, hk, ht⟩
theorem ColS.in_ {w : World} {A : Option Addr} {n : Nat} {cs : List Cl} (h : ColS w A n cs) {a : Addr} (e : A = some a) : n = 0 ∨ a.block < w.heap.size := by
  rcases Nat.eq_zero_or_pos n with h0 | h0
  · exact .inl h0
  · obtain ⟨a', e', hc⟩ := h.2.2 0 (by rw [h.1]; exact h0)
    rw [e] at e'
    injection e' with e'
    subst e'
    have := hc.lt
    rw [add_block] at this
    exact .inr this
theorem Vals.below {w w' : World} {A : Option Addr} {n : Nat} {l : List Vl} (h : Vals w w.heap.size A n l) (hb : Below w.heap.size w w') : Vals w' w'.heap.size A n l := (h.keep hb).more hb.size
theorem ColS.same {W W' : World} {A : Option Addr} {n : Nat} {cs : List Cl} (h : ColS W A n cs) (hk : ∀ a, A = some a → n = 0 ∨ W'.heap[a.block]? = W.heap[a.block]?) : ColS W' A n cs :=
  ⟨h.1, h.2.1, fun j hj => by
    obtain ⟨a, e, hc⟩ := h.2.2 j hj
    rcases hk a e with h0 | h0
    · have := h.1; omega
    · exact ⟨a, e, hc.keep (by rw [add_block]; exact h0)⟩⟩
theorem Vals.same {W W' : World} {A : Option Addr} {n : Nat} {l : List Vl} (h : Vals W W.heap.size A n l) (hs : W.heap.size ≤ W'.heap.size) (hk : ∀ a, A = some a → n = 0 ∨ W'.heap[a.block]? = W.heap[a.block]?) : Vals W' W'.heap.size A n l :=
  ⟨h.1, fun j hj => by
    obtain ⟨a, e, h1, h2⟩ := h.2 j hj
    rcases hk a e with h0 | h0
    · have := h.1; omega
    · have hb : W'.heap[(a.add (j * 3)).block]? = W.heap[(a.add (j * 3)).block]? := by rw [add_block]; exact h0
      exact ⟨a, e, ⟨(World.cell?_of_block (w := W) (a := a.add (j * 3)) hb).trans h1.k, (World.cell?_of_block (w := W) (a := ⟨(a.add (j * 3)).block, _, none⟩) hb).trans h1.i, (World.cell?_of_block (w := W) (a := ⟨(a.add (j * 3)).block, _, none⟩) hb).trans h1.s⟩, by omega⟩⟩

/-- The law's variables, behind its first row: boxes of two expressions, columns, a row. -/
structure Par (w : World) (d0 d1 : Nat) (t1 : Ex) (u1 : Value) (t2 : Ex) (u2 : Value) (A : Option Addr) (n : Nat) (cs : List Cl) (A' : Option Addr) (m : Nat) (row : List Vl) (W : World) : Prop where
  pl : Below w.heap.size w W
  b0 : ExC W ⟨d0, 0, none⟩ t1 u1
  b1 : ExC W ⟨d1, 0, none⟩ t2 u2
  tr1 : Tr W (fun _ => True) 14 t1 u1
  tr2 : Tr W (fun _ => True) 14 t2 u2
  cols : ColS W A n cs
  vals : Vals W W.heap.size A' m row
theorem Par.later {w W W' : World} {d0 d1 : Nat} {t1 t2 : Ex} {u1 u2 : Value} {A : Option Addr} {n : Nat} {cs : List Cl} {A' : Option Addr} {m : Nat} {row : List Vl} (h : Par w d0 d1 t1 u1 t2 u2 A n cs A' m row W) (hb : Below W.heap.size W W') : Par w d0 d1 t1 u1 t2 u2 A n cs A' m row W' :=
  ⟨h.pl.trans (hb.mono h.pl.size), h.b0.keep (hb.block _ h.b0.lt), h.b1.keep (hb.block _ h.b1.lt), h.tr1.below hb, h.tr2.below hb, h.cols.below hb, h.vals.below hb⟩
theorem set6_at {W : World} {b : Nat} {c0 c1 c2 c3 c4 c5 : Value} {t : TypeId} (h : W.heap[b]? = some (.cells #[c0, c1, c2, c3, c4, c5] t (0, 0))) (x y z u v r : Value) : (set6 W b x y z u v r).heap[b]? = some (.cells #[x, y, z, u, v, r] t (0, 0)) := by
  unfold set6
  exact six_set (six_set (six_set (six_set (six_set (six_set h 0 x) 1 y) 2 z) 3 u) 4 v) 5 r
/-- The two boxes are filled. -/
theorem Par.start {w W : World} {d0 d1 : Nat} {t1 t2 : Ex} {u1 u2 : Value} {A : Option Addr} {n c : Nat} {A' : Option Addr} {m c' : Nat} {row : List Vl} {F1 F2 F3 F4 : List Nat} {cs : List Cl} (pl : Below w.heap.size w W) (l0 : w.heap.size ≤ d0) (l1 : w.heap.size ≤ d1) (hd : d0 ≠ d1)
    (z0 : W.heap[d0]? = some (.cells #[.string ⟨#[]⟩, .int .i64 0, .int .i64 0, .string ⟨#[]⟩, .string ⟨#[]⟩, .slice none 0 0] 29 (0, 0))) (z1 : W.heap[d1]? = some (.cells #[.string ⟨#[]⟩, .int .i64 0, .int .i64 0, .string ⟨#[]⟩, .string ⟨#[]⟩, .slice none 0 0] 29 (0, 0))) (tr1 : Tr W (fun b => b ∈ F1) 14 t1 u1) (tr2 : Tr W (fun b => b ∈ F2) 14 t2 u2)
    (cols : ColS W A n cs) (hc : ∀ a, A = some a → n = 0 ∨ a.block ∈ F3) (vals : Vals W W.heap.size A' m row) (hv : ∀ a, A' = some a → m = 0 ∨ a.block ∈ F4)
    (a10 : d0 ∉ F1) (a11 : d1 ∉ F1) (a20 : d0 ∉ F2) (a21 : d1 ∉ F2) (a30 : d0 ∉ F3) (a31 : d1 ∉ F3) (a40 : d0 ∉ F4) (a41 : d1 ∉ F4) :
    Par w d0 d1 t1 u1 t2 u2 A n cs A' m row (set6 (set6 W d0 (.string t1.op) (.int .i64 t1.x.k) (.int .i64 t1.x.i) (.string t1.x.s) (.string t1.s) u1) d1 (.string t2.op) (.int .i64 t2.x.k) (.int .i64 t2.x.i) (.string t2.x.s) (.string t2.s) u2) := by
  have far : ∀ b, b ≠ d0 → b ≠ d1 → (set6 (set6 W d0 (.string t1.op) (.int .i64 t1.x.k) (.int .i64 t1.x.i) (.string t1.x.s) (.string t1.s) u1) d1 (.string t2.op) (.int .i64 t2.x.k) (.int .i64 t2.x.i) (.string t2.x.s) (.string t2.s) u2).heap[b]? = W.heap[b]? := fun b h0 h1 => (set6_block _ _ _ _ _ _ _ _ h1).trans (set6_block _ _ _ _ _ _ _ _ h0)
  have sz : (set6 (set6 W d0 (.string t1.op) (.int .i64 t1.x.k) (.int .i64 t1.x.i) (.string t1.x.s) (.string t1.s) u1) d1 (.string t2.op) (.int .i64 t2.x.k) (.int .i64 t2.x.i) (.string t2.x.s) (.string t2.s) u2).heap.size = W.heap.size := by rw [set6_size, set6_size]
  have ne : ∀ {F : List Nat} {b : Nat}, d0 ∉ F → d1 ∉ F → b ∈ F → b ≠ d0 ∧ b ≠ d1 := fun h0 h1 hb => ⟨fun e => h0 (e ▸ hb), fun e => h1 (e ▸ hb)⟩
  refine ⟨?_, ?_, ?_, ?_, ?_, ?_, ?_⟩
  · unfold set6
    exact cSet6 l1 (cSet6 l0 pl _ _ _ _ _ _) _ _ _ _ _ _
  · exact box_cells ((set6_block _ _ _ _ _ _ _ _ hd).trans (set6_at z0 _ _ _ _ _ _))
  · exact box_cells (set6_at ((set6_block _ _ _ _ _ _ _ _ (Ne.symm hd)).trans z1) _ _ _ _ _ _)
  · exact tr1.keep (fun b hb _ => far b (ne a10 a11 hb).1 (ne a10 a11 hb).2) (fun _ _ _ => trivial)
  · exact tr2.keep (fun b hb _ => far b (ne a20 a21 hb).1 (ne a20 a21 hb).2) (fun _ _ _ => trivial)
  · exact cols.same fun a e => (hc a e).imp id fun h => far _ (ne a30 a31 h).1 (ne a30 a31 h).2
  · exact vals.same (by rw [sz]; exact Nat.le_refl _) fun a e => (hv a e).imp id fun h => far _ (ne a40 a41 h).1 (ne a40 a41 h).2

/-- Two boxes more: what the two come to. -/
structure Par2 (w : World) (d0 d1 : Nat) (t1 : Ex) (u1 : Value) (t2 : Ex) (u2 : Value) (A : Option Addr) (n : Nat) (cs : List Cl) (A' : Option Addr) (m : Nat) (row : List Vl) (e0 e1 : Nat) (x y : Vl) (W : World) : Prop where
  base : Par w d0 d1 t1 u1 t2 u2 A n cs A' m row W
  x : At3 W e0 x.k x.i x.s
  y : At3 W e1 y.k y.i y.s
theorem Par2.later {w W W' : World} {d0 d1 : Nat} {t1 t2 : Ex} {u1 u2 : Value} {A : Option Addr} {n : Nat} {cs : List Cl} {A' : Option Addr} {m : Nat} {row : List Vl} {e0 e1 : Nat} {x y : Vl} (h : Par2 w d0 d1 t1 u1 t2 u2 A n cs A' m row e0 e1 x y W) (hb : Below W.heap.size W W') : Par2 w d0 d1 t1 u1 t2 u2 A n cs A' m row e0 e1 x y W' :=
  ⟨h.base.later hb, h.x.later hb, h.y.later hb⟩
end Go.Proofs.YtmhkmliebhbkdaaGreat

/- The law ExprParts: its walk. -/
namespace Go.Proofs.YtmhkmliebhbkdaaGreat
open Go.RowKit Go.Lib

end Go.Proofs.YtmhkmliebhbkdaaGreat

/- The law's Parts come in. -/
namespace Go.Proofs.YtmhkmliebhbkdaaGreat
open Go.ChangeShapes Go.WideShapes Go.ChangeAt Go.RowKit Go.Deep

theorem cells1C : Tryz.prog.cellsOf 22 = 1 := by kernel_rfl
section
variable {H : Type} {enc : TypeId × Value → H} {w : World} {base : Nat} {spare : Nat → Bool} {held : Bool}
set_option maxRecDepth 100000 in
/-- A row of columns that reads. -/
theorem crow_of {fuel : Nat} {v : Value} {x : DataW H × List MemPlace} (hf : DataW.trod enc Tryz.prog w base spare held fuel 22 [v] = some x) :
    ∃ (A : Option Addr) (n cap : Nat) (l : List Cl), v = .slice A n cap ∧ ColS w A n l ∧ ∀ x ∈ l, x.n.size ≤ maxLen := by
  rcases slice_fieldsE Tryz.underlying22 Tryz.underlying77 (by kernel_rfl) cellsCl hf with h0 | ⟨a, n, cap, h1, h2, h3, h4⟩
  · simp only [List.cons.injEq, and_true] at h0
    subst h0
    exact ⟨none, 0, 0, [], rfl, ⟨rfl, by unfold maxLen; omega, fun j hj => absurd hj (by simp)⟩, (fun x hx => by cases hx)⟩
  · simp only [List.cons.injEq, and_true] at h1
    subst h1
    have each : ∀ i, i < n → ∃ x : Cl, ClAt w (a.add (i * 3)) x ∧ x.n.size ≤ maxLen := by
      intro i hi
      obtain ⟨v0, y0, n0, c0, t0⟩ := h4 i hi 0 _ rfl
      obtain ⟨v1, y1, n1, c1, t1⟩ := h4 i hi 1 _ rfl
      obtain ⟨v2, y2, n2, c2, t2⟩ := h4 i hi 2 _ rfl
      obtain ⟨s, e0, _, ws⟩ := DataW.trod_string Tryz.underlying9 t0
      obtain ⟨k, e1, _, wk⟩ := DataW.trod_int Tryz.underlying3 t1
      obtain ⟨b, e2, _⟩ := DataW.trod_bool Tryz.underlying4 t2
      simp at e0 e1 e2
      subst e0 e1 e2
      exact ⟨⟨s, k, b⟩, ⟨c0, c1, c2⟩, ws⟩
    have hall : ∃ l : List Cl, l.length = n ∧ ∀ j (hj : j < l.length), ClAt w (a.add (j * 3)) l[j] ∧ l[j].n.size ≤ maxLen := by
      refine ⟨(List.range n).map fun i => if h : i < n then Classical.choose (each i h) else ⟨⟨#[]⟩, 0, false⟩, by simp, fun j hj => ?_⟩
      have hj' : j < n := by simpa using hj
      rw [List.getElem_map, List.getElem_range, dif_pos hj']
      exact Classical.choose_spec (each j hj')
    obtain ⟨l, hl, hat⟩ := hall
    refine ⟨some a, n, cap, l, rfl, ⟨hl, by omega, fun j hj => ⟨a, rfl, ?_⟩⟩, fun x hx => ?_⟩
    · exact (hat j (by omega)).1
    · obtain ⟨j, hj, rfl⟩ := List.getElem_of_mem hx
      exact (hat j hj).2
set_option maxRecDepth 100000 in
/-- A row of values that reads. -/
theorem vrow_of {fuel : Nat} {v : Value} {x : DataW H × List MemPlace} (hf : DataW.trod enc Tryz.prog w base spare held fuel 47 [v] = some x) :
    ∃ (A : Option Addr) (n cap : Nat) (l : List Vl), v = .slice A n cap ∧ n ≤ maxLen ∧ Vals w w.heap.size A n l ∧ (∀ x ∈ l, x.s.size ≤ maxLen) ∧ ∀ x ∈ l, In64 x.i := by
  rcases slice_fieldsE Tryz.underlying47 Tryz.underlying26 (by kernel_rfl) cellsV hf with h0 | ⟨a, n, cap, h1, h2, h3, h4⟩
  · simp only [List.cons.injEq, and_true] at h0
    subst h0
    exact ⟨none, 0, 0, [], rfl, by unfold maxLen; omega, ⟨rfl, fun j hj => absurd hj (by simp)⟩, (fun x hx => by cases hx), (fun x hx => by cases hx)⟩
  · simp only [List.cons.injEq, and_true] at h1
    subst h1
    have each : ∀ i, i < n → ∃ x : Vl, VlAt w (a.add (i * 3)) x ∧ x.s.size ≤ maxLen ∧ In64 x.i := by
      intro i hi
      obtain ⟨v0, y0, n0, c0, t0⟩ := h4 i hi 0 _ rfl
      obtain ⟨v1, y1, n1, c1, t1⟩ := h4 i hi 1 _ rfl
      obtain ⟨v2, y2, n2, c2, t2⟩ := h4 i hi 2 _ rfl
      obtain ⟨k, e0, _, wk⟩ := DataW.trod_int Tryz.underlying3 t0
      obtain ⟨j, e1, _, wi⟩ := DataW.trod_int Tryz.underlying2 t1
      obtain ⟨s, e2, _, ws⟩ := DataW.trod_string Tryz.underlying9 t2
      simp at e0 e1 e2
      subst e0 e1 e2
      exact ⟨⟨k, j, s⟩, ⟨c0, c1, c2⟩, ws, in64_of_wf wi⟩
    have hall : ∃ l : List Vl, l.length = n ∧ ∀ j (hj : j < l.length), VlAt w (a.add (j * 3)) l[j] ∧ l[j].s.size ≤ maxLen ∧ In64 l[j].i := by
      refine ⟨(List.range n).map fun i => if h : i < n then Classical.choose (each i h) else ⟨0, 0, ⟨#[]⟩⟩, by simp, fun j hj => ?_⟩
      have hj' : j < n := by simpa using hj
      rw [List.getElem_map, List.getElem_range, dif_pos hj']
      exact Classical.choose_spec (each j hj')
    obtain ⟨l, hl, hat⟩ := hall
    refine ⟨some a, n, cap, l, rfl, by omega, ⟨hl, fun j hj => ⟨a, rfl, (hat j hj).1, ?_⟩⟩, fun x hx => ?_, fun x hx => ?_⟩
    · have := World.block_lt_of_cell? w _ (hat j hj).1.k
      rwa [add_block] at this
    · obtain ⟨j, hj, rfl⟩ := List.getElem_of_mem hx
      exact (hat j hj).2.1
    · obtain ⟨j, hj, rfl⟩ := List.getElem_of_mem hx
      exact (hat j hj).2.2
end
end Go.Proofs.YtmhkmliebhbkdaaGreat

/- A table that comes in. -/
namespace Go.Proofs.YtmhkmliebhbkdaaGreat
open Go.ChangeShapes Go.WideShapes Go.ChangeAt Go.RowKit Go.Deep

theorem cellsTb : Tryz.prog.cellsOf 31 = 11 := by kernel_rfl
theorem cells1U : Tryz.prog.cellsOf 23 = 1 := by kernel_rfl
theorem cells1F : Tryz.prog.cellsOf 24 = 1 := by kernel_rfl
theorem cells1i : Tryz.prog.cellsOf 3 = 1 := by kernel_rfl
theorem cellsFo : Tryz.prog.cellsOf 80 = 2 := by kernel_rfl
theorem eleven {α : Type} {l : List α} (h : l.length = 11) : ∃ a b c d e f a' b' c' d' e', l = [a, b, c, d, e, f, a', b', c', d', e'] := by
  match l, h with
  | [a, b, c, d, e, f, a', b', c', d', e'], _ => exact ⟨a, b, c, d, e, f, a', b', c', d', e', rfl⟩
section
variable {H : Type} {enc : TypeId × Value → H} {w : World} {base : Nat} {spare : Nat → Bool} {held : Bool}
set_option maxRecDepth 100000 in
/-- A row of ints that reads. -/
theorem irow_of {fuel : Nat} {v : Value} {x : DataW H × List MemPlace} (hf : DataW.trod enc Tryz.prog w base spare held fuel 23 [v] = some x) :
    ∃ (A : Option Addr) (n cap : Nat) (l : List Int), v = .slice A n cap ∧ IntS w A n l := by
  rcases open_slice1 Tryz.underlying23 cells1i hf with h0 | ⟨a, n, cap, m, q, V, D, Pl, h1, _, h2, h3, hm, _, hat⟩
  · have h0 := h0.1
    simp only [List.cons.injEq, and_true] at h0
    subst h0
    exact ⟨none, 0, 0, [], rfl, rfl, by unfold maxLen; omega, fun j hj => absurd hj (by simp)⟩
  · simp only [List.cons.injEq, and_true] at h1
    subst h1
    have hnm : n ≤ m := by rw [hm]; split <;> omega
    have each : ∀ i, i < n → ∃ x : Int, w.cell? (a.add (i * 1)) = some (.int .i64 x) := by
      intro i hi
      obtain ⟨c0, t0⟩ := hat i (by omega)
      obtain ⟨k, e0, _, _⟩ := DataW.trod_int Tryz.underlying3 t0
      simp at e0
      rw [Nat.mul_one, c0, e0]
      exact ⟨k, rfl⟩
    have hall : ∃ l : List Int, l.length = n ∧ ∀ j (hj : j < l.length), w.cell? (a.add (j * 1)) = some (.int .i64 l[j]) := by
      refine ⟨(List.range n).map fun i => if h : i < n then Classical.choose (each i h) else 0, by simp, fun j hj => ?_⟩
      have hj' : j < n := by simpa using hj
      rw [List.getElem_map, List.getElem_range, dif_pos hj']
      exact Classical.choose_spec (each j hj')
    obtain ⟨l, hl, hat⟩ := hall
    exact ⟨some a, n, cap, l, rfl, hl, by omega, fun j hj => ⟨a, rfl, hat j hj⟩⟩
set_option maxRecDepth 100000 in
/-- A row of references that reads. -/
theorem frow_of {fuel : Nat} {v : Value} {x : DataW H × List MemPlace} (hf : DataW.trod enc Tryz.prog w base spare held fuel 24 [v] = some x) :
    ∃ (A : Option Addr) (n cap : Nat) (l : List Rf), v = .slice A n cap ∧ RfS w A n l ∧ ∀ y ∈ l, y.t.size ≤ maxLen := by
  rcases slice_fieldsE Tryz.underlying24 Tryz.underlying80 (by kernel_rfl) cellsFo hf with h0 | ⟨a, n, cap, h1, h2, h3, h4⟩
  · simp only [List.cons.injEq, and_true] at h0
    subst h0
    exact ⟨none, 0, 0, [], rfl, ⟨rfl, by unfold maxLen; omega, fun j hj => absurd hj (by simp)⟩, (fun x hx => by cases hx)⟩
  · simp only [List.cons.injEq, and_true] at h1
    subst h1
    have each : ∀ i, i < n → ∃ x : Rf, RfAt w (a.add (i * 2)) x ∧ x.t.size ≤ maxLen := by
      intro i hi
      obtain ⟨v0, y0, n0, c0, t0⟩ := h4 i hi 0 _ rfl
      obtain ⟨v1, y1, n1, c1, t1⟩ := h4 i hi 1 _ rfl
      obtain ⟨k, e0, _, wk⟩ := DataW.trod_int Tryz.underlying3 t0
      obtain ⟨s, e1, _, ws⟩ := DataW.trod_string Tryz.underlying9 t1
      simp at e0 e1
      subst e0 e1
      exact ⟨⟨k, s⟩, ⟨c0, c1⟩, ws⟩
    have hall : ∃ l : List Rf, l.length = n ∧ ∀ j (hj : j < l.length), RfAt w (a.add (j * 2)) l[j] ∧ l[j].t.size ≤ maxLen := by
      refine ⟨(List.range n).map fun i => if h : i < n then Classical.choose (each i h) else ⟨0, ⟨#[]⟩⟩, by simp, fun j hj => ?_⟩
      have hj' : j < n := by simpa using hj
      rw [List.getElem_map, List.getElem_range, dif_pos hj']
      exact Classical.choose_spec (each j hj')
    obtain ⟨l, hl, hat⟩ := hall
    refine ⟨some a, n, cap, l, rfl, ⟨hl, by omega, fun j hj => ⟨a, rfl, ?_⟩⟩, fun x hx => ?_⟩
    · exact (hat j (by omega)).1
    · obtain ⟨j, hj, rfl⟩ := List.getElem_of_mem hx
      exact (hat j hj).2
/-- What is known of a table that comes in. -/
structure TbIn (W : World) (nm : ByteArray) (A : Option Addr) (n c : Nat) (key : Int) (U : Option Addr) (m cu : Nat) (R : Option Addr) (p cr : Nat) (op : ByteArray) (k i : Int) (vs s : ByteArray) (B : Option Addr) (q d : Nat) (cols : List Cl) (us : List Int) (rs : List Rf) : Prop where
  hnm : nm.size ≤ maxLen
  hcols : ColS W A n cols
  nc : ∀ y ∈ cols, y.n.size ≤ maxLen
  hus : IntS W U m us
  hrs : RfS W R p rs
  nr : ∀ y ∈ rs, y.t.size ≤ maxLen
  hop : op.size ≤ maxLen
  hvs : vs.size ≤ maxLen
  hs : s.size ≤ maxLen
  hi : In64 i
  chk : InL W W.heap.size 14 (.slice B q d)
set_option maxRecDepth 100000 in
/-- The eleven cells of a table that reads. -/
theorem table_of {fuel : Nat} {cs : List Value} {x : DataW H × List MemPlace} (h : DataW.trod enc Tryz.prog w base spare held fuel 31 cs = some x) :
    ∃ (nm : ByteArray) (A : Option Addr) (n c : Nat) (key : Int) (U : Option Addr) (m cu : Nat) (R : Option Addr) (p cr : Nat) (op : ByteArray) (k i : Int) (vs s : ByteArray) (B : Option Addr) (q d : Nat) (cols : List Cl) (us : List Int) (rs : List Rf),
      cs = [.string nm, .slice A n c, .int .i64 key, .slice U m cu, .slice R p cr, .string op, .int .i64 k, .int .i64 i, .string vs, .string s, .slice B q d] ∧ TbIn w nm A n c key U m cu R p cr op k i vs s B q d cols us rs := by
  obtain ⟨xs, n', _, _, hl, hxl, hat⟩ := DataW.trod_struct Tryz.underlying31 h
  rw [cellsTb] at hl
  obtain ⟨c0, c1, c2, c3, c4, c5, c6, c7, c8, c9, c10, rfl⟩ := eleven hl
  have hx6 : xs.length = 6 := by rw [hxl]; rfl
  have g0 : DataW.trod enc Tryz.prog w base spare held n' 9 (([c0, c1, c2, c3, c4, c5, c6, c7, c8, c9, c10].drop 0).take (Tryz.prog.cellsOf 9)) = some (xs[0]'(by omega)) := (hat 0 _ rfl).trans (List.getElem?_eq_getElem (by omega))
  have g1 : DataW.trod enc Tryz.prog w base spare held n' 22 (([c0, c1, c2, c3, c4, c5, c6, c7, c8, c9, c10].drop 1).take (Tryz.prog.cellsOf 22)) = some (xs[1]'(by omega)) := (hat 1 _ rfl).trans (List.getElem?_eq_getElem (by omega))
  have g2 : DataW.trod enc Tryz.prog w base spare held n' 3 (([c0, c1, c2, c3, c4, c5, c6, c7, c8, c9, c10].drop 2).take (Tryz.prog.cellsOf 3)) = some (xs[2]'(by omega)) := (hat 2 _ rfl).trans (List.getElem?_eq_getElem (by omega))
  have g3 : DataW.trod enc Tryz.prog w base spare held n' 23 (([c0, c1, c2, c3, c4, c5, c6, c7, c8, c9, c10].drop 3).take (Tryz.prog.cellsOf 23)) = some (xs[3]'(by omega)) := (hat 3 _ rfl).trans (List.getElem?_eq_getElem (by omega))
  have g4 : DataW.trod enc Tryz.prog w base spare held n' 24 (([c0, c1, c2, c3, c4, c5, c6, c7, c8, c9, c10].drop 4).take (Tryz.prog.cellsOf 24)) = some (xs[4]'(by omega)) := (hat 4 _ rfl).trans (List.getElem?_eq_getElem (by omega))
  have g5 : DataW.trod enc Tryz.prog w base spare held n' 29 (([c0, c1, c2, c3, c4, c5, c6, c7, c8, c9, c10].drop 5).take (Tryz.prog.cellsOf 29)) = some (xs[5]'(by omega)) := (hat 5 _ rfl).trans (List.getElem?_eq_getElem (by omega))
  rw [cells1s] at g0
  rw [cells1C] at g1
  rw [cells1i] at g2
  rw [cells1U] at g3
  rw [cells1F] at g4
  rw [cellsE] at g5
  simp only [List.drop_zero, List.drop_succ_cons, List.take_succ_cons, List.take_zero] at g0 g1 g2 g3 g4 g5
  obtain ⟨nm, e0, _, s0⟩ := DataW.trod_string Tryz.underlying9 g0
  obtain ⟨A, n, c, cols, rfl, q1, q2⟩ := crow_of g1
  obtain ⟨key, e2, _, _⟩ := DataW.trod_int Tryz.underlying3 g2
  obtain ⟨U, m, cu, us, rfl, q3⟩ := irow_of g3
  obtain ⟨R, p, cr, rs, rfl, q4, q5⟩ := frow_of g4
  obtain ⟨op, k, i, vs, s, u, n0, x0, e5, a1, a2, a3, a4, hr⟩ := open_cells g5
  have hI := open_tree 14 hr
  obtain ⟨B, q, d, rfl, _⟩ := hI.form
  simp only [List.cons.injEq, and_true] at e0 e2 e5
  subst e0 e2
  obtain ⟨rfl, rfl, rfl, rfl, rfl, rfl⟩ := e5
  exact ⟨nm, A, n, c, key, U, m, cu, R, p, cr, op, k, i, vs, s, B, q, d, cols, us, rs, rfl, s0, q1, q2, q3, q4, q5, a1, a2, a3, a4, hI⟩
end
end Go.Proofs.YtmhkmliebhbkdaaGreat

/- The law's Few of a table: what its parts leave. -/
namespace Go.Proofs.YtmhkmliebhbkdaaGreat
open Go.RowKit Go.Lib

/-- A text, cut. -/
def cut20 (s : ByteArray) : ByteArray := if 20 < s.size then s.extract 0 20 else s
theorem cut20_size (s : ByteArray) : (cut20 s).size ≤ 20 := by
  unfold cut20
  split
  · rw [ByteArray.size_extract]; omega
  · omega
set_option maxRecDepth 100000 in
set_option maxHeartbeats 4000000 in
theorem text6_any (s : ByteArray) (hs : s.size ≤ maxLen) (w : World) : Calls Tryz.prog 47 #[.string s] w fun e w' => e = .returned (.string (cut20 s)) ∧ Below w.heap.size w w' := by
  unfold maxLen at hs
  unfold cut20
  by_cases h : 20 < s.size
  · have d1 : decide (20 < (s.size : Int)) = true := decide_eq_true (by omega)
    rw [if_pos h]
    go_enter Tryz.func47, Tryz.ntmps47
    go_wp2
    go_ret
    exact ⟨rfl, Below.refl _ _⟩
  · have d1 : decide (20 < (s.size : Int)) = false := decide_eq_false (by omega)
    rw [if_neg h]
    go_enter Tryz.func47, Tryz.ntmps47
    go_wp2
    go_ret
    exact ⟨rfl, Below.refl _ _⟩

/-- A new box of a table. -/
def newTb (u : Value) (F : List Nat) (w : World) : Prop := ∃ b, F = [b] ∧ u = .pointer (some ⟨b, 0, none⟩) ∧ w.heap[b]? = some (.cells #[.string ⟨#[]⟩, .slice none 0 0, .int .i64 0, .slice none 0 0, .slice none 0 0, .string ⟨#[]⟩, .int .i64 0, .int .i64 0, .string ⟨#[]⟩, .string ⟨#[]⟩, .slice none 0 0] 31 (0, 0))
theorem newTb_lasting : ∀ u F, Lasting (newTb u F) := by
  rintro u F w w' hb ⟨b, h1, h2, h3⟩
  exact ⟨b, h1, h2, (hb.block b (lt_of_block h3)).trans h3⟩
theorem newTb_at {v : Value} {b : Nat} {w : World} (h : newTb v [b] w) : w.heap[b]? = some (.cells #[.string ⟨#[]⟩, .slice none 0 0, .int .i64 0, .slice none 0 0, .slice none 0 0, .string ⟨#[]⟩, .int .i64 0, .int .i64 0, .string ⟨#[]⟩, .string ⟨#[]⟩, .slice none 0 0] 31 (0, 0)) := by
  obtain ⟨b', e, _, h⟩ := h
  obtain rfl : b = b' := by injection e
  exact h
theorem newTb_made {P : Program} {w : World} : Rel1 P newTb w (.ok (.value (.pointer (some ⟨w.heap.size, 0, none⟩))) (w.alloc (.cells #[.string ⟨#[]⟩, .slice none 0 0, .int .i64 0, .slice none 0 0, .slice none 0 0, .string ⟨#[]⟩, .int .i64 0, .int .i64 0, .string ⟨#[]⟩, .string ⟨#[]⟩, .slice none 0 0] 31))) :=
  ⟨[w.heap.size], ⟨_, rfl, rfl, alloc_at rfl _⟩, by simp, (Below.refl _ _).alloc (Nat.le_refl _) _⟩
/-- A new slice of one element of these cells. -/
def newSl (t : TypeId) (cs : Array Value) (u : Value) (F : List Nat) (w : World) : Prop := ∃ b, F = [b] ∧ u = .slice (some ⟨b, 0, none⟩) 1 1 ∧ w.heap[b]? = some (.cells cs t (0, 0))
theorem newSl_lasting {t : TypeId} {cs : Array Value} : ∀ u F, Lasting (newSl t cs u F) := by
  rintro u F w w' hb ⟨b, h1, h2, h3⟩
  exact ⟨b, h1, h2, (hb.block b (lt_of_block h3)).trans h3⟩
theorem newSl_at {t : TypeId} {cs : Array Value} {v : Value} {b : Nat} {w : World} (h : newSl t cs v [b] w) : w.heap[b]? = some (.cells cs t (0, 0)) := by
  obtain ⟨b', e, _, h⟩ := h
  obtain rfl : b = b' := by injection e
  exact h
theorem newSl_made {P : Program} {w : World} {t : TypeId} {cs : Array Value} : Rel1 P (newSl t cs) w (.ok (.value (.slice (some ⟨w.heap.size, 0, none⟩) 1 1)) (w.alloc (.cells cs t))) :=
  ⟨[w.heap.size], ⟨_, rfl, rfl, alloc_at rfl _⟩, by simp, (Below.refl _ _).alloc (Nat.le_refl _) _⟩
theorem newSl_cells {W : World} {b : Nat} {t : TypeId} {cs : Array Value} (h : W.heap[b]? = some (.cells cs t (0, 0))) : ∀ j u, cs.toList[j]? = some u → W.cell? ((⟨b, 0, none⟩ : Addr).add j) = some u := by
  intro j u hj
  rw [show (⟨b, 0, none⟩ : Addr).add j = ⟨b, j, none⟩ by unfold Addr.add; split <;> simp_all]
  rw [Lib.cell_of_heap h j]
  simpa using hj
/-- What Cols leaves. -/
def cols2Rl (v : Value) (F : List Nat) (w : World) : Prop := ∃ (A : Option Addr) (n c : Nat) (cs : List Cl), v = .slice A n c ∧ ColS w A n cs ∧ (∀ a, A = some a → n = 0 ∨ a.block ∈ F) ∧ n ≤ c ∧ ∀ x ∈ cs, x.n.size ≤ 20
theorem cols2Rl_lasting : ∀ u F, Lasting (cols2Rl u F) := by
  rintro u F w w' hb ⟨A, n, c, cs, h1, h2, h3⟩
  exact ⟨A, n, c, cs, h1, h2.below hb, h3⟩
theorem cols2Rl_enter {P : Program} {w : World} {f : FuncId} {args : Array Value} (h : Calls P f args w fun e w' => (∃ A' n' c' cs, e = .returned (.slice A' n' c') ∧ ColS w' A' n' cs ∧ (∀ a, A' = some a → w.heap.size ≤ a.block) ∧ n' ≤ c' ∧ ∀ x ∈ cs, x.n.size ≤ 20) ∧ Below w.heap.size w w') : Rel1 P cols2Rl w (.ok (.enter f args) w) :=
  Calls.mono h fun e w' ⟨⟨A, n, c, cs, h1, h2, h3, h4, h5⟩, hb⟩ =>
    ⟨_, since w w', h1, ⟨A, n, c, cs, rfl, h2, fun a e => (h2.in_ e).imp id fun h => mem_since.2 ⟨h3 a e, h⟩, h4, h5⟩, fun b hb => mem_since.1 hb, hb⟩
theorem cols2Rl_at {A : Option Addr} {n c : Nat} {F : List Nat} {w : World} (h : cols2Rl (.slice A n c) F w) : ∃ cs, ColS w A n cs ∧ (∀ a, A = some a → n = 0 ∨ a.block ∈ F) ∧ n ≤ c ∧ ∀ x ∈ cs, x.n.size ≤ 20 := by
  obtain ⟨A', n', c', cs, e, h1, h2⟩ := h
  injection e with e1 e2 e3
  subst e1 e2 e3
  exact ⟨cs, h1, h2⟩

def icells (l : List Int) : List Value := l.map fun x => .int .i64 x
theorem IntS.of_own {W : World} {B : Nat} {v : Value} {l : List Int} {n : Nat} (h : W.ownsRow B 3 1 v n (icells l)) : ∃ A cap, v = .slice A n cap ∧ IntS W A n l ∧ n ≤ cap ∧ ∀ a, A = some a → B ≤ a.block := by
  have hl : l.length = n := by have := h.1; simp only [icells, List.length_map] at this; omega
  rcases h.2 with ⟨rfl, h0⟩ | ⟨g, cap, cur, rfl, hB, hg, hc, hm, hs, ht⟩
  · subst h0
    exact ⟨none, 0, rfl, ⟨hl, by unfold maxLen; omega, fun j hj => absurd hj (by omega)⟩, by omega, fun a e => by cases e⟩
  · refine ⟨_, cap, rfl, ⟨hl, Nat.le_trans hc hm, fun j hj => ⟨_, rfl, ?_⟩⟩, hc, fun a e => by injection e with e; subst e; exact hB⟩
    rw [show (⟨g, 0, none⟩ : Addr).add (j * 1) = ⟨g, j, none⟩ by unfold Addr.add; split <;> simp_all]
    rw [h.cellAt j (by omega)]
    simp [icells, List.getElem?_eq_getElem hj]
def Rf.cells (x : Rf) : List Value := [.int .i64 x.c, .string x.t]
def rcells (l : List Rf) : List Value := l.flatMap Rf.cells
theorem rcells_len (l : List Rf) : (rcells l).length = l.length * 2 := by
  induction l with
  | nil => rfl
  | cons x l ih => simp only [rcells, List.flatMap_cons, List.length_append] at ih ⊢; rw [ih]; simp [Rf.cells]; omega
theorem rcells_snoc (l : List Rf) (x : Rf) : rcells (l ++ [x]) = rcells l ++ x.cells := by simp [rcells]
theorem rcells_at (l : List Rf) : ∀ j (h : j < l.length), (rcells l)[j * 2]? = some (.int .i64 l[j].c) ∧ (rcells l)[j * 2 + 1]? = some (.string l[j].t) := by
  induction l with
  | nil => intro j h; simp at h
  | cons x l ih =>
    intro j h
    cases j with
    | zero => simp [rcells, Rf.cells]
    | succ j =>
      have := ih j (by simpa using h)
      have e : rcells (x :: l) = x.cells ++ rcells l := by simp [rcells]
      have hl : x.cells.length = 2 := rfl
      rw [e]
      refine ⟨?_, ?_⟩
      · rw [List.getElem?_append_right (by rw [hl]; omega), hl, show (j + 1) * 2 - 2 = j * 2 by omega]; exact this.1
      · rw [List.getElem?_append_right (by rw [hl]; omega), hl, show (j + 1) * 2 + 1 - 2 = j * 2 + 1 by omega]; exact this.2
theorem RfS.of_own {W : World} {B : Nat} {v : Value} {l : List Rf} {n : Nat} (h : W.ownsRow B 80 2 v n (rcells l)) : ∃ A cap, v = .slice A n cap ∧ RfS W A n l ∧ n ≤ cap ∧ ∀ a, A = some a → B ≤ a.block := by
  have hl : l.length = n := by have := h.1; rw [rcells_len] at this; omega
  rcases h.2 with ⟨rfl, h0⟩ | ⟨g, cap, cur, rfl, hB, hg, hc, hm, hs, ht⟩
  · subst h0
    exact ⟨none, 0, rfl, ⟨hl, by unfold maxLen; omega, fun j hj => absurd hj (by omega)⟩, by omega, fun a e => by cases e⟩
  · refine ⟨_, cap, rfl, ⟨hl, Nat.le_trans hc hm, fun j hj => ⟨_, rfl, ?_⟩⟩, hc, fun a e => by injection e with e; subst e; exact hB⟩
    have hadd : (⟨g, 0, none⟩ : Addr).add (j * 2) = ⟨g, j * 2, none⟩ := by unfold Addr.add; split <;> simp_all
    obtain ⟨c0, c1⟩ := rcells_at l j hj
    rw [hadd]
    exact ⟨(h.cellAt (j * 2) (by omega)).trans c0, (h.cellAt (j * 2 + 1) (by omega)).trans c1⟩
theorem infoInt6 : (Tryz.prog.info? 3).map (fun i => (i.zero, i.size, i.bytes)) = some (some (.int .i64 0), 1, 8) := by kernel_rfl
theorem infoRf6 : (Tryz.prog.info? 80).map (fun i => (i.zero, i.size, i.bytes)) = some (some (.agg #[.int .i64 0, .string ⟨#[]⟩]), 2, 24) := by kernel_rfl
theorem tbSize : (Tryz.prog.info? 31).map (·.size) = some 11 := by kernel_rfl
theorem tb_one (nm : ByteArray) (A : Option Addr) (n c : Nat) (key : Int) (U : Option Addr) (m cu : Nat) (R : Option Addr) (p cr : Nat) (op : ByteArray) (k i : Int) (vs s : ByteArray) (B : Option Addr) (q d : Nat) : (#[.string nm, .slice A n c, .int .i64 key, .slice U m cu, .slice R p cr, .string op, .int .i64 k, .int .i64 i, .string vs, .string s, .slice B q d] : Array Value).all (·.oneCell') = true := by simp [Value.oneCell']
theorem any_set6 {W : World} {b : Nat} {cs : Array Value} {t : TypeId} (h : W.heap[b]? = some (.cells cs t (0, 0))) (i : Nat) (x : Value) : (W.setCell ⟨b, i, none⟩ x).heap[b]? = some (.cells (cs.setIfInBounds i x) t (0, 0)) := by
  have hlt := lt_of_block h
  have h' : W.heap[b] = .cells cs t (0, 0) := by simpa [Array.getElem?_eq_getElem hlt] using h
  show (W.heap.modify b _)[b]? = _
  rw [Array.getElem?_eq_getElem (by simpa using hlt), Array.getElem_modify_self, h']
  rfl
/-- A row that grew lies beyond w: what w had is as it was, but for block d. -/
theorem grow_own {w W W' : World} {d : Nat} {v : Value} (h : w.grownBy W (some d)) (hg : W.grownBy W' v.ownBlock) (hge : ∀ q, v.ownBlock = some q → w.heap.size ≤ q) : w.grownBy W' (some d) :=
  ⟨hg.os.trans h.os, hg.tape.trans h.tape, hg.output.trans h.output, Nat.le_trans h.size hg.size, fun q hq hr => (hg.block q (Nat.lt_of_lt_of_le hq h.size) (fun e => by have := hge q e.symm; omega)).trans (h.block q hq hr)⟩
theorem grow_setd {w W : World} {d o : Nat} {v : Value} (h : w.grownBy W (some d)) : w.grownBy (W.setCell ⟨d, o, none⟩ v) (some d) :=
  ⟨h.os, h.tape, h.output, by simpa [World.setCell] using h.size, fun k hk hn => (Below.heap_setCell _ _ _ _ (by show k ≠ d; intro e; exact hn (by rw [e]))).trans (h.block k hk hn)⟩
theorem own_geN {W : World} {b : Nat} {e : TypeId} {sz n : Nat} {v : Value} {xs : List Value} (h : W.ownsRow b e sz v n xs) : ∀ q, v.ownBlock = some q → b ≤ q := fun q hq => (h.lt q hq).1
theorem own_form {W : World} {b : Nat} {e : TypeId} {sz n : Nat} {v : Value} {xs : List Value} (h : W.ownsRow b e sz v n xs) : ∃ A c, v = .slice A n c := by
  rcases h.2 with ⟨rfl, rfl⟩ | ⟨g, cap, cur, rfl, _⟩
  · exact ⟨_, _, rfl⟩
  · exact ⟨_, _, rfl⟩
theorem RfS.same {W W' : World} {A : Option Addr} {n : Nat} {l : List Rf} (h : RfS W A n l) (hk : ∀ a, A = some a → W'.heap[a.block]? = W.heap[a.block]?) : RfS W' A n l :=
  ⟨h.1, h.2.1, fun j hj => by obtain ⟨a, e, hc⟩ := h.2.2 j hj; exact ⟨a, e, hc.keep (by rw [add_block]; exact hk a e)⟩⟩
theorem IntS.same {W W' : World} {A : Option Addr} {n : Nat} {l : List Int} (h : IntS W A n l) (hk : ∀ a, A = some a → W'.heap[a.block]? = W.heap[a.block]?) : IntS W' A n l :=
  ⟨h.1, h.2.1, fun j hj => by obtain ⟨a, e, hc⟩ := h.2.2 j hj; exact ⟨a, e, (World.cell?_of_block (w := W) (a := a.add (j * 1)) (by rw [add_block]; exact hk a e)).trans hc⟩⟩
end Go.Proofs.YtmhkmliebhbkdaaGreat

/- A region whose order Go leaves open, with two loads that may come behind its first store: DetB, as DetA, but the last few may come up beside them; and operations that hand on what another one has made. No program stands in it. -/
namespace Go.Proofs.YtmhkmliebhbkdaaGreat
open Go.RowKit

inductive TellM where
  | val (v : Value)
  | rel (R : Value → List Nat → World → Prop)
  | pure

/-- Number i comes to this value, said ahead or read off the slots. -/
def Told (P : Program) (vals : List TellM) (i : Nat) (oi : Oper) (a : Act) (v : Value) : Prop :=
  vals[i]? = some (.val v) ∨ (vals[i]? = some .pure ∧ ∀ w, (execOp a.eval oi).run P w = .ok (.value v) w)

theorem Told.one {P : Program} {vals : List TellM} {i : Nat} {oi : Oper} {a : Act} {v v' : Value} (h : Told P vals i oi a v) (w : World) (h' : Told P vals i oi a v') : v = v' := by
  rcases h with h | ⟨h, r⟩ <;> rcases h' with h' | ⟨h', r'⟩
  · rw [h] at h'; injection h' with e; injection e
  · rw [h] at h'; injection h' with e; cases e
  · rw [h] at h'; injection h' with e; cases e
  · have := (r w).symm.trans (r' w)
    injection this with e _
    injection e
theorem Told.not {P : Program} {vals : List TellM} {i : Nat} {oi : Oper} {a : Act} {v : Value} {R : Value → List Nat → World → Prop} (h : Told P vals i oi a v) (h' : vals[i]? = some (.rel R)) : False := by
  rcases h with h | ⟨h, _⟩ <;> (rw [h] at h'; injection h' with e; cases e)
theorem Told.of_same {P : Program} {vals : List TellM} {i : Nat} {oi : Oper} {a a' : Act} {v : Value} (h : Told P vals i oi a v) (he : execOp a'.eval oi = execOp a.eval oi) : Told P vals i oi a' v :=
  h.imp id fun ⟨h1, h2⟩ => ⟨h1, fun w => by rw [he]; exact h2 w⟩

def DetB (P : Program) (md : Region.Mode) (ops : Array Oper) (Q : Exit → Act → World → Prop) (w0 : World) (K : Nat) (vals : List TellM) : Nat → Array Bool → Act → List Ent → Prop
  | 0, listed, a, env => (∀ j ∈ Region.ready md ops listed, K ≤ j) ∧ ∀ w, Env w0 env w → wpAny P md ops Q 0 listed a w
  | n + 1, listed, a, env =>
    ((∀ j ∈ Region.ready md ops listed, j < K → ∃ oj v, ops[j]? = some oj ∧ Told P vals j oj a v ∧ YieldsD P md ops w0 env oj v a ∧ DetB P md ops Q w0 K vals n (listed.setIfInBounds j true) (a.put oj.dst v) env) ∧ ∀ w, Env w0 env w → wpAny P md ops Q (n + 1) listed a w) ∨
    (Region.ready md ops listed ≠ [] ∧ ∀ i ∈ Region.ready md ops listed, i < K ∧ ∃ oi, ops[i]? = some oi ∧
      ((∃ v, Told P vals i oi a v ∧ YieldsD P md ops w0 env oi v a ∧ DetB P md ops Q w0 K vals n (listed.setIfInBounds i true) (a.put oi.dst v) env) ∨
       (∃ R, vals[i]? = some (.rel R) ∧ YieldsR P md ops w0 env oi R a ∧ ∀ v F, (∃ w, Env w0 (⟨i, F, R v F⟩ :: env) w) → DetB P md ops Q w0 K vals n (listed.setIfInBounds i true) (a.put oi.dst v) (⟨i, F, R v F⟩ :: env))))

section
variable {P : Program} {md : Region.Mode} {ops : Array Oper} {Q : Exit → Act → World → Prop} {w0 : World} {K : Nat} {vals : List TellM}

theorem DetB.perm : ∀ (n : Nat) (listed : Array Bool) (a : Act) (env env' : List Ent), env.Perm env' → DetB P md ops Q w0 K vals n listed a env → DetB P md ops Q w0 K vals n listed a env'
  | 0, _, _, _, _, he, h => ⟨h.1, fun w hw => h.2 w (hw.perm he.symm)⟩
  | n + 1, listed, a, env, env', he, h => by
    rcases h with h | ⟨hne, h⟩
    · exact .inl ⟨fun j hj hjK => by
        obtain ⟨oj, v, h1, h2, h3, h4⟩ := h.1 j hj hjK
        exact ⟨oj, v, h1, h2, h3.perm he, DetB.perm n _ _ _ _ he h4⟩, fun w hw => h.2 w (hw.perm he.symm)⟩
    · refine .inr ⟨hne, fun i hi => ?_⟩
      obtain ⟨hK, oi, hoi, ⟨v, hv, hy, h⟩ | ⟨R, hv, hy, h⟩⟩ := h i hi
      · exact ⟨hK, oi, hoi, .inl ⟨v, hv, hy.perm he, DetB.perm n _ _ _ _ he h⟩⟩
      · exact ⟨hK, oi, hoi, .inr ⟨R, hv, hy.perm he, fun v F ⟨w, hw⟩ => DetB.perm n _ _ _ _ (he.cons _) (h v F ⟨w, hw.perm (he.cons _).symm⟩)⟩⟩

theorem DetB.sound : ∀ (n : Nat) (listed : Array Bool) (a : Act) (env : List Ent), DetB P md ops Q w0 K vals n listed a env → ∀ w, Env w0 env w → wpAny P md ops Q n listed a w
  | 0, _, _, _, h, w, hw => h.2 w hw
  | n + 1, listed, a, env, h, w, hw => by
    rcases h with h | ⟨hne, h⟩
    · exact h.2 w hw
    · refine ⟨fun h0 => absurd h0 hne, fun i hi => ?_⟩
      obtain ⟨_, oi, hoi, ⟨v, hv, hy, h⟩ | ⟨R, hv, hy, h⟩⟩ := h i hi
      · exact wpOp_det hoi hy hw fun w' hb => DetB.sound n _ _ _ h w' (hw.step hb)
      · exact wpOp_rel hoi hy hw fun v F w' hw' => DetB.sound n _ _ _ (h v F ⟨w', hw'⟩) w' hw'

/-- 'i' may come up and is free: it may be taken first. -/
theorem DetB.first {i : Nat} {oi : Oper} (hi : ops[i]? = some oi) (hs : Region.noSelect ops = true) (hK : i < K) :
    ∀ (n : Nat) (listed : Array Bool) (a : Act) (env : List Ent), (∃ w, Env w0 env w) → Closed md ops listed → freeK md ops K listed i = true → i ∈ Region.ready md ops listed →
      ((∃ v, Told P vals i oi a v ∧ YieldsD P md ops w0 env oi v a ∧ DetB P md ops Q w0 K vals n (listed.setIfInBounds i true) (a.put oi.dst v) env) ∨
       (∃ R, vals[i]? = some (.rel R) ∧ YieldsR P md ops w0 env oi R a ∧ ∀ v F, (∃ w, Env w0 (⟨i, F, R v F⟩ :: env) w) → DetB P md ops Q w0 K vals n (listed.setIfInBounds i true) (a.put oi.dst v) (⟨i, F, R v F⟩ :: env))) →
      DetB P md ops Q w0 K vals (n + 1) listed a env := by
  intro n
  induction n with
  | zero =>
    intro listed a env hw hcl hf hr H
    refine .inr ⟨List.ne_nil_of_mem hr, fun j hj => ?_⟩
    by_cases hji : j = i
    · subst hji; exact ⟨hK, oi, hi, H⟩
    · exfalso
      obtain ⟨hjun, oj, hoj, hall⟩ := mem_ready.1 hj
      have hno : waitsB md ops 6 j i = false := by
        cases hwt : waitsB md ops 6 j i with
        | false => rfl
        | true =>
          obtain ⟨hiun, _⟩ := mem_ready.1 hr
          have := waitsB_spec hcl 6 j i oj hoj hall hwt
          rw [getD_false_true hiun] at this
          cases this
      have hfree := freeK_spec hi hf hoj hji hjun hno
      have hj' := ready_mono hj hji
      have hleaf : ∀ t ∈ Region.ready md ops (listed.setIfInBounds i true), K ≤ t := by
        rcases H with ⟨v, _, _, h⟩ | ⟨R, _, hy, h⟩
        · exact h.1
        · obtain ⟨w, hw⟩ := hw
          obtain ⟨v, F, w', hw'⟩ := hy.some i hw
          exact (h v F ⟨w', hw'⟩).1
      have := hleaf j hj'
      omega
  | succ n ih =>
    intro listed a env hwx hcl hf hr H
    refine .inr ⟨List.ne_nil_of_mem hr, fun j hj => ?_⟩
    by_cases hji : j = i
    · subst hji; exact ⟨hK, oi, hi, H⟩
    · obtain ⟨hjun, oj, hoj, hall⟩ := mem_ready.1 hj
      obtain ⟨hiun, _⟩ := mem_ready.1 hr
      have hno : waitsB md ops 6 j i = false := by
        cases hwt : waitsB md ops 6 j i with
        | false => rfl
        | true =>
          have := waitsB_spec hcl 6 j i oj hoj hall hwt
          rw [getD_false_true hiun] at this
          cases this
      obtain ⟨hap, hjK⟩ := freeK_spec hi hf hoj hji hjun hno
      have hj' := ready_mono hj hji
      have hi' : i ∈ Region.ready md ops (listed.setIfInBounds j true) := ready_mono hr (Ne.symm hji)
      have hf' := freeK_mono (j := j) hf
      have hcl' := hcl.set hj
      obtain ⟨h1, h2, h3⟩ := Oper.apart_spec hap
      have hsi := noSel hs hi
      have hsj := noSel hs hoj
      refine ⟨hjK, oj, hoj, ?_⟩
      -- what the state behind 'i' says of 'j', whatever 'i' has left
      have look : ∀ (x : Value) (env' : List Ent), env'.filter (depB md oj) = env.filter (depB md oj) → DetB P md ops Q w0 K vals (n + 1) (listed.setIfInBounds i true) (a.put oi.dst x) env' →
          ((∃ u, Told P vals j oj a u ∧ YieldsD P md ops w0 env oj u a ∧ DetB P md ops Q w0 K vals n ((listed.setIfInBounds j true).setIfInBounds i true) ((a.put oj.dst u).put oi.dst x) env') ∨
           (∃ R, vals[j]? = some (.rel R) ∧ YieldsR P md ops w0 env oj R a ∧ ∀ u G, (∃ w, Env w0 (⟨j, G, R u G⟩ :: env') w) → DetB P md ops Q w0 K vals n ((listed.setIfInBounds j true).setIfInBounds i true) ((a.put oj.dst u).put oi.dst x) (⟨j, G, R u G⟩ :: env'))) := by
        intro x env' henv h
        have he := execOp_put oj hsj a oi.dst x h1
        have hw := wanted_put oj a oi.dst x h1
        rcases h with h | ⟨_, h⟩
        · obtain ⟨oj', u, hoj', hu, hy, h⟩ := h.1 j hj' hjK
          obtain rfl : oj' = oj := Option.some.inj (hoj'.symm.trans hoj)
          refine .inl ⟨u, hu.of_same he.symm, hy.of_same he.symm hw.symm henv.symm, ?_⟩
          rw [← listed_comm listed i j hji, ← Act.put_comm a x u h2]; exact h
        · obtain ⟨_, oj', hoj', h⟩ := h j hj'
          obtain rfl : oj' = oj := Option.some.inj (hoj'.symm.trans hoj)
          rcases h with ⟨u, hu, hy, h⟩ | ⟨R, ho, hy, h⟩
          · refine .inl ⟨u, hu.of_same he.symm, hy.of_same he.symm hw.symm henv.symm, ?_⟩
            rw [← listed_comm listed i j hji, ← Act.put_comm a x u h2]; exact h
          · refine .inr ⟨R, ho, hy.of_same he.symm hw.symm henv.symm, fun u G hG => ?_⟩
            rw [← listed_comm listed i j hji, ← Act.put_comm a x _ h2]; exact h u G hG
      have keepE : ∀ u, execOp (a.put oj.dst u).eval oi = execOp a.eval oi := fun u => execOp_put oi hsi a oj.dst u h3
      have keepW : ∀ u, Region.wanted oi (yielded ops (a.put oj.dst u).tmps) = Region.wanted oi (yielded ops a.tmps) := fun u => wanted_put oi a oj.dst u h3
      have keepF : ∀ (G : List Nat) (p : World → Prop), (⟨j, G, p⟩ :: env : List Ent).filter (depB md oi) = env.filter (depB md oi) := fun G p => dep_not hi hr hjun G p env
      have keepG : ∀ (F : List Nat) (p : World → Prop), (⟨i, F, p⟩ :: env : List Ent).filter (depB md oj) = env.filter (depB md oj) := fun F p => dep_not hoj hj hiun F p env
      rcases H with ⟨v, hv, hy, H⟩ | ⟨R, hv, hy, H⟩
      · rcases look v env rfl H with ⟨u, hu, hyj, h⟩ | ⟨Rj, hu, hyj, h⟩
        · exact .inl ⟨u, hu, hyj, ih _ _ _ hwx hcl' hf' hi' (.inl ⟨v, hv.of_same (keepE u), hy.of_same (keepE u) (keepW u) rfl, h⟩)⟩
        · exact .inr ⟨Rj, hu, hyj, fun u G hG => ih _ _ _ hG hcl' hf' hi' (.inl ⟨v, hv.of_same (keepE _), hy.of_same (keepE _) (keepW _) (keepF _ _), h u G hG⟩)⟩
      · obtain ⟨wx, hwx'⟩ := hwx
        obtain ⟨v0, F0, w', hw0⟩ := hy.some i hwx'
        rcases look _ _ (keepG _ _) (H v0 F0 ⟨w', hw0⟩) with ⟨u, hu, hyj, _⟩ | ⟨Rj, hu, hyj, _⟩
        · refine .inl ⟨u, hu, hyj, ih _ _ _ ⟨wx, hwx'⟩ hcl' hf' hi' (.inr ⟨R, hv, hy.of_same (keepE u) (keepW u) rfl, fun v F hF => ?_⟩)⟩
          rcases look _ _ (keepG _ _) (H v F hF) with ⟨u', hu', _, h⟩ | ⟨Rj, hu', _, _⟩
          · obtain rfl : u' = u := hu'.one wx hu
            exact h
          · exact (hu.not hu').elim
        · refine .inr ⟨Rj, hu, hyj, fun u G hG => ih _ _ _ hG hcl' hf' hi' (.inr ⟨R, hv, hy.of_same (keepE _) (keepW _) (keepF _ _), fun v F hF => ?_⟩)⟩
          obtain ⟨w2, hw2⟩ := hF
          rcases look _ _ (keepG _ _) (H v F ⟨w2, hw2.swap.tail⟩) with ⟨u', hu', _, _⟩ | ⟨Rj', hu', _, h⟩
          · exact (hu'.not hu).elim
          · obtain rfl : Rj' = Rj := by rw [hu] at hu'; injection hu' with e; injection e with e; exact e.symm
            exact DetB.perm n _ _ _ _ (List.Perm.swap _ _ _) (h u G ⟨w2, hw2.swap⟩)

/-- Which have come up. -/
def mark (n : Nat) (l : List Nat) : Array Bool := l.foldr (fun i L => L.setIfInBounds i true) (Array.replicate n false)

def okM (ops : Array Oper) (K : Nat) (l : List Nat) (i : Nat) : Bool :=
  closedB .any ops (mark ops.size l) && Region.noSelect ops && decide (i < K) && freeK .any ops K (mark ops.size l) i && (Region.ready .any ops (mark ops.size l)).contains i

/-- The walk in an order of one's own: l have come up, the last one first. -/
def DetM (P : Program) (ops : Array Oper) (Q : Exit → Act → World → Prop) (w0 : World) (K : Nat) (vals : List TellM) (n : Nat) (l : List Nat) (a : Act) (env : List Ent) : Prop :=
  (∃ w, Env w0 env w) → DetB P .any ops Q w0 K vals n (mark ops.size l) a env

theorem detM_begin {id : Nat} {a : Act} {w : World} (vals : List TellM) (K n : Nat) (hn : (n == ops.size) = true) (hm : P.follows .mixedOrders = true)
    (h : DetM P ops Q w.drew K vals n [] a []) : (Code.region id ops true).wp P Q a w := by
  obtain rfl : n = ops.size := by simpa using hn
  have h0 : Env w.drew [] w.drew := ⟨Below.refl _ _, (fun p hp => by cases hp), List.Pairwise.nil⟩
  exact wp_region_any hm (DetB.sound _ _ _ _ (h ⟨_, h0⟩) _ h0)

theorem detM_val (i : Nat) {oi : Oper} {v : Value} {n : Nat} {l : List Nat} {a : Act} {env : List Ent} (hok : okM ops K l i = true) (hi : ops[i]? = some oi) (hv : vals[i]? = some (.val v)) (hy : YieldsD P .any ops w0 env oi v a)
    (h : DetM P ops Q w0 K vals n (i :: l) (a.put oi.dst v) env) : DetM P ops Q w0 K vals (n + 1) l a env := by
  intro hw
  simp only [okM, Bool.and_eq_true] at hok
  obtain ⟨⟨⟨⟨q0, q1⟩, q2⟩, q3⟩, q4⟩ := hok
  exact DetB.first hi q1 (of_decide_eq_true q2) n _ a env hw (closedB_spec q0) q3 (by simpa using q4) (.inl ⟨v, .inl hv, hy, h hw⟩)
theorem detM_pure (i : Nat) {oi : Oper} (v : Value) {n : Nat} {l : List Nat} {a : Act} {env : List Ent} (hok : okM ops K l i = true) (hi : ops[i]? = some oi) (hv : vals[i]? = some .pure) (hg : Region.wanted oi (yielded ops a.tmps) = true) (hy : ∀ w, (execOp a.eval oi).run P w = .ok (.value v) w)
    (h : DetM P ops Q w0 K vals n (i :: l) (a.put oi.dst v) env) : DetM P ops Q w0 K vals (n + 1) l a env := by
  intro hw
  simp only [okM, Bool.and_eq_true] at hok
  obtain ⟨⟨⟨⟨q0, q1⟩, q2⟩, q3⟩, q4⟩ := hok
  exact DetB.first hi q1 (of_decide_eq_true q2) n _ a env hw (closedB_spec q0) q3 (by simpa using q4) (.inl ⟨v, .inr ⟨hv, hy⟩, yields_of hg (fun w _ => by rw [hy]; exact Det1_same), h hw⟩)
theorem detM_rel (i : Nat) {oi : Oper} {R : Value → List Nat → World → Prop} {n : Nat} {l : List Nat} {a : Act} {env : List Ent} (hok : okM ops K l i = true) (hi : ops[i]? = some oi) (hv : vals[i]? = some (.rel R)) (hy : YieldsR P .any ops w0 env oi R a)
    (h : ∀ v F w, Env w0 (⟨i, F, R v F⟩ :: env) w → DetM P ops Q w0 K vals n (i :: l) (a.put oi.dst v) (⟨i, F, R v F⟩ :: env)) : DetM P ops Q w0 K vals (n + 1) l a env := by
  intro hw
  simp only [okM, Bool.and_eq_true] at hok
  obtain ⟨⟨⟨⟨q0, q1⟩, q2⟩, q3⟩, q4⟩ := hok
  exact DetB.first hi q1 (of_decide_eq_true q2) n _ a env hw (closedB_spec q0) q3 (by simpa using q4) (.inr ⟨R, hv, hy, fun v F hF => h v F _ hF.choose_spec hF⟩)

theorem wpOps_picked : ∀ (r : List Nat) (os : List Oper), r.map (ops[·]?) = os.map some → wpOps P ops Q r = wpList P ops Q os
  | [], [], _ => by funext a w; simp [wpOps, wpList]
  | [], _ :: _, h => by simp at h
  | _ :: _, [], h => by simp at h
  | i :: r, o :: os, h => by
    simp only [List.map_cons, List.cons.injEq] at h
    funext a w
    simp only [wpOps, h.1, wpList, wpOps_picked r os h.2]
/-- The last few come up in one order, which need not be that of their numbers. -/
def okRest (ops : Array Oper) (K : Nat) (l r : List Nat) (n : Nat) : Bool :=
  (Region.ready .any ops (mark ops.size l)).all (fun j => decide (K ≤ j)) && chainFrom .any ops r (mark ops.size l) && decide (r.length ≤ n)
theorem detM_tail (r : List Nat) (os : List Oper) {n : Nat} {l : List Nat} {a : Act} {env : List Ent} (hok : okRest ops K l r n = true) (hos : r.map (ops[·]?) = os.map some) (h : ∀ w, Env w0 env w → wpList P ops Q os a w) : DetM P ops Q w0 K vals n l a env := by
  intro _
  simp only [okRest, Bool.and_eq_true] at hok
  obtain ⟨⟨q1, q2⟩, q3⟩ := hok
  have h' : ∀ w, Env w0 env w → wpAny P .any ops Q n (mark ops.size l) a w := fun w hw => wpAny_chain r n _ a w q2 (by simpa using q3) (by rw [wpOps_picked r os hos]; exact h w hw)
  have hK : ∀ j ∈ Region.ready .any ops (mark ops.size l), K ≤ j := fun j hj => by simpa using List.all_eq_true.1 q1 j hj
  cases n with
  | zero => exact ⟨hK, h'⟩
  | succ n => exact .inl ⟨fun j hj hjK => absurd (hK j hj) (by omega), h'⟩
end
end Go.Proofs.YtmhkmliebhbkdaaGreat
