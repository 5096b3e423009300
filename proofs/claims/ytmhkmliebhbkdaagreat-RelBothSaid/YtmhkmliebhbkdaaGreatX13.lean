import Derived.Test.YtmhkmliebhbkdaaGreatX12
import Derived.Handed
import Derived.Carry
import Derived.Deep.Slices
import Derived.Deep.Fields
import Derived.ChangeSame

/- Expressions, columns and rows of values that come in. -/
namespace Go.Proofs.YtmhkmliebhbkdaaGreat
open Go.ChangeShapes Go.WideShapes Go.ChangeAt Go.RowKit Go.Deep

theorem cellsE : Tryz.prog.cellsOf 29 = 6 := by kernel_rfl
theorem cellsCl : Tryz.prog.cellsOf 77 = 3 := by kernel_rfl
theorem cells1s : Tryz.prog.cellsOf 9 = 1 := by kernel_rfl
theorem cells1L : Tryz.prog.cellsOf 27 = 1 := by kernel_rfl
theorem addE (a : Addr) (j : Nat) (hj : j ≠ 0) : a.add j = ⟨a.block, a.off + j, none⟩ := by unfold Addr.add; rw [if_neg hj]

/-- A slice of expressions that comes in, so deep: each part's cells, below block B. -/
def InL (W : World) (B : Nat) : Nat → Value → Prop
  | 0, v => ∃ A n cap, v = .slice A n cap ∧ n ≤ maxLen
  | d + 1, v => ∃ A n cap, v = .slice A n cap ∧ n ≤ maxLen ∧ ∀ j, j < n → ∃ a t u, A = some a ∧ a.block < B ∧ ExC W (a.add (j * 6)) t u ∧ t.op.size ≤ maxLen ∧ t.x.s.size ≤ maxLen ∧ t.s.size ≤ maxLen ∧ In64 t.x.i ∧ InL W B d u
theorem InL.form {W : World} {B : Nat} : ∀ {d : Nat} {v : Value}, InL W B d v → ∃ A n cap, v = .slice A n cap ∧ n ≤ maxLen
  | 0, _, h => h
  | _ + 1, _, ⟨A, n, cap, h, hn, _⟩ => ⟨A, n, cap, h, hn⟩
theorem InL.keep {W W' : World} {B : Nat} (hb : Below B W W') : ∀ {d : Nat} {v : Value}, InL W B d v → InL W' B d v
  | 0, _, h => h
  | _ + 1, _, ⟨A, n, cap, h, hn, hj⟩ => ⟨A, n, cap, h, hn, fun j hjn => by
    obtain ⟨a, t, u, e, hB, hc, h1, h2, h3, h4, hr⟩ := hj j hjn
    exact ⟨a, t, u, e, hB, hc.keep (by rw [add_block]; exact hb.block _ hB), h1, h2, h3, h4, InL.keep hb hr⟩⟩
theorem InL.more {W : World} {B B' : Nat} (hB' : B ≤ B') : ∀ {d : Nat} {v : Value}, InL W B d v → InL W B' d v
  | 0, _, h => h
  | _ + 1, _, ⟨A, n, cap, h, hn, hj⟩ => ⟨A, n, cap, h, hn, fun j hjn => by
    obtain ⟨a, t, u, e, hB, hc, h1, h2, h3, h4, hr⟩ := hj j hjn
    exact ⟨a, t, u, e, Nat.lt_of_lt_of_le hB hB', hc, h1, h2, h3, h4, InL.more hB' hr⟩⟩

theorem six {α : Type} {l : List α} (h : l.length = 6) : ∃ a b c d e f, l = [a, b, c, d, e, f] := by
  match l, h with
  | [a, b, c, d, e, f], _ => exact ⟨a, b, c, d, e, f, rfl⟩

section
variable {H : Type} {enc : TypeId × Value → H} {w : World} {base : Nat} {spare : Nat → Bool} {held : Bool}
set_option maxRecDepth 100000 in
/-- The six cells of an expression that reads. -/
theorem open_cells {fuel : Nat} {cs : List Value} {x : DataW H × List MemPlace} (h : DataW.trod enc Tryz.prog w base spare held fuel 29 cs = some x) :
    ∃ (op : ByteArray) (k i : Int) (vs s : ByteArray) (u : Value) (n : Nat) (y : DataW H × List MemPlace), cs = [.string op, .int .i64 k, .int .i64 i, .string vs, .string s, u] ∧ op.size ≤ maxLen ∧ vs.size ≤ maxLen ∧ s.size ≤ maxLen ∧ In64 i ∧ DataW.trod enc Tryz.prog w base spare held n 27 [u] = some y := by
  obtain ⟨y0, y1, y2, y3, n, _, hl, h0, h1, h2, h3⟩ := Go.Joins.trod_struct4 Tryz.underlying29 h
  rw [cellsE] at hl
  obtain ⟨c0, c1, c2, c3, c4, c5, rfl⟩ := six hl
  dsimp only at h0 h1 h2 h3
  rw [cells1s] at h0 h2
  rw [cellsV] at h1
  rw [cells1L] at h3
  simp only [List.drop_zero, List.drop_succ_cons, List.take_succ_cons, List.take_zero] at h0 h1 h2 h3
  obtain ⟨op, e0, _, s0⟩ := DataW.trod_string Tryz.underlying9 h0
  obtain ⟨s, e2, _, s2⟩ := DataW.trod_string Tryz.underlying9 h2
  obtain ⟨z0, z1, z2, m, _, _, g0, g1, g2⟩ := Go.Deep.trod_struct3 Tryz.underlying26 h1
  dsimp only at g0 g1 g2
  rw [show Tryz.prog.cellsOf 3 = 1 by kernel_rfl] at g0
  rw [show Tryz.prog.cellsOf 2 = 1 by kernel_rfl] at g1
  rw [cells1s] at g2
  simp only [List.drop_zero, List.drop_succ_cons, List.take_succ_cons, List.take_zero] at g0 g1 g2
  obtain ⟨k, e3, _, _⟩ := DataW.trod_int Tryz.underlying3 g0
  obtain ⟨i, e4, _, wi⟩ := DataW.trod_int Tryz.underlying2 g1
  obtain ⟨vs, e5, _, s5⟩ := DataW.trod_string Tryz.underlying9 g2
  simp only [List.cons.injEq, and_true] at e0 e2 e3 e4 e5
  subst e0 e2 e3 e4 e5
  exact ⟨_, _, _, _, _, _, _, _, rfl, s0, s5, s2, in64_of_wf wi, h3⟩

set_option maxRecDepth 100000 in
theorem open_tree : ∀ (d : Nat) {u : Value} {fuel : Nat} {y : DataW H × List MemPlace}, DataW.trod enc Tryz.prog w base spare held fuel 27 [u] = some y → InL w w.heap.size d u := by
  intro d
  induction d with
  | zero =>
    intro u fuel y h
    rcases Go.Deep.open_slice Tryz.underlying27 h with h0 | ⟨a, len, cap, m, n, D, Pl, hcs, _, hl, hm, _⟩
    · have := h0.1
      simp only [List.cons.injEq, and_true] at this
      subst this
      exact ⟨none, 0, 0, rfl, by unfold maxLen; omega⟩
    · simp only [List.cons.injEq, and_true] at hcs
      subst hcs
      exact ⟨_, _, _, rfl, Nat.le_trans hl hm⟩
  | succ d ih =>
    intro u fuel y h
    rcases Go.Deep.open_slice Tryz.underlying27 h with h0 | ⟨a, len, cap, m, n, D, Pl, hcs, hb, hl, hm, hmm, _, hi⟩
    · have := h0.1
      simp only [List.cons.injEq, and_true] at this
      subst this
      exact ⟨none, 0, 0, rfl, by unfold maxLen; omega, fun j hj => absurd hj (by omega)⟩
    · simp only [List.cons.injEq, and_true] at hcs
      subst hcs
      refine ⟨_, _, _, rfl, Nat.le_trans hl hm, fun j hj => ?_⟩
      have hlm : len ≤ m := by rw [hmm]; split <;> omega
      obtain ⟨cs', hc, ht⟩ := hi j (by omega)
      rw [cellsE] at hc
      obtain ⟨op, k, i, vs, s, u', n', y', rfl, s0, s1, s2, hi6, hr⟩ := open_cells ht
      obtain ⟨_, _, hat⟩ := World.cells?_some hc
      have c0 := hat 0 (by omega)
      have hlt := World.block_lt_of_cell? w _ c0
      rw [add_block, add_block] at hlt
      refine ⟨a, .mk op ⟨k, i, vs⟩ s [], u', rfl, hlt, ⟨c0, ?_, ?_, ?_, ?_, ?_⟩, s0, s1, s2, hi6, ih hr⟩
      · have := hat 1 (by omega); rw [addE _ _ (by omega)] at this; exact this
      · have := hat 2 (by omega); rw [addE _ _ (by omega)] at this; exact this
      · have := hat 3 (by omega); rw [addE _ _ (by omega)] at this; exact this
      · have := hat 4 (by omega); rw [addE _ _ (by omega)] at this; exact this
      · have := hat 5 (by omega); rw [addE _ _ (by omega)] at this; exact this
set_option maxRecDepth 100000 in
/-- An expression that comes in. -/
theorem open_expr {r : Reach} {b0 : Nat} {v : Value} {d : DataW H} {p : List MemPlace} (hv : Value.okWide Tryz.prog w r b0 29 v) (h : DataW.Trod enc Tryz.prog w base spare held 29 v d p) :
    ∃ (op : ByteArray) (k i : Int) (vs s : ByteArray) (u : Value), v = .agg #[.string op, .int .i64 k, .int .i64 i, .string vs, .string s, u] ∧ op.size ≤ maxLen ∧ vs.size ≤ maxLen ∧ s.size ≤ maxLen ∧ In64 i ∧ ∀ d, InL w w.heap.size d u := by
  obtain ⟨cs, rfl, _⟩ := okWide_struct Tryz.underlying29 hv
  obtain ⟨fuel, hf⟩ := h
  obtain ⟨op, k, i, vs, s, u, n, y, e, s0, s1, s2, hi6, hr⟩ := open_cells hf
  refine ⟨op, k, i, vs, s, u, ?_, s0, s1, s2, hi6, fun d => open_tree d hr⟩
  obtain ⟨l⟩ := cs
  have : l = [.string op, .int .i64 k, .int .i64 i, .string vs, .string s, u] := by simpa [Value.cells] using e
  rw [this]

theorem slice_fieldsE {t e : TypeId} {P : Program} {fs : Array Field} {fuel : Nat} {cs : List Value} {x : DataW H × List MemPlace} (ht : P.underlying t = some (.slice e)) (he : P.underlying e = some (.struct fs))
    (hone : oneCellFields P fs = true) (hC : P.cellsOf e = fs.size) (h : DataW.trod enc P w base spare held fuel t cs = some x) :
    (cs = [.slice none 0 0]) ∨
    ∃ (a : Addr) (len cap : Nat), cs = [.slice (some a) len cap] ∧ len ≤ cap ∧ cap ≤ maxLen ∧
      ∀ i, i < len → ∀ (j : Nat) (f : Field), fs[j]? = some f → ∃ (v : Value) (y : DataW H × List MemPlace) (n : Nat), w.cell? ((a.add (i * fs.size)).add j) = some v ∧ DataW.trod enc P w base spare held n f.type [v] = some y := by
  rcases Go.Deep.open_slice ht h with h0 | ⟨a, len, cap, m, n, D, Pl, hcs, hb, hl, hm, hmm, hx, hi⟩
  · exact .inl h0.1
  · refine .inr ⟨a, len, cap, hcs, hl, hm, fun i hil j f hj => ?_⟩
    have hlm : len ≤ m := by rw [hmm]; split <;> omega
    obtain ⟨cs', hc, ht'⟩ := hi i (by omega)
    rw [hC] at hc
    obtain ⟨ys, n', hn', hy, hlen, hyl, hf⟩ := DataW.trod_struct he ht'
    obtain ⟨_, hcl, hat⟩ := World.cells?_some hc
    obtain ⟨ho, hk⟩ := hone_of hone j f hj
    have hjl : j < fs.size := (Array.getElem?_eq_some_iff.1 hj).1
    have hcell := hat j hjl
    have hv : cs'[j]? = some (cs'[j]'(by omega)) := List.getElem?_eq_getElem (by omega)
    have h1 := hf j f hj
    rw [ho, hk] at h1
    have hone' : (cs'.drop j).take 1 = [cs'[j]'(by omega)] := by
      rw [List.drop_eq_getElem_cons (by omega)]
      rfl
    rw [hone'] at h1
    have hys : ys[j]? = some (ys[j]'(by omega)) := List.getElem?_eq_getElem (by omega)
    exact ⟨_, _, _, by rw [hcell, hv], h1.trans hys⟩

end
theorem laidOutB_E : laidOutB Tryz.prog = true := by kernel_rfl
end Go.Proofs.YtmhkmliebhbkdaaGreat

/- What Few keeps while it goes through an expression: plain facts; where a row that has grown lies. -/
namespace Go.Proofs.YtmhkmliebhbkdaaGreat
open Go.RowKit Go.Lib

/-- Each number in a tree is one of 64 bits, each text of a value no longer than may be. -/
def okF : Nat → Ex → Prop
  | 0, _ => True
  | m + 1, t => In64 t.x.i ∧ t.x.s.size ≤ 100000 ∧ ∀ y ∈ t.l, okF m y
def okT (t : Ex) : Prop := ∀ m, okF m t
theorem okT.mk {t : Ex} (h1 : In64 t.x.i) (h2 : t.x.s.size ≤ 100000) {l : List Ex} (h : ∀ y ∈ l, okT y) : okT (.mk t.op t.x t.s l) := fun m => by
  cases m with
  | zero => trivial
  | succ m => exact ⟨h1, h2, fun y hy => h y hy m⟩

theorem okT_snoc {ps : List (Ex × Value)} {t : Ex} {u : Value} (h : ∀ p ∈ ps, okT p.1) (k : okT t) : ∀ p ∈ ps ++ [(t, u)], okT p.1 := fun p hp => by
  rcases List.mem_append.1 hp with hp | hp
  · exact h p hp
  · simp only [List.mem_singleton] at hp
    subst hp
    exact k

/-- Where a row that has grown lies: where it was, or in a block of its own. -/
theorem append_where {P : Program} (w : World) (base : Nat) (t ty e : TypeId) (i : TypeInfo) (z : Value) (size bytes : Nat) (ht : P.underlying t = some (.slice e)) (hi : P.info? e = some i) (hz : i.zero = some z)
    (hsize : i.size = size) (hby : i.bytes = bytes) (v : Value) (n : Nat) (xs : List Value) (hown : w.ownsRow base e size v n xs)
    (a : Addr) (m c : Nat) (news : List Value) (hl : news.length = m * size) (hnews : ∀ j u, news[j]? = some u → w.cell? (a.add j) = some u) (h1 : ∀ u ∈ news, u.oneCell' = true)
    (hm : 0 < m) (h63 : n + m ≤ maxLen) (hbytes : (n + m) * bytes ≤ 140737488355328) {v' : Value} {w' : World} (hr : (Builtin.append_ #[t, t] ty #[v, .slice (some a) m c]).run P w = .ok v' w') :
    v'.ownBlock = v.ownBlock ∨ v'.ownBlock = some w.heap.size := by
  subst hsize
  subst hby
  rcases hown.2 with ⟨rfl, rfl⟩ | ⟨g, cap, cur, rfl, _, hg, hnc, hcm, hcs, _⟩
  · have h := run_append_nil (P := P) w t ty e i z ht hi hz a m c news hl hnews hm (by simp only [maxLen] at h63; omega) (by simp only [Nat.zero_add] at hbytes; omega)
    rw [h] at hr
    injection hr with e1 _
    subst e1
    exact .inr rfl
  · by_cases hroom : n + m ≤ cap
    · have h := run_append_room (P := P) w t ty e i ht hi g n cap cur hg a m c news hl hnews h1 hroom (by rw [hl, hcs, ← Nat.add_mul]; exact Nat.mul_le_mul_right _ hroom)
      rw [h] at hr
      injection hr with e1 _
      subst e1
      exact .inl rfl
    · have h := run_append_grow (P := P) w t ty e i z ht hi hz ⟨g, 0, none⟩ n cap xs hown.1 (hown.cells (g := g) rfl) a m c news hl hnews (by omega) (by simp only [maxLen] at h63; omega) (growslice_fits (by omega) hbytes)
      rw [h] at hr
      injection hr with e1 _
      subst e1
      exact .inr rfl

/-- append to a row of the call's own, with word of where the row lies then. -/
theorem wpList_append_kept {P : Program} {w : World} {ops : Array Oper} {rest : List Oper} {o : Oper} {a : Act} {Q : Exit → Act → World → Prop} (hgd : o.guard = none) (s x : Operand) (t : TypeId)
    (ho : o.op = .call { callee := .builtin .append, args := #[s, x], argTypes := #[t, t] })
    (base : Nat) (e : TypeId) (i : TypeInfo) (z : Value) (size bytes : Nat) (ht : P.underlying t = some (.slice e)) (hi : P.info? e = some i) (hz : i.zero = some z)
    (hsize : i.size = size) (hby : i.bytes = bytes) (hzs : z.cells.size = size) (hsz : 0 < size)
    (v : Value) (n : Nat) (xs : List Value) (hs : a.eval s = v) (hown : w.ownsRow base e size v n xs)
    (ad : Addr) (m c : Nat) (news : List Value) (hx : a.eval x = .slice (some ad) m c) (hl : news.length = m * size) (hnews : ∀ j u, news[j]? = some u → w.cell? (ad.add j) = some u) (h1 : ∀ u ∈ news, u.oneCell' = true)
    (hm : 0 < m) (h63 : n + m ≤ maxLen) (hbytes : (n + m) * bytes ≤ 140737488355328) (hbase : base ≤ w.heap.size)
    (h : ∀ v' w', w'.ownsRow base e size v' (n + m) (xs ++ news) → w.grownBy w' v.ownBlock → (v'.ownBlock = v.ownBlock ∨ v'.ownBlock = some w.heap.size) → wpList P ops Q rest (a.put o.dst v') w') : wpList P ops Q (o :: rest) a w := by
  obtain ⟨v', w', hr, h2, h3, _⟩ := run_append_own (P := P) w base t o.type e i z size bytes ht hi hz hsize hby hzs hsz v n xs hown ad m c news hl hnews h1 h63 hbytes hbase
  have h5 := append_where (P := P) w base t o.type e i z size bytes ht hi hz hsize hby v n xs hown ad m c news hl hnews h1 hm h63 hbytes hr
  refine wpList_plain hgd fun K hK => ?_
  unfold Oper.wp execOp
  simp only [ho, resolve, invoke, builtin, Sem.run_bind, Sem.run_pure, Result.andThen_ok, List.map_toArray, List.map_cons, List.map_nil, hs, hx, hr]
  exact hK _ _ (h v' w' h2 h3 h5)

theorem infoExpr : (Tryz.prog.info? 29).map (fun i => (i.zero, i.size, i.bytes)) = some (some (.agg #[.string ⟨#[]⟩, .int .i64 0, .int .i64 0, .string ⟨#[]⟩, .string ⟨#[]⟩, .slice none 0 0]), 6, 88) := by kernel_rfl

/-- The six cells of an expression. -/
def ecell (p : Ex × Value) : List Value := [.string p.1.op, .int .i64 p.1.x.k, .int .i64 p.1.x.i, .string p.1.x.s, .string p.1.s, p.2]
def eCells (l : List (Ex × Value)) : List Value := l.flatMap ecell
theorem eCells_snoc (l : List (Ex × Value)) (p : Ex × Value) : eCells (l ++ [p]) = eCells l ++ ecell p := by simp [eCells]
theorem eCells_len (l : List (Ex × Value)) : (eCells l).length = l.length * 6 := by
  induction l with
  | nil => rfl
  | cons x l ih => simp only [eCells, List.flatMap_cons, List.length_append] at ih ⊢; rw [ih]; simp [ecell]; omega
theorem eCells_at (l : List (Ex × Value)) : ∀ j (h : j < l.length) (k : Nat), k < 6 → (eCells l)[j * 6 + k]? = (ecell l[j])[k]? := by
  induction l with
  | nil => intro j h; simp at h
  | cons x l ih =>
    intro j h k hk
    have e : eCells (x :: l) = ecell x ++ eCells l := by simp [eCells]
    have hl : (ecell x).length = 6 := rfl
    rw [e]
    cases j with
    | zero => rw [Nat.zero_mul, Nat.zero_add, List.getElem?_append_left (by rw [hl]; exact hk)]; rfl
    | succ j =>
      rw [List.getElem?_append_right (by rw [hl]; omega), hl, show (j + 1) * 6 + k - 6 = j * 6 + k by omega]
      exact ih j (by simpa using h) k hk
theorem ecell_one (p : Ex × Value) (h : p.2.oneCell' = true) : ∀ u ∈ ecell p, u.oneCell' = true := by
  intro u hu
  simp only [ecell, List.mem_cons, List.not_mem_nil, or_false] at hu
  rcases hu with rfl | rfl | rfl | rfl | rfl | rfl
  · rfl
  · rfl
  · rfl
  · rfl
  · rfl
  · exact h

theorem new_ecells {W : World} {n : Nat} {t : TypeId} {p : Ex × Value} (h : W.heap.size = n) : ∀ j u, (ecell p)[j]? = some u → (W.alloc (.cells #[.string p.1.op, .int .i64 p.1.x.k, .int .i64 p.1.x.i, .string p.1.x.s, .string p.1.s, p.2] t)).cell? ((⟨n, 0, none⟩ : Addr).add j) = some u := by
  subst h
  intro j u h
  match j with
  | 0 => simp [ecell] at h; subst h; simp [Addr.add, go_sem]
  | 1 => simp [ecell] at h; subst h; simp [Addr.add, go_sem]
  | 2 => simp [ecell] at h; subst h; simp [Addr.add, go_sem]
  | 3 => simp [ecell] at h; subst h; simp [Addr.add, go_sem]
  | 4 => simp [ecell] at h; subst h; simp [Addr.add, go_sem]
  | 5 => simp [ecell] at h; subst h; simp [Addr.add, go_sem]
  | j + 6 => simp [ecell] at h

def eObj (t : Ex) (u : Value) : Obj := .cells #[.string t.op, .int .i64 t.x.k, .int .i64 t.x.i, .string t.x.s, .string t.s, u] 29
def zObj : Obj := .cells #[.string ⟨#[]⟩, .int .i64 0, .int .i64 0, .string ⟨#[]⟩, .string ⟨#[]⟩, .slice none 0 0] 29

/-- Few's boxes: what came in, the result's cells, what comes out so far. -/
structure Fst (w : World) (ti t : Ex) (u v : Value) (W : World) : Prop where
  pl : Below w.heap.size w W
  inn : W.heap[w.heap.size]? = some (.cells #[.string ti.op, .int .i64 ti.x.k, .int .i64 ti.x.i, .string ti.x.s, .string ti.s, u] 29 (0, 0))
  res : W.heap[w.heap.size + 1]? = some (.cells #[.string ⟨#[]⟩, .int .i64 0, .int .i64 0, .string ⟨#[]⟩, .string ⟨#[]⟩, .slice none 0 0] 29 (0, 0))
  out : W.heap[w.heap.size + 1 + 1]? = some (.cells #[.string t.op, .int .i64 t.x.k, .int .i64 t.x.i, .string t.x.s, .string t.s, v] 29 (0, 0))
theorem Fst.lt {w : World} {ti t : Ex} {u v : Value} {W : World} (h : Fst w ti t u v W) : w.heap.size + 1 + 1 < W.heap.size := lt_of_block h.out
theorem Fst.start (w : World) (t : Ex) (u : Value) : Fst w t t u (.slice none 0 0) (((w.alloc (eObj t u)).alloc zObj).alloc (eObj t (.slice none 0 0))) := by
  refine ⟨((((Below.refl _ _).alloc (Nat.le_refl _) _).alloc (by simp) _).alloc (by simp; omega) _), ?_, ?_, ?_⟩
  · rw [Below.heap_alloc _ _ _ (by simp; omega), Below.heap_alloc _ _ _ (by simp)]
    exact alloc_at rfl _
  · rw [Below.heap_alloc _ _ _ (by simp)]
    exact alloc_at (by simp) _
  · exact alloc_at (by simp) _
theorem six_set {W : World} {b : Nat} {c0 c1 c2 c3 c4 c5 : Value} {t : TypeId} (h : W.heap[b]? = some (.cells #[c0, c1, c2, c3, c4, c5] t (0, 0))) (i : Nat) (x : Value) :
    (W.setCell ⟨b, i, none⟩ x).heap[b]? = some (.cells (#[c0, c1, c2, c3, c4, c5].setIfInBounds i x) t (0, 0)) := by
  have hlt := lt_of_block h
  have h' : W.heap[b] = .cells #[c0, c1, c2, c3, c4, c5] t (0, 0) := by simpa [Array.getElem?_eq_getElem hlt] using h
  show (W.heap.modify b _)[b]? = _
  rw [Array.getElem?_eq_getElem (by simpa using hlt), Array.getElem_modify_self, h']
  rfl
theorem Fst.set {w : World} {ti t t' : Ex} {u v v' : Value} {W : World} (h : Fst w ti t u v W) (i : Nat) (x : Value)
    (e : (#[Value.string t.op, .int .i64 t.x.k, .int .i64 t.x.i, .string t.x.s, .string t.s, v] : Array Value).setIfInBounds i x = #[.string t'.op, .int .i64 t'.x.k, .int .i64 t'.x.i, .string t'.x.s, .string t'.s, v']) :
    Fst w ti t' u v' (W.setCell ⟨w.heap.size + 1 + 1, i, none⟩ x) :=
  ⟨h.pl.setCell (by simp; omega) _, (Below.heap_setCell _ _ _ _ (by show w.heap.size ≠ w.heap.size + 1 + 1; omega)).trans h.inn, (Below.heap_setCell _ _ _ _ (by show w.heap.size + 1 ≠ w.heap.size + 1 + 1; omega)).trans h.res, (six_set h.out i x).trans (by rw [e])⟩
theorem Fst.later {w : World} {ti t : Ex} {u v : Value} {W W' : World} (h : Fst w ti t u v W) (hb : Below W.heap.size W W') : Fst w ti t u v W' := by
  have := h.lt
  exact ⟨h.pl.trans (hb.mono (by omega)), (hb.block _ (by omega)).trans h.inn, (hb.block _ (by omega)).trans h.res, (hb.block _ h.lt).trans h.out⟩
theorem Fst.grown {w : World} {ti t : Ex} {u v : Value} {W W' : World} {row : Option Nat} (h : Fst w ti t u v W) (hg : W.grownBy W' row) (hr : ∀ g, row = some g → w.heap.size + 1 + 1 < g) : Fst w ti t u v W' := by
  have := h.lt
  have nr : ∀ k, k ≤ w.heap.size + 1 + 1 → some k ≠ row := fun k hk e => by have := hr k e.symm; omega
  exact ⟨h.pl.grown hg (by omega) (fun k e => by have := hr k e; omega), (hg.block _ (by omega) (nr _ (by omega))).trans h.inn, (hg.block _ (by omega) (nr _ (by omega))).trans h.res, (hg.block _ h.lt (nr _ (Nat.le_refl _))).trans h.out⟩

/-- The parts that have come out: a row of the call's own; their blocks are other ones than the row's. -/
def Kids (W : World) (B d : Nat) (v : Value) (k : Nat) (ps : List (Ex × Value)) : Prop :=
  W.ownsRow B 29 6 v k (eCells ps) ∧ ∃ Q : Nat → Prop, (∀ b, Q b → B ≤ b ∧ b < W.heap.size ∧ v.ownBlock ≠ some b) ∧ ∀ p ∈ ps, p.1.s.size ≤ 100000 ∧ Sl W Q d p.1.l p.2
theorem Kids.start (W : World) (B d : Nat) : Kids W B d (.slice none 0 0) 0 [] := ⟨World.ownsRow_nil _ _ _ _, fun _ => False, fun _ h => h.elim, fun _ h => by cases h⟩
theorem Kids.none_ {W : World} {B d : Nat} {v : Value} {k : Nat} {ps : List (Ex × Value)} (h : Kids W B d v k ps) : ps.length = k := by
  have := h.1.1
  rw [eCells_len] at this
  omega
theorem Kids.form {W : World} {B d : Nat} {v : Value} {k : Nat} {ps : List (Ex × Value)} (h : Kids W B d v k ps) : ∃ A cap, v = .slice A k cap := by
  rcases h.1.2 with ⟨rfl, rfl⟩ | ⟨g, cap, cur, rfl, _⟩
  · exact ⟨_, _, rfl⟩
  · exact ⟨_, _, rfl⟩
/-- One more. -/
theorem Kids.snoc {W w1 w2 W3 : World} {B d : Nat} {v v' : Value} {k : Nat} {ps : List (Ex × Value)} (h : Kids W B d v k ps) (hB : B ≤ W.heap.size) (hb1 : Below W.heap.size W w1) {t1 : Ex} {u1 : Value} (ht : Tr w1 (fun b => W.heap.size ≤ b) d t1 u1)
    (hle : w1.heap.size ≤ w2.heap.size) (hsame : ∀ b, b < w1.heap.size → w2.heap[b]? = w1.heap[b]?)
    (hown : W3.ownsRow B 29 6 v' (k + 1) (eCells ps ++ ecell (t1, u1))) (hg : w2.grownBy W3 v.ownBlock) (hw : v'.ownBlock = v.ownBlock ∨ v'.ownBlock = some w2.heap.size) : Kids W3 B d v' (k + 1) (ps ++ [(t1, u1)]) := by
  obtain ⟨h1, Q, hQ, hp⟩ := h
  have hlt := h1.lt
  have hs1 := hb1.size
  have hs2 := hg.size
  have far : ∀ b, (Q b ∨ (W.heap.size ≤ b ∧ b < w1.heap.size)) → b < w1.heap.size ∧ B ≤ b ∧ v.ownBlock ≠ some b := fun b hb => by
    rcases hb with hb | ⟨hb, hb'⟩
    · have := hQ b hb
      exact ⟨by omega, this.1, this.2.2⟩
    · exact ⟨hb', by omega, fun e => by have := (hlt b e).2; omega⟩
  have same : ∀ b, (Q b ∨ (W.heap.size ≤ b ∧ b < w1.heap.size)) → W3.heap[b]? = w1.heap[b]? := fun b hb => by
    obtain ⟨f1, _, f3⟩ := far b hb
    exact (hg.block b (by omega) (fun e => f3 e.symm)).trans (hsame b f1)
  refine ⟨by rw [eCells_snoc]; exact hown, fun b => Q b ∨ (W.heap.size ≤ b ∧ b < w1.heap.size), fun b hb => ?_, fun p hmem => ?_⟩
  · obtain ⟨f1, f2, f3⟩ := far b hb
    refine ⟨f2, by omega, ?_⟩
    rcases hw with hw | hw
    · rw [hw]; exact f3
    · rw [hw]
      intro e
      injection e with e
      omega
  · rcases List.mem_append.1 hmem with hmem | hmem
    · obtain ⟨s1, s2⟩ := hp p hmem
      refine ⟨s1, Sl.keep (fun b hb _ => (same b (.inl hb)).trans (hb1.block b (hQ b hb).2.1)) (fun b hb _ => .inl hb) s2⟩
    · simp only [List.mem_singleton] at hmem
      subst hmem
      refine ⟨ht.1, Sl.keep (w := w1) (fun b hb hl => same b (.inr ⟨hb, hl⟩)) (fun b hb hl => .inr ⟨hb, hl⟩) ht.2⟩
theorem Kids.set {W : World} {B d b : Nat} {v : Value} {k : Nat} {ps : List (Ex × Value)} (h : Kids W B d v k ps) (hb : b < B) (i : Nat) (x : Value) : Kids (W.setCell ⟨b, i, none⟩ x) B d v k ps := by
  obtain ⟨h1, Q, hQ, hp⟩ := h
  have far : ∀ q, B ≤ q → (W.setCell ⟨b, i, none⟩ x).heap[q]? = W.heap[q]? := fun q hq => Below.heap_setCell _ _ _ _ (by show q ≠ b; omega)
  refine ⟨ownsRow_setCell_other h1 (fun e => by have hx : B ≤ b := (h1.lt _ e).1; omega) _, Q, fun q hq => ⟨(hQ q hq).1, by have := (hQ q hq).2.1; simpa [World.setCell] using this, (hQ q hq).2.2⟩, fun p hm => ?_⟩
  obtain ⟨s1, s2⟩ := hp p hm
  exact ⟨s1, Sl.keep (fun q hq _ => far q (hQ q hq).1) (fun q hq _ => hq) s2⟩
/-- What has come out reads as a tree. -/
theorem Kids.tree {W : World} {B d : Nat} {v : Value} {k : Nat} {ps : List (Ex × Value)} (h : Kids W B d v k ps) (hk : k ≤ 100) {t : Ex} (hs : t.s.size ≤ 100000) : Tr W (fun b => B ≤ b) (d + 1) (.mk t.op t.x t.s (ps.map (·.1))) v := by
  have hlen := h.none_
  obtain ⟨h1, Q, hQ, hp⟩ := h
  refine ⟨hs, ?_⟩
  have hl : (ps.map (·.1)).length = k := by simpa using hlen
  rcases h1.2 with ⟨rfl, h0⟩ | ⟨g, cap, cur, rfl, hB, hg, hc, hm, _, _⟩
  · subst h0
    refine ⟨none, 0, ?_, ?_, fun j hj => absurd hj (by show ¬ j < (ps.map (·.1)).length; omega)⟩
    · show Value.slice none 0 0 = .slice none (ps.map (·.1)).length 0
      rw [hl]
    · show (ps.map (·.1)).length ≤ maxLen
      unfold maxLen; omega
  · refine ⟨some ⟨g, 0, none⟩, cap, ?_, ?_, fun j hj => ?_⟩
    · show _ = Value.slice _ (ps.map (·.1)).length cap
      rw [hl]
    · show (ps.map (·.1)).length ≤ maxLen
      unfold maxLen; omega
    · have hj' : j < ps.length := by have : j < (ps.map (·.1)).length := hj; simpa using this
      have hadd : (⟨g, 0, none⟩ : Addr).add (j * 6) = ⟨g, j * 6, none⟩ := by unfold Addr.add; split <;> simp_all
      obtain ⟨s1, s2⟩ := hp ps[j] (List.getElem_mem _)
      have ce : ∀ i, i < 6 → W.cell? ⟨g, j * 6 + i, none⟩ = (ecell ps[j])[i]? := fun i hi => (h1.cellAt (j * 6 + i) (by omega)).trans (eCells_at ps j hj' i hi)
      have hj2 : j < (ps.map (fun p : Ex × Value => p.1)).length := hj
      have eg : (ps.map (fun p : Ex × Value => p.1))[j]'hj2 = ps[j].1 := List.getElem_map _
      refine ⟨⟨g, 0, none⟩, ps[j].2, rfl, hB, ?_, ?_, ?_⟩
      · show ExC W _ ((ps.map (fun p : Ex × Value => p.1))[j]'hj2) _
        rw [hadd, eg]
        exact ⟨ce 0 (by omega), ce 1 (by omega), ce 2 (by omega), ce 3 (by omega), ce 4 (by omega), ce 5 (by omega)⟩
      · show ((ps.map (fun p : Ex × Value => p.1))[j]'hj2).s.size ≤ 100000
        rw [eg]; exact s1
      · show Sl W _ d ((ps.map (fun p : Ex × Value => p.1))[j]'hj2).l _
        rw [eg]
        exact Sl.keep (fun _ _ _ => rfl) (fun b hb _ => (hQ b hb).1) s2
end Go.Proofs.YtmhkmliebhbkdaaGreat

/- The law's Few: an expression of so many levels comes out, in blocks of its own. -/
namespace Go.Proofs.YtmhkmliebhbkdaaGreat
open Go.RowKit Go.Lib

/-- What few answers. -/
def FewO (w : World) (d : Nat) (e : Ending) (w' : World) : Prop := (∃ (t : Ex) (u : Value) (n : Int), e = .returned (.tuple #[EVt t u, .int .i64 n]) ∧ 0 ≤ n ∧ n ≤ 80 ∧ okT t ∧ Tr w' (fun b => w.heap.size ≤ b) d t u) ∧ Below w.heap.size w w'
def FewC (d : Nat) : Prop := ∀ (w : World) (z lv : Int) (op : ByteArray) (k i : Int) (vs s : ByteArray) (u : Value), z = d → In64 i → 1 ≤ lv → lv ≤ 80 → op.size ≤ maxLen → vs.size ≤ maxLen → s.size ≤ maxLen → InL w w.heap.size d u →
  Calls Tryz.prog 24 #[.agg #[.string op, .int .i64 k, .int .i64 i, .string vs, .string s, u], .int .i64 z, .int .i64 lv] w (FewO w d)
/-- What holds where the loop begins anew. -/
def FewR (w : World) (ti t : Ex) (u : Value) (n d : Nat) (lf i : Value) (W : World) : Prop :=
  ∃ (k : Nat) (lv : Int) (v : Value) (ps : List (Ex × Value)), lf = .int .i64 lv ∧ i = .int .i64 k ∧ k ≤ n ∧ k ≤ 3 ∧ 0 ≤ lv ∧ lv ≤ 80 ∧ (d = 0 → k = 0) ∧ (∀ p ∈ ps, okT p.1) ∧ Fst w ti t u v W ∧ Kids W (w.heap.size + 1 + 1 + 1) (d - 1) v k ps
theorem Kids.at0 {W : World} {B d : Nat} {v : Value} {ps : List (Ex × Value)} (h : Kids W B d v 0 ps) {t : Ex} (hs : t.s.size ≤ 100000) : Tr W (fun b => B ≤ b) 0 (.mk t.op t.x t.s (ps.map (·.1))) v := by
  have hl := h.none_
  have : ps = [] := List.length_eq_zero_iff.1 hl
  subst this
  refine ⟨hs, rfl, ?_⟩
  rcases h.1.2 with ⟨rfl, _⟩ | ⟨g, cap, cur, rfl, _⟩
  · exact ⟨none, 0, rfl⟩
  · exact ⟨_, _, rfl⟩
theorem Kids.all {W : World} {B d : Nat} {v : Value} {k : Nat} {ps : List (Ex × Value)} (h : Kids W B (d - 1) v k ps) (hk : k ≤ 3) (h0 : d = 0 → k = 0) {t : Ex} (hs : t.s.size ≤ 100000) : Tr W (fun b => B ≤ b) d (.mk t.op t.x t.s (ps.map (·.1))) v := by
  cases d with
  | zero =>
    have := h0 rfl
    subst this
    exact h.at0 hs
  | succ d => exact h.tree (by omega) hs

set_option maxRecDepth 100000 in
set_option maxHeartbeats 4000000 in
theorem few_step (d : Nat) (hd : d ≤ 14) (ih : ∀ d', d = d' + 1 → FewC d') : FewC d := by
  intro w z lv op k i vs s u hz hi64 hl1 hl80 hop hvs hs hu
  obtain ⟨A, n, cap, rfl, hn⟩ := hu.form
  have HU := Lib.hid hu
  have IH := Lib.hid ih
  obtain ⟨ti, HTI⟩ : ∃ ti : Ex, Hid (ti = .mk op ⟨k, i, vs⟩ s []) := ⟨_, Lib.hid rfl⟩
  have hz0 : 0 ≤ z := by omega
  have hz14 : z ≤ 14 := by omega
  have HZ := Lib.hid hz
  have hsz := Lib.hid (And.intro hvs hs)
  clear hu ih hz hvs hs
  unfold maxLen at hop hn
  obtain ⟨i0, hi, hi0, hi1, hi2⟩ := info_parts infoExpr
  go_enter Tryz.func24, Tryz.ntmps24
  go_upto_if 22 with (fail)
  refine wp_gen (fun W => ∃ t : Ex, Fst w ti t (.slice A n cap) (.slice none 0 0) W ∧ t.op = op ∧ t.s.size ≤ maxLen ∧ t.x.s.size ≤ maxLen ∧ In64 t.x.i) ⟨.mk op ⟨k, i, vs⟩ s [], (by rw [HTI.out]; exact Fst.start w (.mk op ⟨k, i, vs⟩ s []) (.slice A n cap)), rfl, hsz.out.2, hsz.out.1, hi64⟩ fun w1 h1 => ?_
  obtain ⟨t, hF, hto, hts, htv⟩ := h1
  have H1 := Lib.hid hF
  have HS := Lib.hid (And.intro hts htv)
  have HTO := Lib.hid hto
  clear hF hts htv hto
  have o0 := Lib.cell_of_heap H1.out.out 0
  have o1 := Lib.cell_of_heap H1.out.out 1
  have o2 := Lib.cell_of_heap H1.out.out 2
  have o3 := Lib.cell_of_heap H1.out.out 3
  have o4 := Lib.cell_of_heap H1.out.out 4
  have o5 := Lib.cell_of_heap H1.out.out 5
  have of := Lib.frozen_of_heap H1.out.out
  simp only [List.getElem?_toArray, List.getElem?_cons_zero, List.getElem?_cons_succ] at o0 o1 o2 o3 o4 o5
  rw [HTO.out] at o0
  have hzb := H1.out.lt
  go_cut [] (fun wr => ∃ t : Ex, Fst w ti t (.slice A n cap) (.slice none 0 0) wr ∧ t.s.size ≤ maxLen ∧ t.x.s.size ≤ maxLen ∧ In64 t.x.i)
  case first =>
    go_wp2_with (fail)
    all_goals
      go_meet
      first
        | exact ⟨.mk (op.extract 0 8) t.x t.s t.l, H1.out.set 0 _ rfl, HS.out.1, HS.out.2⟩
        | exact ⟨t, H1.out, HS.out.1, HS.out.2⟩
  case rest =>
  clear H1 HS HTO o0 o1 o2 o3 o4 o5 of hzb
  obtain ⟨t, hF, hts, htv⟩ := hcut
  have H1 := Lib.hid hF
  have HS := Lib.hid (And.intro hts htv)
  clear hF hts htv
  have o0 := Lib.cell_of_heap H1.out.out 0
  have o1 := Lib.cell_of_heap H1.out.out 1
  have o2 := Lib.cell_of_heap H1.out.out 2
  have o3 := Lib.cell_of_heap H1.out.out 3
  have o4 := Lib.cell_of_heap H1.out.out 4
  have o5 := Lib.cell_of_heap H1.out.out 5
  have of := Lib.frozen_of_heap H1.out.out
  simp only [List.getElem?_toArray, List.getElem?_cons_zero, List.getElem?_cons_succ] at o0 o1 o2 o3 o4 o5
  have hzb := H1.out.lt
  have hts := HS.out.1
  have htv := HS.out.2.1
  unfold maxLen at hts htv
  go_upto_if 30 with (fail)
  go_cut [] (fun wr => ∃ t : Ex, Fst w ti t (.slice A n cap) (.slice none 0 0) wr ∧ t.s.size ≤ 100000 ∧ t.x.s.size ≤ maxLen ∧ In64 t.x.i)
  case first =>
    go_wp2_with (fail)
    all_goals
      go_meet
      first
        | exact ⟨.mk t.op t.x (t.s.extract 0 20) t.l, H1.out.set 4 _ rfl, (show (t.s.extract 0 20).size ≤ 100000 by rw [ByteArray.size_extract]; omega), HS.out.2⟩
        | exact ⟨t, H1.out, (by omega), HS.out.2⟩
  case rest =>
  clear H1 HS hts htv o0 o1 o2 o3 o4 o5 of hzb
  obtain ⟨t, hF, hts, htv⟩ := hcut
  have H1 := Lib.hid hF
  have HS := Lib.hid (And.intro hts htv)
  clear hF hts htv
  have o0 := Lib.cell_of_heap H1.out.out 0
  have o1 := Lib.cell_of_heap H1.out.out 1
  have o2 := Lib.cell_of_heap H1.out.out 2
  have o3 := Lib.cell_of_heap H1.out.out 3
  have o4 := Lib.cell_of_heap H1.out.out 4
  have o5 := Lib.cell_of_heap H1.out.out 5
  have of := Lib.frozen_of_heap H1.out.out
  simp only [List.getElem?_toArray, List.getElem?_cons_zero, List.getElem?_cons_succ] at o0 o1 o2 o3 o4 o5
  have hzb := H1.out.lt
  have hts := HS.out.1
  have htv := HS.out.2.1
  unfold maxLen at htv
  go_upto_if 39 with (fail)
  go_cut [] (fun wr => ∃ t : Ex, Fst w ti t (.slice A n cap) (.slice none 0 0) wr ∧ t.s.size ≤ 100000 ∧ t.x.s.size ≤ 100000 ∧ In64 t.x.i)
  case first =>
    go_wp2_with (fail)
    all_goals
      go_meet
      first
        | exact ⟨.mk t.op ⟨t.x.k, t.x.i, t.x.s.extract 0 45⟩ t.s t.l, H1.out.set 3 _ rfl, HS.out.1, (show (t.x.s.extract 0 45).size ≤ 100000 by rw [ByteArray.size_extract]; omega), HS.out.2.2⟩
        | exact ⟨t, H1.out, HS.out.1, (by omega), HS.out.2.2⟩
  case rest =>
  clear H1 HS o0 o1 o2 o3 o4 o5 of hzb hts htv
  obtain ⟨t, hF, hts⟩ := hcut
  have H1 := Lib.hid hF
  have HS := Lib.hid hts
  clear hF hts
  go_wp2_with (fail)
  go_loopw [2, 9] (fun lf i wr => FewR w ti t (.slice A n cap) n d lf i wr) (fun _ i _ => n - (intOf i).toNat)
  case atStart => exact ⟨0, lv - 1, .slice none 0 0, [], rfl, rfl, by omega, by omega, by omega, by omega, fun _ => rfl, (fun _ h => by cases h), H1.out, Kids.start _ _ _⟩
  case round =>
    obtain ⟨k, lq, v, ps, rfl, rfl, hk, hk3, hq0, hq80, hd0, hok, hF, hK⟩ := hrel
    obtain ⟨Av, cv, rfl⟩ := hK.form
    have HF := Lib.hid hF
    have HK := Lib.hid hK
    have HD0 := Lib.hid hd0
    have HOK := Lib.hid hok
    clear hF hK hd0 hok H1
    have hzb := HF.out.lt
    have b5 := Lib.cell_of_heap HF.out.inn 5
    have o0 := Lib.cell_of_heap HF.out.out 0
    have o1 := Lib.cell_of_heap HF.out.out 1
    have o2 := Lib.cell_of_heap HF.out.out 2
    have o3 := Lib.cell_of_heap HF.out.out 3
    have o4 := Lib.cell_of_heap HF.out.out 4
    have o5 := Lib.cell_of_heap HF.out.out 5
    have EZ := box_cells (t := zT) HF.out.res
    have y0 := EZ.c0
    have y1 := EZ.c1
    have y2 := EZ.c2
    have y3 := EZ.c3
    have y4 := EZ.c4
    have y5 := EZ.c5
    have yf := Lib.frozen_of_heap HF.out.res
    clear EZ
    simp only [List.getElem?_toArray, List.getElem?_cons_zero, List.getElem?_cons_succ] at b5 o0 o1 o2 o3 o4 o5
    simp only [Nat.zero_add] at y0 y1 y2 y3 y4 y5
    by_cases hlt : k < n
    · by_cases h3 : k < 3
      · have e3 : decide ((k : Int) < 3) = true := decide_eq_true (by omega)
        by_cases hdz : 0 < z
        · have ez : decide (0 < z) = true := decide_eq_true hdz
          by_cases hlq : 0 < lq
          · have eq : decide (0 < lq) = true := decide_eq_true hlq
            obtain ⟨d', rfl⟩ : ∃ d', d = d' + 1 := ⟨d - 1, by have := HZ.out; omega⟩
            obtain ⟨A1, n1, c1, e1, _, hat⟩ := HU.out
            injection e1 with e1 e2 e3'
            subst e1 e2 e3'
            obtain ⟨a, tj, uj, rfl, hab, hC, hs1, hs2, hs3, hs4, hin⟩ := hat k hlt
            obtain ⟨Aj, nj, cj, rfl, _⟩ := hin.form
            have hC' := hC.keep (W' := wr) (by rw [add_block]; exact HF.out.pl.block _ hab)
            have j0 := hC'.c0
            have j1 := hC'.c1
            have j2 := hC'.c2
            have j3 := hC'.c3
            have j4 := hC'.c4
            have j5 := hC'.c5
            have IHJ := Lib.hid (IH.out d' rfl wr (z - 1) lq tj.op tj.x.k tj.x.i tj.x.s tj.s (.slice Aj nj cj) (by have := HZ.out; omega) hs4 (by omega) hq80 hs1 hs2 hs3 (InL.more (Nat.le_of_lt (Nat.lt_of_le_of_lt (by omega) hzb)) (InL.keep HF.out.pl hin)))
            clear hC hC' hat hin hs1 hs2 hs3 hs4 hlq hdz
            go_wp2_with (first
              | (go_at_call 24; refine IHJ.out.mono ?_; rintro e w1 ⟨⟨t1, u1, m1, rfl, hm0, hm80, hk1, ht1⟩, hb1⟩; obtain ⟨B1, q1, rfl, _⟩ := ht1.form; unfold EVt; obtain ⟨p1, HN⟩ : ∃ p1, Hid (t1.l.length = p1) := ⟨_, Lib.hid rfl⟩; rw [HN.out] at ht1 ⊢; have HF1 := Lib.hid (HF.out.later hb1); have HB1 := Lib.hid hb1; have HT1 := Lib.hid ht1; have HK1 := Lib.hid hk1; have HO1 := Lib.hid (HK.out.1.kept (row := none) (grow_below hb1 none) (by cases h : (Value.slice Av k cv).ownBlock with | none => exact .inl rfl | some _ => exact .inr (by simp))); have p5 := Lib.cell_of_heap HF1.out.out 5; simp only [List.getElem?_toArray, List.getElem?_cons_zero, List.getElem?_cons_succ] at p5; have hz1 := HF1.out.lt; have hz2 : w.heap.size < w1.heap.size := (by omega); clear ht1 hb1 hk1 o0 o1 o2 o3 o4 o5 y0 y1 y2 y3 y4 y5 yf j0 j1 j2 j3 j4 j5 b5)
              | (at_builtin; refine wpList_append_kept rfl _ _ 27 rfl (w.heap.size + 1 + 1 + 1) 29 i0 _ 6 88 Tryz.underlying27 hi hi0 hi1 hi2 rfl (by decide) (.slice Av k cv) k (eCells ps) rfl ((HO1.out.alloc _).alloc _) ⟨w1.heap.size + 1, 0, none⟩ 1 1 (ecell (t1, .slice B1 p1 q1)) rfl rfl ?c1 ?c2 (by omega) ?c3 ?c4 ?c5 ?_))
            case c1 => exact new_ecells (p := (t1, .slice B1 p1 q1)) (by simp)
            case c2 => exact ecell_one (t1, .slice B1 p1 q1) rfl
            case c3 => unfold maxLen; omega
            case c4 => omega
            case c5 => simp; omega
            intro v' w2 hown' hgrow hw
            have AB : ∀ (W : World) (o : Obj), Below W.heap.size W (W.alloc o) := fun W o => (Below.refl _ _).alloc (Nat.le_refl _) _
            have HF2 := Lib.hid (((HF1.out.later (AB _ _)).later (AB _ _)).grown hgrow (fun g e => by have := (HK.out.1.lt g e).1; omega))
            have HK2 := Lib.hid (HK.out.snoc (by omega) HB1.out HT1.out (by simp; omega) (fun b hb => by rw [Below.heap_alloc _ _ _ (by simp; omega), Below.heap_alloc _ _ _ hb]) hown' hgrow (by simpa using hw))
            have hgz := hgrow.size
            obtain ⟨A2, c2, rfl⟩ := HK2.out.form
            have r5 := Lib.cell_of_heap HF2.out.out 5
            simp only [List.getElem?_toArray, List.getElem?_cons_zero, List.getElem?_cons_succ] at r5
            have rf := Lib.frozen_of_heap HF2.out.out
            clear hown' hgrow hw AB HO1 p5
            go_wp2_with (fail)
            go_roundw
            case rel => exact ⟨k + 1, m1, _, ps ++ [(t1, .slice B1 p1 q1)], rfl, by go_num, by omega, by omega, hm0, hm80, (fun h => absurd h (by omega)), okT_snoc HOK.out HK1.out, HF2.out.set 5 _ rfl, HK2.out.set (by omega) 5 _⟩
            case measure => simp [intOf]; omega
          · have eq : decide (0 < lq) = false := decide_eq_false hlq
            have HT : Hid (Tr wr (fun b => w.heap.size + 1 + 1 + 1 ≤ b) d (.mk t.op t.x t.s (ps.map (·.1))) (.slice Av k cv)) := HK.out.all hk3 HD0.out HS.out.1
            go_wp2_with (fail)
            refine bodyPost_ret (v := .tuple #[.agg #[.string t.op, .int .i64 t.x.k, .int .i64 t.x.i, .string t.x.s, .string t.s, .slice Av k cv], .int .i64 lq]) (by simp [results, Tryz.results24, go_sem, *]) rfl ⟨⟨.mk t.op t.x t.s (ps.map (·.1)), .slice Av k cv, lq, rfl, hq0, hq80, okT.mk HS.out.2.2 HS.out.2.1 (fun y hy => by obtain ⟨p, hp, rfl⟩ := List.mem_map.1 hy; exact HOK.out p hp), ?_⟩, ?_⟩
            · exact HT.out.set6 (b := w.heap.size + 1) (by omega) (fun b h _ => by omega) _ _ _ _ _ _
            · exact cSet6 (by omega) HF.out.pl _ _ _ _ _ _
        · have ez : decide (0 < z) = false := decide_eq_false hdz
          have HT : Hid (Tr wr (fun b => w.heap.size + 1 + 1 + 1 ≤ b) d (.mk t.op t.x t.s (ps.map (·.1))) (.slice Av k cv)) := HK.out.all hk3 HD0.out HS.out.1
          go_wp2_with (fail)
          refine bodyPost_ret (v := .tuple #[.agg #[.string t.op, .int .i64 t.x.k, .int .i64 t.x.i, .string t.x.s, .string t.s, .slice Av k cv], .int .i64 lq]) (by simp [results, Tryz.results24, go_sem, *]) rfl ⟨⟨.mk t.op t.x t.s (ps.map (·.1)), .slice Av k cv, lq, rfl, hq0, hq80, okT.mk HS.out.2.2 HS.out.2.1 (fun y hy => by obtain ⟨p, hp, rfl⟩ := List.mem_map.1 hy; exact HOK.out p hp), ?_⟩, ?_⟩
          · exact HT.out.set6 (b := w.heap.size + 1) (by omega) (fun b h _ => by omega) _ _ _ _ _ _
          · exact cSet6 (by omega) HF.out.pl _ _ _ _ _ _
      · have e3 : decide ((k : Int) < 3) = false := decide_eq_false (by omega)
        have HT : Hid (Tr wr (fun b => w.heap.size + 1 + 1 + 1 ≤ b) d (.mk t.op t.x t.s (ps.map (·.1))) (.slice Av k cv)) := HK.out.all hk3 HD0.out HS.out.1
        go_wp2_with (fail)
        refine bodyPost_ret (v := .tuple #[.agg #[.string t.op, .int .i64 t.x.k, .int .i64 t.x.i, .string t.x.s, .string t.s, .slice Av k cv], .int .i64 lq]) (by simp [results, Tryz.results24, go_sem, *]) rfl ⟨⟨.mk t.op t.x t.s (ps.map (·.1)), .slice Av k cv, lq, rfl, hq0, hq80, okT.mk HS.out.2.2 HS.out.2.1 (fun y hy => by obtain ⟨p, hp, rfl⟩ := List.mem_map.1 hy; exact HOK.out p hp), ?_⟩, ?_⟩
        · exact HT.out.set6 (b := w.heap.size + 1) (by omega) (fun b h _ => by omega) _ _ _ _ _ _
        · exact cSet6 (by omega) HF.out.pl _ _ _ _ _ _
    · have HT : Hid (Tr wr (fun b => w.heap.size + 1 + 1 + 1 ≤ b) d (.mk t.op t.x t.s (ps.map (·.1))) (.slice Av k cv)) := HK.out.all hk3 HD0.out HS.out.1
      go_wp2_with (fail)
      refine bodyPost_ret (v := .tuple #[.agg #[.string t.op, .int .i64 t.x.k, .int .i64 t.x.i, .string t.x.s, .string t.s, .slice Av k cv], .int .i64 lq]) (by simp [results, Tryz.results24, go_sem, *]) rfl ⟨⟨.mk t.op t.x t.s (ps.map (·.1)), .slice Av k cv, lq, rfl, hq0, hq80, okT.mk HS.out.2.2 HS.out.2.1 (fun y hy => by obtain ⟨p, hp, rfl⟩ := List.mem_map.1 hy; exact HOK.out p hp), ?_⟩, ?_⟩
      · exact HT.out.set6 (b := w.heap.size + 1) (by omega) (fun b h _ => by omega) _ _ _ _ _ _
      · exact cSet6 (by omega) HF.out.pl _ _ _ _ _ _
end Go.Proofs.YtmhkmliebhbkdaaGreat

/- The law's Few. -/
namespace Go.Proofs.YtmhkmliebhbkdaaGreat
open Go.RowKit Go.Lib

theorem few_all : ∀ d, d ≤ 14 → FewC d
  | 0, h => few_step 0 h (fun _ e => by omega)
  | d + 1, h => few_step (d + 1) h (fun d' e => by
    have : d' = d := by omega
    subst this
    exact few_all d' (by omega))

set_option maxRecDepth 100000 in
set_option maxHeartbeats 4000000 in
theorem few4_any (op : ByteArray) (k i : Int) (vs s : ByteArray) (u : Value) (w : World) (hop : op.size ≤ maxLen) (hvs : vs.size ≤ maxLen) (hs : s.size ≤ maxLen) (hi : In64 i) (hu : InL w w.heap.size 14 u) :
    Calls Tryz.prog 10 #[.agg #[.string op, .int .i64 k, .int .i64 i, .string vs, .string s, u]] w fun e w' => (∃ t u, e = .returned (EVt t u) ∧ okT t ∧ Tr w' (fun b => w.heap.size ≤ b) 14 t u) ∧ Below w.heap.size w w' := by
  have HC : Hid (∀ W, Below w.heap.size w W → Calls Tryz.prog 24 #[.agg #[.string op, .int .i64 k, .int .i64 i, .string vs, .string s, u], .int .i64 14, .int .i64 80] W (FewO W 14)) := fun W hb =>
    few_all 14 (by omega) W 14 80 op k i vs s u rfl hi (by omega) (by omega) hop hvs hs (InL.more hb.size (InL.keep hb hu))
  clear hop hvs hs hi hu
  go_enter Tryz.func10, Tryz.ntmps10
  go_wp2_with (go_at_call 24; refine (HC.out _ (((Below.refl _ _).alloc (Nat.le_refl _) _).alloc (by simp) _)).mono ?_; rintro e w1 ⟨⟨t1, u1, m1, rfl, _, _, hk1, ht1⟩, hb1⟩; obtain ⟨B1, q1, rfl, _⟩ := ht1.form; unfold EVt; obtain ⟨p1, HN⟩ : ∃ p1, Hid (t1.l.length = p1) := ⟨_, Lib.hid rfl⟩; rw [HN.out] at ht1 ⊢; have HB1 : Hid (Below w.heap.size w w1) := (((Below.refl _ _).alloc (Nat.le_refl _) _).alloc (by simp) _).trans (hb1.mono (by simp; omega)); have HT1 : Hid (Tr w1 (fun b => w.heap.size + 1 < b) 14 t1 (.slice B1 p1 q1)) := ht1.keep (fun _ _ _ => rfl) (fun b h _ => by simp at h; omega); have hy1 := hb1.size; (try simp at hy1); have hz1 : w.heap.size + 1 < w1.heap.size := (by omega); have hz0 : w.heap.size < w1.heap.size := (by omega); have hbx : w1.heap[w.heap.size + 1]? = some (.cells #[.string ⟨#[]⟩, .int .i64 0, .int .i64 0, .string ⟨#[]⟩, .string ⟨#[]⟩, .slice none 0 0] 29 (0, 0)) := (hb1.block _ (by simp)).trans (alloc_at (by simp) _); have EZ := box_cells (t := zT) hbx; have y0 := EZ.c0; have y1 := EZ.c1; have y2 := EZ.c2; have y3 := EZ.c3; have y4 := EZ.c4; have y5 := EZ.c5; have yf := Lib.frozen_of_heap hbx; simp only [Nat.zero_add] at y0 y1 y2 y3 y4 y5; clear EZ; clear ht1 hb1)
  refine bodyPost_ret (v := .agg #[.string t1.op, .int .i64 t1.x.k, .int .i64 t1.x.i, .string t1.x.s, .string t1.s, .slice B1 p1 q1]) (by simp [results, Tryz.results10, go_sem, *]) rfl ⟨⟨t1, .slice B1 p1 q1, rfl, hk1, ?_⟩, ?_⟩
  · show Tr ((set6 w1 (w.heap.size + 1) _ _ _ _ _ _).alloc _) _ _ _ _
    exact (HT1.out.set6 (b := w.heap.size + 1) (by omega) (fun b h _ => by omega) _ _ _ _ _ _).below ((Below.refl _ _).alloc (Nat.le_refl _) _)
  · show Below _ _ ((set6 w1 (w.heap.size + 1) _ _ _ _ _ _).alloc _)
    exact (cSet6 (by omega) HB1.out _ _ _ _ _ _).alloc (by simp [World.setCell]; omega) _
end Go.Proofs.YtmhkmliebhbkdaaGreat

/- What the document's six do with two values: as the program's; what an expression comes to is a value of 64 bits. -/
namespace Go.Proofs.YtmhkmliebhbkdaaGreat
open Go.RowKit Go.Lib

/-- A value of 64 bits, whose text is no longer than may be. -/
def okV (x : Vl) : Prop := In64 x.i ∧ x.s.size ≤ 100000
theorem ok_nul : okV nulV := ⟨⟨by decide, by decide⟩, by decide⟩
theorem ok_small {k i : Int} (h0 : 0 ≤ i) (h1 : i ≤ 1) : okV ⟨k, i, ⟨#[]⟩⟩ := ⟨⟨by show -9223372036854775808 ≤ i; omega, by show i ≤ 9223372036854775807; omega⟩, (by decide : (⟨#[]⟩ : ByteArray).size ≤ 100000)⟩
theorem ok_tri (m : Int) : okV (triV m) := by
  unfold triV triI
  split
  · exact ok_small (by omega) (by omega)
  · exact ok_small (by omega) (by omega)
theorem ok_b2i {k : Int} (b : Bool) : okV ⟨k, b2i b, ⟨#[]⟩⟩ := by cases b <;> exact ok_small (by decide) (by decide)
theorem ok_wrap {k : Int} (n : Int) : okV ⟨k, wrap64 n, ⟨#[]⟩⟩ := ⟨⟨by show -9223372036854775808 ≤ wrap64 n; unfold wrap64; omega, by show wrap64 n ≤ 9223372036854775807; unfold wrap64; omega⟩, (by decide : (⟨#[]⟩ : ByteArray).size ≤ 100000)⟩
theorem ok_eq (x y : Vl) : okV (eqV x y) := by unfold eqV; split; exact ok_b2i _; exact ok_nul
theorem ok_less (x y : Vl) : okV (lessV x y) := by unfold lessV; split; exact ok_b2i _; exact ok_nul
theorem ok_plus (x y : Vl) : okV (plusV x y) := by
  unfold plusV
  split
  · split
    · exact ok_nul
    · exact ok_wrap _
  · exact ok_nul
theorem ok_minus (x y : Vl) : okV (minusV x y) := by
  unfold minusV
  split
  · split
    · exact ok_nul
    · exact ok_wrap _
  · exact ok_nul
theorem ok_op (op : List UInt8) (l : List Vl) : okV (opF op l) := by
  unfold opF
  split
  · split
    · exact ok_tri _
    · exact ok_b2i _
  · repeat (split; first | exact ok_tri _ | exact ok_eq _ _ | exact ok_less _ _ | exact ok_plus _ _)
    exact ok_minus _ _
  · exact ok_nul
theorem ok_few {row : List Vl} (h : ∀ x ∈ row, In64 x.i) : ∀ x ∈ fewL row, okV x := by
  intro x hx
  unfold fewL at hx
  obtain ⟨y, hy, rfl⟩ := List.mem_map.1 hx
  refine ⟨h y (List.mem_of_mem_take hy), ?_⟩
  show (fewS y.s).size ≤ 100000
  unfold fewS
  split
  · rw [ByteArray.size_extract]; omega
  · omega

theorem rvnot (x : Vl) (w : World) :
    Calls Tryz.prog 72 #[.agg #[.int .i64 x.k, .int .i64 x.i, .string x.s]] w fun e w' => e = .returned (.agg #[.int .i64 (notV x).k, .int .i64 (notV x).i, .string (notV x).s]) ∧ Below w.heap.size w w' := by
  exact rnot_any _ _ _ _
theorem rvand (x y : Vl) (w : World) :
    Calls Tryz.prog 74 #[.agg #[.int .i64 x.k, .int .i64 x.i, .string x.s], .agg #[.int .i64 y.k, .int .i64 y.i, .string y.s]] w fun e w' => e = .returned (.agg #[.int .i64 (andV x y).k, .int .i64 (andV x y).i, .string (andV x y).s]) ∧ Below w.heap.size w w' := by
  exact rand_any _ _ _ _ _ _ _
theorem rvor (x y : Vl) (w : World) :
    Calls Tryz.prog 75 #[.agg #[.int .i64 x.k, .int .i64 x.i, .string x.s], .agg #[.int .i64 y.k, .int .i64 y.i, .string y.s]] w fun e w' => e = .returned (.agg #[.int .i64 (orV x y).k, .int .i64 (orV x y).i, .string (orV x y).s]) ∧ Below w.heap.size w w' := by
  exact ror_any _ _ _ _ _ _ _
theorem rveq (x y : Vl) (w : World) (hx : okV x) (hy : okV y) :
    Calls Tryz.prog 76 #[.agg #[.int .i64 x.k, .int .i64 x.i, .string x.s], .agg #[.int .i64 y.k, .int .i64 y.i, .string y.s]] w fun e w' => e = .returned (.agg #[.int .i64 (eqV x y).k, .int .i64 (eqV x y).i, .string (eqV x y).s]) ∧ Below w.heap.size w w' := by
  have hsx : x.s.size ≤ maxLen := Nat.le_trans hx.2 (by decide)
  have hsy : y.s.size ≤ maxLen := Nat.le_trans hy.2 (by decide)
  unfold eqV
  cases h : alikeB x.k x.i x.s y.k y.i y.s with
  | true => rw [if_pos rfl]; exact requal_yes _ _ _ _ _ _ _ hsx hsy h
  | false => rw [if_neg (by decide)]; exact requal_no _ _ _ _ _ _ _ hsx hsy h
theorem rvless (x y : Vl) (w : World) (hx : okV x) (hy : okV y) :
    Calls Tryz.prog 77 #[.agg #[.int .i64 x.k, .int .i64 x.i, .string x.s], .agg #[.int .i64 y.k, .int .i64 y.i, .string y.s]] w fun e w' => e = .returned (.agg #[.int .i64 (lessV x y).k, .int .i64 (lessV x y).i, .string (lessV x y).s]) ∧ Below w.heap.size w w' := by
  have hsx : x.s.size ≤ maxLen := Nat.le_trans hx.2 (by decide)
  have hsy : y.s.size ≤ maxLen := Nat.le_trans hy.2 (by decide)
  unfold lessV
  cases h : alikeB x.k x.i x.s y.k y.i y.s with
  | true => rw [if_pos rfl]; exact rless_yes _ _ _ _ _ _ _ hsx hsy h
  | false => rw [if_neg (by decide)]; exact rless_no _ _ _ _ _ _ _ hsx hsy h
theorem rvplus (x y : Vl) (w : World) (hx : okV x) (hy : okV y) :
    Calls Tryz.prog 78 #[.agg #[.int .i64 x.k, .int .i64 x.i, .string x.s], .agg #[.int .i64 y.k, .int .i64 y.i, .string y.s]] w fun e w' => e = .returned (.agg #[.int .i64 (plusV x y).k, .int .i64 (plusV x y).i, .string (plusV x y).s]) ∧ Below w.heap.size w w' := by
  have hsx : x.s.size ≤ maxLen := Nat.le_trans hx.2 (by decide)
  have hsy : y.s.size ≤ maxLen := Nat.le_trans hy.2 (by decide)
  obtain ⟨⟨a1, a2⟩, _⟩ := hx
  obtain ⟨⟨b1, b2⟩, _⟩ := hy
  unfold plusV
  cases ha : alikeB x.k x.i x.s y.k y.i y.s with
  | false =>
    have hn : numsB x.k x.i x.s y.k y.i y.s = false := by
      cases h : numsB x.k x.i x.s y.k y.i y.s with
      | false => rfl
      | true => rw [nums_alike h] at ha; cases ha
    rw [if_neg (by rw [hn]; decide)]
    exact rplus_apart _ _ _ _ _ _ _ hsx hsy ha
  | true =>
    have hn := alike_nums ha
    by_cases hk : x.k = 1
    · rw [decide_eq_true hk] at hn
      rw [if_pos hn, hk]
      have ha' := ha
      rw [hk] at ha'
      rcases Int.lt_trichotomy 0 y.i with h | h | h
      · by_cases hb : 9223372036854775807 - y.i < x.i
        · rw [if_pos (by unfold badPlus wrap64; simp only [Bool.not_eq_true', beq_eq_false_iff_ne, ne_eq, decide_eq_decide]; omega)]
          exact rplus_a _ _ _ _ _ _ hsx hsy ha' a1 a2 b1 b2 h hb
        · rw [if_neg (by rw [show badPlus x.i y.i = false by (unfold badPlus wrap64; rw [Bool.not_eq_false', beq_iff_eq, decide_eq_decide]; omega)]; decide), wrap_in (show In64 (x.i + y.i) from ⟨by omega, by omega⟩)]
          exact rplus_b _ _ _ _ _ _ hsx hsy ha' a1 a2 b1 b2 h hb
      · rw [if_neg (by rw [show badPlus x.i y.i = false by (unfold badPlus wrap64; rw [Bool.not_eq_false', beq_iff_eq, decide_eq_decide]; omega)]; decide), wrap_in (show In64 (x.i + y.i) from ⟨by omega, by omega⟩)]
        have := rplus_e x.i x.s y.k y.i y.s w hsx hsy ha' a1 a2 b1 b2 h.symm
        rw [show x.i + y.i = x.i by omega]
        exact this
      · by_cases hb : x.i < -9223372036854775808 - y.i
        · rw [if_pos (by unfold badPlus wrap64; simp only [Bool.not_eq_true', beq_eq_false_iff_ne, ne_eq, decide_eq_decide]; omega)]
          exact rplus_c _ _ _ _ _ _ hsx hsy ha' a1 a2 b1 b2 h hb
        · rw [if_neg (by rw [show badPlus x.i y.i = false by (unfold badPlus wrap64; rw [Bool.not_eq_false', beq_iff_eq, decide_eq_decide]; omega)]; decide), wrap_in (show In64 (x.i + y.i) from ⟨by omega, by omega⟩)]
          exact rplus_d _ _ _ _ _ _ hsx hsy ha' a1 a2 b1 b2 h hb
    · rw [decide_eq_false hk] at hn
      rw [if_neg (by rw [hn]; decide)]
      exact rplus_other _ _ _ _ _ _ _ hsx hsy ha hk
theorem rvminus (x y : Vl) (w : World) (hx : okV x) (hy : okV y) :
    Calls Tryz.prog 79 #[.agg #[.int .i64 x.k, .int .i64 x.i, .string x.s], .agg #[.int .i64 y.k, .int .i64 y.i, .string y.s]] w fun e w' => e = .returned (.agg #[.int .i64 (minusV x y).k, .int .i64 (minusV x y).i, .string (minusV x y).s]) ∧ Below w.heap.size w w' := by
  have hsx : x.s.size ≤ maxLen := Nat.le_trans hx.2 (by decide)
  have hsy : y.s.size ≤ maxLen := Nat.le_trans hy.2 (by decide)
  obtain ⟨⟨a1, a2⟩, _⟩ := hx
  obtain ⟨⟨b1, b2⟩, _⟩ := hy
  unfold minusV
  cases ha : alikeB x.k x.i x.s y.k y.i y.s with
  | false =>
    have hn : numsB x.k x.i x.s y.k y.i y.s = false := by
      cases h : numsB x.k x.i x.s y.k y.i y.s with
      | false => rfl
      | true => rw [nums_alike h] at ha; cases ha
    rw [if_neg (by rw [hn]; decide)]
    exact rminus_apart _ _ _ _ _ _ _ hsx hsy ha
  | true =>
    have hn := alike_nums ha
    by_cases hk : x.k = 1
    · rw [decide_eq_true hk] at hn
      rw [if_pos hn, hk]
      have ha' := ha
      rw [hk] at ha'
      rcases Int.lt_trichotomy 0 y.i with h | h | h
      · by_cases hb : x.i < -9223372036854775808 + y.i
        · rw [if_pos (by unfold badMinus wrap64; simp only [Bool.not_eq_true', beq_eq_false_iff_ne, ne_eq, decide_eq_decide]; omega)]
          exact rminus_a _ _ _ _ _ _ hsx hsy ha' a1 a2 b1 b2 h hb
        · rw [if_neg (by rw [show badMinus x.i y.i = false by (unfold badMinus wrap64; rw [Bool.not_eq_false', beq_iff_eq, decide_eq_decide]; omega)]; decide), wrap_in (show In64 (x.i - y.i) from ⟨by omega, by omega⟩)]
          exact rminus_b _ _ _ _ _ _ hsx hsy ha' a1 a2 b1 b2 h hb
      · rw [if_neg (by rw [show badMinus x.i y.i = false by (unfold badMinus wrap64; rw [Bool.not_eq_false', beq_iff_eq, decide_eq_decide]; omega)]; decide), wrap_in (show In64 (x.i - y.i) from ⟨by omega, by omega⟩)]
        have := rminus_e x.i x.s y.k y.i y.s w hsx hsy ha' a1 a2 b1 b2 h.symm
        rw [show x.i - y.i = x.i by omega]
        exact this
      · by_cases hb : 9223372036854775807 + y.i < x.i
        · rw [if_pos (by unfold badMinus wrap64; simp only [Bool.not_eq_true', beq_eq_false_iff_ne, ne_eq, decide_eq_decide]; omega)]
          exact rminus_c _ _ _ _ _ _ hsx hsy ha' a1 a2 b1 b2 h hb
        · rw [if_neg (by rw [show badMinus x.i y.i = false by (unfold badMinus wrap64; rw [Bool.not_eq_false', beq_iff_eq, decide_eq_decide]; omega)]; decide), wrap_in (show In64 (x.i - y.i) from ⟨by omega, by omega⟩)]
          exact rminus_d _ _ _ _ _ _ hsx hsy ha' a1 a2 b1 b2 h hb
    · rw [decide_eq_false hk] at hn
      rw [if_neg (by rw [hn]; decide)]
      exact rminus_other _ _ _ _ _ _ _ hsx hsy ha hk

/-- What two of an expression's parts come to, by an Op. -/
theorem two_val (cols : List Cl) (row : List Vl) (o : ByteArray) (e g : Ex) (h : mayT (twoT o e g) = true) (h1 : o.toList ≠ [108, 105, 116]) (h2 : o.toList ≠ [99, 111, 108]) :
    evalF cols row 12 (twoT o e g) = opF o.toList [evalF cols row 12 e, evalF cols row 12 g] := by
  have hw := wf_may h
  have he : wfF 11 e := hw.2 _ (by simp [twoT, Ex.l])
  have hg : wfF 11 g := hw.2 _ (by simp [twoT, Ex.l])
  rw [evalF_op (show (twoT o e g).op.toList = o.toList from rfl) h1 h2]
  show opF o.toList [evalF cols row 11 e, evalF cols row 11 g] = _
  rw [← evalF_mono cols row 11 e he, ← evalF_mono cols row 11 g hg]
end Go.Proofs.YtmhkmliebhbkdaaGreat
