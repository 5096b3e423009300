import Derived.Test.YtmhkmliebhbkdaaGreatW10
import Derived.Test.YtmhkmliebhbkdaaGreatW01
import Derived.Test.YtmhkmliebhbkdaaGreatW05
import Derived.Maps.Range

/- What Few keeps while it goes through an expression: plain facts; where a row that has grown lies. -/
namespace Go.Proofs.YtmhkmliebhbkdaaGreat
open Go.RowKit Go.Lib

/-- Each number in a tree is one of 64 bits, each text of a value no longer than may be. -/
def okF : Nat → Ex → Prop
  | 0, _ => True
  | m + 1, t => In64 t.x.i ∧ t.x.s.size ≤ 100000 ∧ ∀ y ∈ t.l, okF m y
def okT (t : Ex) : Prop := ∀ m, okF m t
theorem okT.mk {t : Ex} (h1 : In64 t.x.i) (h2 : t.x.s.size ≤ 100000) {l : List Ex} (h : ∀ y ∈ l, okT y) : okT (.mk t.op t.x t.s l) := fun m => by
  cases m with
  | zero => trivial
  | succ m => exact ⟨h1, h2, fun y hy => h y hy m⟩

theorem okT_snoc {ps : List (Ex × Value)} {t : Ex} {u : Value} (h : ∀ p ∈ ps, okT p.1) (k : okT t) : ∀ p ∈ ps ++ [(t, u)], okT p.1 := fun p hp => by
  rcases List.mem_append.1 hp with hp | hp
  · exact h p hp
  · simp only [List.mem_singleton] at hp
    subst hp
    exact k

/-- Where a row that has grown lies: where it was, or in a block of its own. -/
theorem append_where {P : Program} (w : World) (base : Nat) (t ty e : TypeId) (i : TypeInfo) (z : Value) (size bytes : Nat) (ht : P.underlying t = some (.slice e)) (hi : P.info? e = some i) (hz : i.zero = some z)
    (hsize : i.size = size) (hby : i.bytes = bytes) (v : Value) (n : Nat) (xs : List Value) (hown : w.ownsRow base e size v n xs)
    (a : Addr) (m c : Nat) (news : List Value) (hl : news.length = m * size) (hnews : ∀ j u, news[j]? = some u → w.cell? (a.add j) = some u) (h1 : ∀ u ∈ news, u.oneCell' = true)
    (hm : 0 < m) (h63 : n + m ≤ maxLen) (hbytes : (n + m) * bytes ≤ 140737488355328) {v' : Value} {w' : World} (hr : (Builtin.append_ #[t, t] ty #[v, .slice (some a) m c]).run P w = .ok v' w') :
    v'.ownBlock = v.ownBlock ∨ v'.ownBlock = some w.heap.size := by
  subst hsize
  subst hby
  rcases hown.2 with ⟨rfl, rfl⟩ | ⟨g, cap, cur, rfl, _, hg, hnc, hcm, hcs, _⟩
  · have h := run_append_nil (P := P) w t ty e i z ht hi hz a m c news hl hnews hm (by simp only [maxLen] at h63; omega) (by simp only [Nat.zero_add] at hbytes; omega)
    rw [h] at hr
    injection hr with e1 _
    subst e1
    exact .inr rfl
  · by_cases hroom : n + m ≤ cap
    · have h := run_append_room (P := P) w t ty e i ht hi g n cap cur hg a m c news hl hnews h1 hroom (by rw [hl, hcs, ← Nat.add_mul]; exact Nat.mul_le_mul_right _ hroom)
      rw [h] at hr
      injection hr with e1 _
      subst e1
      exact .inl rfl
    · have h := run_append_grow (P := P) w t ty e i z ht hi hz ⟨g, 0, none⟩ n cap xs hown.1 (hown.cells (g := g) rfl) a m c news hl hnews (by omega) (by simp only [maxLen] at h63; omega) (growslice_fits (by omega) hbytes)
      rw [h] at hr
      injection hr with e1 _
      subst e1
      exact .inr rfl

/-- append to a row of the call's own, with word of where the row lies then. -/
theorem wpList_append_kept {P : Program} {w : World} {ops : Array Oper} {rest : List Oper} {o : Oper} {a : Act} {Q : Exit → Act → World → Prop} (hgd : o.guard = none) (s x : Operand) (t : TypeId)
    (ho : o.op = .call { callee := .builtin .append, args := #[s, x], argTypes := #[t, t] })
    (base : Nat) (e : TypeId) (i : TypeInfo) (z : Value) (size bytes : Nat) (ht : P.underlying t = some (.slice e)) (hi : P.info? e = some i) (hz : i.zero = some z)
    (hsize : i.size = size) (hby : i.bytes = bytes) (hzs : z.cells.size = size) (hsz : 0 < size)
    (v : Value) (n : Nat) (xs : List Value) (hs : a.eval s = v) (hown : w.ownsRow base e size v n xs)
    (ad : Addr) (m c : Nat) (news : List Value) (hx : a.eval x = .slice (some ad) m c) (hl : news.length = m * size) (hnews : ∀ j u, news[j]? = some u → w.cell? (ad.add j) = some u) (h1 : ∀ u ∈ news, u.oneCell' = true)
    (hm : 0 < m) (h63 : n + m ≤ maxLen) (hbytes : (n + m) * bytes ≤ 140737488355328) (hbase : base ≤ w.heap.size)
    (h : ∀ v' w', w'.ownsRow base e size v' (n + m) (xs ++ news) → w.grownBy w' v.ownBlock → (v'.ownBlock = v.ownBlock ∨ v'.ownBlock = some w.heap.size) → wpList P ops Q rest (a.put o.dst v') w') : wpList P ops Q (o :: rest) a w := by
  obtain ⟨v', w', hr, h2, h3, _⟩ := run_append_own (P := P) w base t o.type e i z size bytes ht hi hz hsize hby hzs hsz v n xs hown ad m c news hl hnews h1 h63 hbytes hbase
  have h5 := append_where (P := P) w base t o.type e i z size bytes ht hi hz hsize hby v n xs hown ad m c news hl hnews h1 hm h63 hbytes hr
  refine wpList_plain hgd fun K hK => ?_
  unfold Oper.wp execOp
  simp only [ho, resolve, invoke, builtin, Sem.run_bind, Sem.run_pure, Result.andThen_ok, List.map_toArray, List.map_cons, List.map_nil, hs, hx, hr]
  exact hK _ _ (h v' w' h2 h3 h5)

theorem infoExpr : (Tryz.prog.info? 29).map (fun i => (i.zero, i.size, i.bytes)) = some (some (.agg #[.string ⟨#[]⟩, .int .i64 0, .int .i64 0, .string ⟨#[]⟩, .string ⟨#[]⟩, .slice none 0 0]), 6, 88) := by kernel_rfl

/-- The six cells of an expression. -/
def ecell (p : Ex × Value) : List Value := [.string p.1.op, .int .i64 p.1.x.k, .int .i64 p.1.x.i, .string p.1.x.s, .string p.1.s, p.2]
def eCells (l : List (Ex × Value)) : List Value := l.flatMap ecell
theorem eCells_snoc (l : List (Ex × Value)) (p : Ex × Value) : eCells (l ++ [p]) = eCells l ++ ecell p := by simp [eCells]
theorem eCells_len (l : List (Ex × Value)) : (eCells l).length = l.length * 6 := by
  induction l with
  | nil => rfl
  | cons x l ih => simp only [eCells, List.flatMap_cons, List.length_append] at ih ⊢; rw [ih]; simp [ecell]; omega
theorem eCells_at (l : List (Ex × Value)) : ∀ j (h : j < l.length) (k : Nat), k < 6 → (eCells l)[j * 6 + k]? = (ecell l[j])[k]? := by
  induction l with
  | nil => intro j h; simp at h
  | cons x l ih =>
    intro j h k hk
    have e : eCells (x :: l) = ecell x ++ eCells l := by simp [eCells]
    have hl : (ecell x).length = 6 := rfl
    rw [e]
    cases j with
    | zero => rw [Nat.zero_mul, Nat.zero_add, List.getElem?_append_left (by rw [hl]; exact hk)]; rfl
    | succ j =>
      rw [List.getElem?_append_right (by rw [hl]; omega), hl, show (j + 1) * 6 + k - 6 = j * 6 + k by omega]
      exact ih j (by simpa using h) k hk
theorem ecell_one (p : Ex × Value) (h : p.2.oneCell' = true) : ∀ u ∈ ecell p, u.oneCell' = true := by
  intro u hu
  simp only [ecell, List.mem_cons, List.not_mem_nil, or_false] at hu
  rcases hu with rfl | rfl | rfl | rfl | rfl | rfl
  · rfl
  · rfl
  · rfl
  · rfl
  · rfl
  · exact h

theorem new_ecells {W : World} {n : Nat} {t : TypeId} {p : Ex × Value} (h : W.heap.size = n) : ∀ j u, (ecell p)[j]? = some u → (W.alloc (.cells #[.string p.1.op, .int .i64 p.1.x.k, .int .i64 p.1.x.i, .string p.1.x.s, .string p.1.s, p.2] t)).cell? ((⟨n, 0, none⟩ : Addr).add j) = some u := by
  subst h
  intro j u h
  match j with
  | 0 => simp [ecell] at h; subst h; simp [Addr.add, go_sem]
  | 1 => simp [ecell] at h; subst h; simp [Addr.add, go_sem]
  | 2 => simp [ecell] at h; subst h; simp [Addr.add, go_sem]
  | 3 => simp [ecell] at h; subst h; simp [Addr.add, go_sem]
  | 4 => simp [ecell] at h; subst h; simp [Addr.add, go_sem]
  | 5 => simp [ecell] at h; subst h; simp [Addr.add, go_sem]
  | j + 6 => simp [ecell] at h

def eObj (t : Ex) (u : Value) : Obj := .cells #[.string t.op, .int .i64 t.x.k, .int .i64 t.x.i, .string t.x.s, .string t.s, u] 29
def zObj : Obj := .cells #[.string ⟨#[]⟩, .int .i64 0, .int .i64 0, .string ⟨#[]⟩, .string ⟨#[]⟩, .slice none 0 0] 29

/-- Few's boxes: what came in, the result's cells, what comes out so far. -/
structure Fst (w : World) (ti t : Ex) (u v : Value) (W : World) : Prop where
  pl : Below w.heap.size w W
  inn : W.heap[w.heap.size]? = some (.cells #[.string ti.op, .int .i64 ti.x.k, .int .i64 ti.x.i, .string ti.x.s, .string ti.s, u] 29 (0, 0))
  res : W.heap[w.heap.size + 1]? = some (.cells #[.string ⟨#[]⟩, .int .i64 0, .int .i64 0, .string ⟨#[]⟩, .string ⟨#[]⟩, .slice none 0 0] 29 (0, 0))
  out : W.heap[w.heap.size + 1 + 1]? = some (.cells #[.string t.op, .int .i64 t.x.k, .int .i64 t.x.i, .string t.x.s, .string t.s, v] 29 (0, 0))
theorem Fst.lt {w : World} {ti t : Ex} {u v : Value} {W : World} (h : Fst w ti t u v W) : w.heap.size + 1 + 1 < W.heap.size := lt_of_block h.out
theorem Fst.start (w : World) (t : Ex) (u : Value) : Fst w t t u (.slice none 0 0) (((w.alloc (eObj t u)).alloc zObj).alloc (eObj t (.slice none 0 0))) := by
  refine ⟨((((Below.refl _ _).alloc (Nat.le_refl _) _).alloc (by simp) _).alloc (by simp; omega) _), ?_, ?_, ?_⟩
  · rw [Below.heap_alloc _ _ _ (by simp; omega), Below.heap_alloc _ _ _ (by simp)]
    exact alloc_at rfl _
  · rw [Below.heap_alloc _ _ _ (by simp)]
    exact alloc_at (by simp) _
  · exact alloc_at (by simp) _
theorem six_set {W : World} {b : Nat} {c0 c1 c2 c3 c4 c5 : Value} {t : TypeId} (h : W.heap[b]? = some (.cells #[c0, c1, c2, c3, c4, c5] t (0, 0))) (i : Nat) (x : Value) :
    (W.setCell ⟨b, i, none⟩ x).heap[b]? = some (.cells (#[c0, c1, c2, c3, c4, c5].setIfInBounds i x) t (0, 0)) := by
  have hlt := lt_of_block h
  have h' : W.heap[b] = .cells #[c0, c1, c2, c3, c4, c5] t (0, 0) := by simpa [Array.getElem?_eq_getElem hlt] using h
  show (W.heap.modify b _)[b]? = _
  rw [Array.getElem?_eq_getElem (by simpa using hlt), Array.getElem_modify_self, h']
  rfl
theorem Fst.set {w : World} {ti t t' : Ex} {u v v' : Value} {W : World} (h : Fst w ti t u v W) (i : Nat) (x : Value)
    (e : (#[Value.string t.op, .int .i64 t.x.k, .int .i64 t.x.i, .string t.x.s, .string t.s, v] : Array Value).setIfInBounds i x = #[.string t'.op, .int .i64 t'.x.k, .int .i64 t'.x.i, .string t'.x.s, .string t'.s, v']) :
    Fst w ti t' u v' (W.setCell ⟨w.heap.size + 1 + 1, i, none⟩ x) :=
  ⟨h.pl.setCell (by simp; omega) _, (Below.heap_setCell _ _ _ _ (by show w.heap.size ≠ w.heap.size + 1 + 1; omega)).trans h.inn, (Below.heap_setCell _ _ _ _ (by show w.heap.size + 1 ≠ w.heap.size + 1 + 1; omega)).trans h.res, (six_set h.out i x).trans (by rw [e])⟩
theorem Fst.later {w : World} {ti t : Ex} {u v : Value} {W W' : World} (h : Fst w ti t u v W) (hb : Below W.heap.size W W') : Fst w ti t u v W' := by
  have := h.lt
  exact ⟨h.pl.trans (hb.mono (by omega)), (hb.block _ (by omega)).trans h.inn, (hb.block _ (by omega)).trans h.res, (hb.block _ h.lt).trans h.out⟩
theorem Fst.grown {w : World} {ti t : Ex} {u v : Value} {W W' : World} {row : Option Nat} (h : Fst w ti t u v W) (hg : W.grownBy W' row) (hr : ∀ g, row = some g → w.heap.size + 1 + 1 < g) : Fst w ti t u v W' := by
  have := h.lt
  have nr : ∀ k, k ≤ w.heap.size + 1 + 1 → some k ≠ row := fun k hk e => by have := hr k e.symm; omega
  exact ⟨h.pl.grown hg (by omega) (fun k e => by have := hr k e; omega), (hg.block _ (by omega) (nr _ (by omega))).trans h.inn, (hg.block _ (by omega) (nr _ (by omega))).trans h.res, (hg.block _ h.lt (nr _ (Nat.le_refl _))).trans h.out⟩

/-- The parts that have come out: a row of the call's own; their blocks are other ones than the row's. -/
def Kids (W : World) (B d : Nat) (v : Value) (k : Nat) (ps : List (Ex × Value)) : Prop :=
  W.ownsRow B 29 6 v k (eCells ps) ∧ ∃ Q : Nat → Prop, (∀ b, Q b → B ≤ b ∧ b < W.heap.size ∧ v.ownBlock ≠ some b) ∧ ∀ p ∈ ps, p.1.s.size ≤ 100000 ∧ Sl W Q d p.1.l p.2
theorem Kids.start (W : World) (B d : Nat) : Kids W B d (.slice none 0 0) 0 [] := ⟨World.ownsRow_nil _ _ _ _, fun _ => False, fun _ h => h.elim, fun _ h => by cases h⟩
theorem Kids.none_ {W : World} {B d : Nat} {v : Value} {k : Nat} {ps : List (Ex × Value)} (h : Kids W B d v k ps) : ps.length = k := by
  have := h.1.1
  rw [eCells_len] at this
  omega
theorem Kids.form {W : World} {B d : Nat} {v : Value} {k : Nat} {ps : List (Ex × Value)} (h : Kids W B d v k ps) : ∃ A cap, v = .slice A k cap := by
  rcases h.1.2 with ⟨rfl, rfl⟩ | ⟨g, cap, cur, rfl, _⟩
  · exact ⟨_, _, rfl⟩
  · exact ⟨_, _, rfl⟩
/-- One more. -/
theorem Kids.snoc {W w1 w2 W3 : World} {B d : Nat} {v v' : Value} {k : Nat} {ps : List (Ex × Value)} (h : Kids W B d v k ps) (hB : B ≤ W.heap.size) (hb1 : Below W.heap.size W w1) {t1 : Ex} {u1 : Value} (ht : Tr w1 (fun b => W.heap.size ≤ b) d t1 u1)
    (hle : w1.heap.size ≤ w2.heap.size) (hsame : ∀ b, b < w1.heap.size → w2.heap[b]? = w1.heap[b]?)
    (hown : W3.ownsRow B 29 6 v' (k + 1) (eCells ps ++ ecell (t1, u1))) (hg : w2.grownBy W3 v.ownBlock) (hw : v'.ownBlock = v.ownBlock ∨ v'.ownBlock = some w2.heap.size) : Kids W3 B d v' (k + 1) (ps ++ [(t1, u1)]) := by
  obtain ⟨h1, Q, hQ, hp⟩ := h
  have hlt := h1.lt
  have hs1 := hb1.size
  have hs2 := hg.size
  have far : ∀ b, (Q b ∨ (W.heap.size ≤ b ∧ b < w1.heap.size)) → b < w1.heap.size ∧ B ≤ b ∧ v.ownBlock ≠ some b := fun b hb => by
    rcases hb with hb | ⟨hb, hb'⟩
    · have := hQ b hb
      exact ⟨by omega, this.1, this.2.2⟩
    · exact ⟨hb', by omega, fun e => by have := (hlt b e).2; omega⟩
  have same : ∀ b, (Q b ∨ (W.heap.size ≤ b ∧ b < w1.heap.size)) → W3.heap[b]? = w1.heap[b]? := fun b hb => by
    obtain ⟨f1, _, f3⟩ := far b hb
    exact (hg.block b (by omega) (fun e => f3 e.symm)).trans (hsame b f1)
  refine ⟨by rw [eCells_snoc]; exact hown, fun b => Q b ∨ (W.heap.size ≤ b ∧ b < w1.heap.size), fun b hb => ?_, fun p hmem => ?_⟩
  · obtain ⟨f1, f2, f3⟩ := far b hb
    refine ⟨f2, by omega, ?_⟩
    rcases hw with hw | hw
    · rw [hw]; exact f3
    · rw [hw]
      intro e
      injection e with e
      omega
  · rcases List.mem_append.1 hmem with hmem | hmem
    · obtain ⟨s1, s2⟩ := hp p hmem
      refine ⟨s1, Sl.keep (fun b hb _ => (same b (.inl hb)).trans (hb1.block b (hQ b hb).2.1)) (fun b hb _ => .inl hb) s2⟩
    · simp only [List.mem_singleton] at hmem
      subst hmem
      refine ⟨ht.1, Sl.keep (w := w1) (fun b hb hl => same b (.inr ⟨hb, hl⟩)) (fun b hb hl => .inr ⟨hb, hl⟩) ht.2⟩
theorem Kids.set {W : World} {B d b : Nat} {v : Value} {k : Nat} {ps : List (Ex × Value)} (h : Kids W B d v k ps) (hb : b < B) (i : Nat) (x : Value) : Kids (W.setCell ⟨b, i, none⟩ x) B d v k ps := by
  obtain ⟨h1, Q, hQ, hp⟩ := h
  have far : ∀ q, B ≤ q → (W.setCell ⟨b, i, none⟩ x).heap[q]? = W.heap[q]? := fun q hq => Below.heap_setCell _ _ _ _ (by show q ≠ b; omega)
  refine ⟨ownsRow_setCell_other h1 (fun e => by have hx : B ≤ b := (h1.lt _ e).1; omega) _, Q, fun q hq => ⟨(hQ q hq).1, by have := (hQ q hq).2.1; simpa [World.setCell] using this, (hQ q hq).2.2⟩, fun p hm => ?_⟩
  obtain ⟨s1, s2⟩ := hp p hm
  exact ⟨s1, Sl.keep (fun q hq _ => far q (hQ q hq).1) (fun q hq _ => hq) s2⟩
/-- What has come out reads as a tree. -/
theorem Kids.tree {W : World} {B d : Nat} {v : Value} {k : Nat} {ps : List (Ex × Value)} (h : Kids W B d v k ps) (hk : k ≤ 100) {t : Ex} (hs : t.s.size ≤ 100000) : Tr W (fun b => B ≤ b) (d + 1) (.mk t.op t.x t.s (ps.map (·.1))) v := by
  have hlen := h.none_
  obtain ⟨h1, Q, hQ, hp⟩ := h
  refine ⟨hs, ?_⟩
  have hl : (ps.map (·.1)).length = k := by simpa using hlen
  rcases h1.2 with ⟨rfl, h0⟩ | ⟨g, cap, cur, rfl, hB, hg, hc, hm, _, _⟩
  · subst h0
    refine ⟨none, 0, ?_, ?_, fun j hj => absurd hj (by show ¬ j < (ps.map (·.1)).length; omega)⟩
    · show Value.slice none 0 0 = .slice none (ps.map (·.1)).length 0
      rw [hl]
    · show (ps.map (·.1)).length ≤ maxLen
      unfold maxLen; omega
  · refine ⟨some ⟨g, 0, none⟩, cap, ?_, ?_, fun j hj => ?_⟩
    · show _ = Value.slice _ (ps.map (·.1)).length cap
      rw [hl]
    · show (ps.map (·.1)).length ≤ maxLen
      unfold maxLen; omega
    · have hj' : j < ps.length := by have : j < (ps.map (·.1)).length := hj; simpa using this
      have hadd : (⟨g, 0, none⟩ : Addr).add (j * 6) = ⟨g, j * 6, none⟩ := by unfold Addr.add; split <;> simp_all
      obtain ⟨s1, s2⟩ := hp ps[j] (List.getElem_mem _)
      have ce : ∀ i, i < 6 → W.cell? ⟨g, j * 6 + i, none⟩ = (ecell ps[j])[i]? := fun i hi => (h1.cellAt (j * 6 + i) (by omega)).trans (eCells_at ps j hj' i hi)
      have hj2 : j < (ps.map (fun p : Ex × Value => p.1)).length := hj
      have eg : (ps.map (fun p : Ex × Value => p.1))[j]'hj2 = ps[j].1 := List.getElem_map _
      refine ⟨⟨g, 0, none⟩, ps[j].2, rfl, hB, ?_, ?_, ?_⟩
      · show ExC W _ ((ps.map (fun p : Ex × Value => p.1))[j]'hj2) _
        rw [hadd, eg]
        exact ⟨ce 0 (by omega), ce 1 (by omega), ce 2 (by omega), ce 3 (by omega), ce 4 (by omega), ce 5 (by omega)⟩
      · show ((ps.map (fun p : Ex × Value => p.1))[j]'hj2).s.size ≤ 100000
        rw [eg]; exact s1
      · show Sl W _ d ((ps.map (fun p : Ex × Value => p.1))[j]'hj2).l _
        rw [eg]
        exact Sl.keep (fun _ _ _ => rfl) (fun b hb _ => (hQ b hb).1) s2
end Go.Proofs.YtmhkmliebhbkdaaGreat

/- The law's Few: an expression of so many levels comes out, in blocks of its own. -/
namespace Go.Proofs.YtmhkmliebhbkdaaGreat
open Go.RowKit Go.Lib

/-- What few answers. -/
def FewO (w : World) (d : Nat) (e : Ending) (w' : World) : Prop := (∃ (t : Ex) (u : Value) (n : Int), e = .returned (.tuple #[EVt t u, .int .i64 n]) ∧ 0 ≤ n ∧ n ≤ 80 ∧ okT t ∧ Tr w' (fun b => w.heap.size ≤ b) d t u) ∧ Below w.heap.size w w'
def FewC (d : Nat) : Prop := ∀ (w : World) (z lv : Int) (op : ByteArray) (k i : Int) (vs s : ByteArray) (u : Value), z = d → In64 i → 1 ≤ lv → lv ≤ 80 → op.size ≤ maxLen → vs.size ≤ maxLen → s.size ≤ maxLen → InL w w.heap.size d u →
  Calls Tryz.prog 24 #[.agg #[.string op, .int .i64 k, .int .i64 i, .string vs, .string s, u], .int .i64 z, .int .i64 lv] w (FewO w d)
/-- What holds where the loop begins anew. -/
def FewR (w : World) (ti t : Ex) (u : Value) (n d : Nat) (lf i : Value) (W : World) : Prop :=
  ∃ (k : Nat) (lv : Int) (v : Value) (ps : List (Ex × Value)), lf = .int .i64 lv ∧ i = .int .i64 k ∧ k ≤ n ∧ k ≤ 3 ∧ 0 ≤ lv ∧ lv ≤ 80 ∧ (d = 0 → k = 0) ∧ (∀ p ∈ ps, okT p.1) ∧ Fst w ti t u v W ∧ Kids W (w.heap.size + 1 + 1 + 1) (d - 1) v k ps
theorem Kids.at0 {W : World} {B d : Nat} {v : Value} {ps : List (Ex × Value)} (h : Kids W B d v 0 ps) {t : Ex} (hs : t.s.size ≤ 100000) : Tr W (fun b => B ≤ b) 0 (.mk t.op t.x t.s (ps.map (·.1))) v := by
  have hl := h.none_
  have : ps = [] := List.length_eq_zero_iff.1 hl
  subst this
  refine ⟨hs, rfl, ?_⟩
  rcases h.1.2 with ⟨rfl, _⟩ | ⟨g, cap, cur, rfl, _⟩
  · exact ⟨none, 0, rfl⟩
  · exact ⟨_, _, rfl⟩
theorem Kids.all {W : World} {B d : Nat} {v : Value} {k : Nat} {ps : List (Ex × Value)} (h : Kids W B (d - 1) v k ps) (hk : k ≤ 3) (h0 : d = 0 → k = 0) {t : Ex} (hs : t.s.size ≤ 100000) : Tr W (fun b => B ≤ b) d (.mk t.op t.x t.s (ps.map (·.1))) v := by
  cases d with
  | zero =>
    have := h0 rfl
    subst this
    exact h.at0 hs
  | succ d => exact h.tree (by omega) hs

set_option maxRecDepth 100000 in
set_option maxHeartbeats 4000000 in
theorem few_step (d : Nat) (hd : d ≤ 14) (ih : ∀ d', d = d' + 1 → FewC d') : FewC d := by
  intro w z lv op k i vs s u hz hi64 hl1 hl80 hop hvs hs hu
  obtain ⟨A, n, cap, rfl, hn⟩ := hu.form
  have HU := Lib.hid hu
  have IH := Lib.hid ih
  obtain ⟨ti, HTI⟩ : ∃ ti : Ex, Hid (ti = .mk op ⟨k, i, vs⟩ s []) := ⟨_, Lib.hid rfl⟩
  have hz0 : 0 ≤ z := by omega
  have hz14 : z ≤ 14 := by omega
  have HZ := Lib.hid hz
  have hsz := Lib.hid (And.intro hvs hs)
  clear hu ih hz hvs hs
  unfold maxLen at hop hn
  obtain ⟨i0, hi, hi0, hi1, hi2⟩ := info_parts infoExpr
  go_enter Tryz.func24, Tryz.ntmps24
  go_upto_if 22 with (fail)
  refine wp_gen (fun W => ∃ t : Ex, Fst w ti t (.slice A n cap) (.slice none 0 0) W ∧ t.op = op ∧ t.s.size ≤ maxLen ∧ t.x.s.size ≤ maxLen ∧ In64 t.x.i) ⟨.mk op ⟨k, i, vs⟩ s [], (by rw [HTI.out]; exact Fst.start w (.mk op ⟨k, i, vs⟩ s []) (.slice A n cap)), rfl, hsz.out.2, hsz.out.1, hi64⟩ fun w1 h1 => ?_
  obtain ⟨t, hF, hto, hts, htv⟩ := h1
  have H1 := Lib.hid hF
  have HS := Lib.hid (And.intro hts htv)
  have HTO := Lib.hid hto
  clear hF hts htv hto
  have o0 := Lib.cell_of_heap H1.out.out 0
  have o1 := Lib.cell_of_heap H1.out.out 1
  have o2 := Lib.cell_of_heap H1.out.out 2
  have o3 := Lib.cell_of_heap H1.out.out 3
  have o4 := Lib.cell_of_heap H1.out.out 4
  have o5 := Lib.cell_of_heap H1.out.out 5
  have of := Lib.frozen_of_heap H1.out.out
  simp only [List.getElem?_toArray, List.getElem?_cons_zero, List.getElem?_cons_succ] at o0 o1 o2 o3 o4 o5
  rw [HTO.out] at o0
  have hzb := H1.out.lt
  go_cut [] (fun wr => ∃ t : Ex, Fst w ti t (.slice A n cap) (.slice none 0 0) wr ∧ t.s.size ≤ maxLen ∧ t.x.s.size ≤ maxLen ∧ In64 t.x.i)
  case first =>
    go_wp2_with (fail)
    all_goals
      go_meet
      first
        | exact ⟨.mk (op.extract 0 8) t.x t.s t.l, H1.out.set 0 _ rfl, HS.out.1, HS.out.2⟩
        | exact ⟨t, H1.out, HS.out.1, HS.out.2⟩
  case rest =>
  clear H1 HS HTO o0 o1 o2 o3 o4 o5 of hzb
  obtain ⟨t, hF, hts, htv⟩ := hcut
  have H1 := Lib.hid hF
  have HS := Lib.hid (And.intro hts htv)
  clear hF hts htv
  have o0 := Lib.cell_of_heap H1.out.out 0
  have o1 := Lib.cell_of_heap H1.out.out 1
  have o2 := Lib.cell_of_heap H1.out.out 2
  have o3 := Lib.cell_of_heap H1.out.out 3
  have o4 := Lib.cell_of_heap H1.out.out 4
  have o5 := Lib.cell_of_heap H1.out.out 5
  have of := Lib.frozen_of_heap H1.out.out
  simp only [List.getElem?_toArray, List.getElem?_cons_zero, List.getElem?_cons_succ] at o0 o1 o2 o3 o4 o5
  have hzb := H1.out.lt
  have hts := HS.out.1
  have htv := HS.out.2.1
  unfold maxLen at hts htv
  go_upto_if 30 with (fail)
  go_cut [] (fun wr => ∃ t : Ex, Fst w ti t (.slice A n cap) (.slice none 0 0) wr ∧ t.s.size ≤ 100000 ∧ t.x.s.size ≤ maxLen ∧ In64 t.x.i)
  case first =>
    go_wp2_with (fail)
    all_goals
      go_meet
      first
        | exact ⟨.mk t.op t.x (t.s.extract 0 20) t.l, H1.out.set 4 _ rfl, (show (t.s.extract 0 20).size ≤ 100000 by rw [ByteArray.size_extract]; omega), HS.out.2⟩
        | exact ⟨t, H1.out, (by omega), HS.out.2⟩
  case rest =>
  clear H1 HS hts htv o0 o1 o2 o3 o4 o5 of hzb
  obtain ⟨t, hF, hts, htv⟩ := hcut
  have H1 := Lib.hid hF
  have HS := Lib.hid (And.intro hts htv)
  clear hF hts htv
  have o0 := Lib.cell_of_heap H1.out.out 0
  have o1 := Lib.cell_of_heap H1.out.out 1
  have o2 := Lib.cell_of_heap H1.out.out 2
  have o3 := Lib.cell_of_heap H1.out.out 3
  have o4 := Lib.cell_of_heap H1.out.out 4
  have o5 := Lib.cell_of_heap H1.out.out 5
  have of := Lib.frozen_of_heap H1.out.out
  simp only [List.getElem?_toArray, List.getElem?_cons_zero, List.getElem?_cons_succ] at o0 o1 o2 o3 o4 o5
  have hzb := H1.out.lt
  have hts := HS.out.1
  have htv := HS.out.2.1
  unfold maxLen at htv
  go_upto_if 39 with (fail)
  go_cut [] (fun wr => ∃ t : Ex, Fst w ti t (.slice A n cap) (.slice none 0 0) wr ∧ t.s.size ≤ 100000 ∧ t.x.s.size ≤ 100000 ∧ In64 t.x.i)
  case first =>
    go_wp2_with (fail)
    all_goals
      go_meet
      first
        | exact ⟨.mk t.op ⟨t.x.k, t.x.i, t.x.s.extract 0 45⟩ t.s t.l, H1.out.set 3 _ rfl, HS.out.1, (show (t.x.s.extract 0 45).size ≤ 100000 by rw [ByteArray.size_extract]; omega), HS.out.2.2⟩
        | exact ⟨t, H1.out, HS.out.1, (by omega), HS.out.2.2⟩
  case rest =>
  clear H1 HS o0 o1 o2 o3 o4 o5 of hzb hts htv
  obtain ⟨t, hF, hts⟩ := hcut
  have H1 := Lib.hid hF
  have HS := Lib.hid hts
  clear hF hts
  go_wp2_with (fail)
  go_loopw [2, 9] (fun lf i wr => FewR w ti t (.slice A n cap) n d lf i wr) (fun _ i _ => n - (intOf i).toNat)
  case atStart => exact ⟨0, lv - 1, .slice none 0 0, [], rfl, rfl, by omega, by omega, by omega, by omega, fun _ => rfl, (fun _ h => by cases h), H1.out, Kids.start _ _ _⟩
  case round =>
    obtain ⟨k, lq, v, ps, rfl, rfl, hk, hk3, hq0, hq80, hd0, hok, hF, hK⟩ := hrel
    obtain ⟨Av, cv, rfl⟩ := hK.form
    have HF := Lib.hid hF
    have HK := Lib.hid hK
    have HD0 := Lib.hid hd0
    have HOK := Lib.hid hok
    clear hF hK hd0 hok H1
    have hzb := HF.out.lt
    have b5 := Lib.cell_of_heap HF.out.inn 5
    have o0 := Lib.cell_of_heap HF.out.out 0
    have o1 := Lib.cell_of_heap HF.out.out 1
    have o2 := Lib.cell_of_heap HF.out.out 2
    have o3 := Lib.cell_of_heap HF.out.out 3
    have o4 := Lib.cell_of_heap HF.out.out 4
    have o5 := Lib.cell_of_heap HF.out.out 5
    have EZ := box_cells (t := zT) HF.out.res
    have y0 := EZ.c0
    have y1 := EZ.c1
    have y2 := EZ.c2
    have y3 := EZ.c3
    have y4 := EZ.c4
    have y5 := EZ.c5
    have yf := Lib.frozen_of_heap HF.out.res
    clear EZ
    simp only [List.getElem?_toArray, List.getElem?_cons_zero, List.getElem?_cons_succ] at b5 o0 o1 o2 o3 o4 o5
    simp only [Nat.zero_add] at y0 y1 y2 y3 y4 y5
    by_cases hlt : k < n
    · by_cases h3 : k < 3
      · have e3 : decide ((k : Int) < 3) = true := decide_eq_true (by omega)
        by_cases hdz : 0 < z
        · have ez : decide (0 < z) = true := decide_eq_true hdz
          by_cases hlq : 0 < lq
          · have eq : decide (0 < lq) = true := decide_eq_true hlq
            obtain ⟨d', rfl⟩ : ∃ d', d = d' + 1 := ⟨d - 1, by have := HZ.out; omega⟩
            obtain ⟨A1, n1, c1, e1, _, hat⟩ := HU.out
            injection e1 with e1 e2 e3'
            subst e1 e2 e3'
            obtain ⟨a, tj, uj, rfl, hab, hC, hs1, hs2, hs3, hs4, hin⟩ := hat k hlt
            obtain ⟨Aj, nj, cj, rfl, _⟩ := hin.form
            have hC' := hC.keep (W' := wr) (by rw [add_block]; exact HF.out.pl.block _ hab)
            have j0 := hC'.c0
            have j1 := hC'.c1
            have j2 := hC'.c2
            have j3 := hC'.c3
            have j4 := hC'.c4
            have j5 := hC'.c5
            have IHJ := Lib.hid (IH.out d' rfl wr (z - 1) lq tj.op tj.x.k tj.x.i tj.x.s tj.s (.slice Aj nj cj) (by have := HZ.out; omega) hs4 (by omega) hq80 hs1 hs2 hs3 (InL.more (Nat.le_of_lt (Nat.lt_of_le_of_lt (by omega) hzb)) (InL.keep HF.out.pl hin)))
            clear hC hC' hat hin hs1 hs2 hs3 hs4 hlq hdz
            go_wp2_with (first
              | (go_at_call 24; refine IHJ.out.mono ?_; rintro e w1 ⟨⟨t1, u1, m1, rfl, hm0, hm80, hk1, ht1⟩, hb1⟩; obtain ⟨B1, q1, rfl, _⟩ := ht1.form; unfold EVt; obtain ⟨p1, HN⟩ : ∃ p1, Hid (t1.l.length = p1) := ⟨_, Lib.hid rfl⟩; rw [HN.out] at ht1 ⊢; have HF1 := Lib.hid (HF.out.later hb1); have HB1 := Lib.hid hb1; have HT1 := Lib.hid ht1; have HK1 := Lib.hid hk1; have HO1 := Lib.hid (HK.out.1.kept (row := none) (grow_below hb1 none) (by cases h : (Value.slice Av k cv).ownBlock with | none => exact .inl rfl | some _ => exact .inr (by simp))); have p5 := Lib.cell_of_heap HF1.out.out 5; simp only [List.getElem?_toArray, List.getElem?_cons_zero, List.getElem?_cons_succ] at p5; have hz1 := HF1.out.lt; have hz2 : w.heap.size < w1.heap.size := (by omega); clear ht1 hb1 hk1 o0 o1 o2 o3 o4 o5 y0 y1 y2 y3 y4 y5 yf j0 j1 j2 j3 j4 j5 b5)
              | (at_builtin; refine wpList_append_kept rfl _ _ 27 rfl (w.heap.size + 1 + 1 + 1) 29 i0 _ 6 88 Tryz.underlying27 hi hi0 hi1 hi2 rfl (by decide) (.slice Av k cv) k (eCells ps) rfl ((HO1.out.alloc _).alloc _) ⟨w1.heap.size + 1, 0, none⟩ 1 1 (ecell (t1, .slice B1 p1 q1)) rfl rfl ?c1 ?c2 (by omega) ?c3 ?c4 ?c5 ?_))
            case c1 => exact new_ecells (p := (t1, .slice B1 p1 q1)) (by simp)
            case c2 => exact ecell_one (t1, .slice B1 p1 q1) rfl
            case c3 => unfold maxLen; omega
            case c4 => omega
            case c5 => simp; omega
            intro v' w2 hown' hgrow hw
            have AB : ∀ (W : World) (o : Obj), Below W.heap.size W (W.alloc o) := fun W o => (Below.refl _ _).alloc (Nat.le_refl _) _
            have HF2 := Lib.hid (((HF1.out.later (AB _ _)).later (AB _ _)).grown hgrow (fun g e => by have := (HK.out.1.lt g e).1; omega))
            have HK2 := Lib.hid (HK.out.snoc (by omega) HB1.out HT1.out (by simp; omega) (fun b hb => by rw [Below.heap_alloc _ _ _ (by simp; omega), Below.heap_alloc _ _ _ hb]) hown' hgrow (by simpa using hw))
            have hgz := hgrow.size
            obtain ⟨A2, c2, rfl⟩ := HK2.out.form
            have r5 := Lib.cell_of_heap HF2.out.out 5
            simp only [List.getElem?_toArray, List.getElem?_cons_zero, List.getElem?_cons_succ] at r5
            have rf := Lib.frozen_of_heap HF2.out.out
            clear hown' hgrow hw AB HO1 p5
            go_wp2_with (fail)
            go_roundw
            case rel => exact ⟨k + 1, m1, _, ps ++ [(t1, .slice B1 p1 q1)], rfl, by go_num, by omega, by omega, hm0, hm80, (fun h => absurd h (by omega)), okT_snoc HOK.out HK1.out, HF2.out.set 5 _ rfl, HK2.out.set (by omega) 5 _⟩
            case measure => simp [intOf]; omega
          · have eq : decide (0 < lq) = false := decide_eq_false hlq
            have HT : Hid (Tr wr (fun b => w.heap.size + 1 + 1 + 1 ≤ b) d (.mk t.op t.x t.s (ps.map (·.1))) (.slice Av k cv)) := HK.out.all hk3 HD0.out HS.out.1
            go_wp2_with (fail)
            refine bodyPost_ret (v := .tuple #[.agg #[.string t.op, .int .i64 t.x.k, .int .i64 t.x.i, .string t.x.s, .string t.s, .slice Av k cv], .int .i64 lq]) (by simp [results, Tryz.results24, go_sem, *]) rfl ⟨⟨.mk t.op t.x t.s (ps.map (·.1)), .slice Av k cv, lq, rfl, hq0, hq80, okT.mk HS.out.2.2 HS.out.2.1 (fun y hy => by obtain ⟨p, hp, rfl⟩ := List.mem_map.1 hy; exact HOK.out p hp), ?_⟩, ?_⟩
            · exact HT.out.set6 (b := w.heap.size + 1) (by omega) (fun b h _ => by omega) _ _ _ _ _ _
            · exact cSet6 (by omega) HF.out.pl _ _ _ _ _ _
        · have ez : decide (0 < z) = false := decide_eq_false hdz
          have HT : Hid (Tr wr (fun b => w.heap.size + 1 + 1 + 1 ≤ b) d (.mk t.op t.x t.s (ps.map (·.1))) (.slice Av k cv)) := HK.out.all hk3 HD0.out HS.out.1
          go_wp2_with (fail)
          refine bodyPost_ret (v := .tuple #[.agg #[.string t.op, .int .i64 t.x.k, .int .i64 t.x.i, .string t.x.s, .string t.s, .slice Av k cv], .int .i64 lq]) (by simp [results, Tryz.results24, go_sem, *]) rfl ⟨⟨.mk t.op t.x t.s (ps.map (·.1)), .slice Av k cv, lq, rfl, hq0, hq80, okT.mk HS.out.2.2 HS.out.2.1 (fun y hy => by obtain ⟨p, hp, rfl⟩ := List.mem_map.1 hy; exact HOK.out p hp), ?_⟩, ?_⟩
          · exact HT.out.set6 (b := w.heap.size + 1) (by omega) (fun b h _ => by omega) _ _ _ _ _ _
          · exact cSet6 (by omega) HF.out.pl _ _ _ _ _ _
      · have e3 : decide ((k : Int) < 3) = false := decide_eq_false (by omega)
        have HT : Hid (Tr wr (fun b => w.heap.size + 1 + 1 + 1 ≤ b) d (.mk t.op t.x t.s (ps.map (·.1))) (.slice Av k cv)) := HK.out.all hk3 HD0.out HS.out.1
        go_wp2_with (fail)
        refine bodyPost_ret (v := .tuple #[.agg #[.string t.op, .int .i64 t.x.k, .int .i64 t.x.i, .string t.x.s, .string t.s, .slice Av k cv], .int .i64 lq]) (by simp [results, Tryz.results24, go_sem, *]) rfl ⟨⟨.mk t.op t.x t.s (ps.map (·.1)), .slice Av k cv, lq, rfl, hq0, hq80, okT.mk HS.out.2.2 HS.out.2.1 (fun y hy => by obtain ⟨p, hp, rfl⟩ := List.mem_map.1 hy; exact HOK.out p hp), ?_⟩, ?_⟩
        · exact HT.out.set6 (b := w.heap.size + 1) (by omega) (fun b h _ => by omega) _ _ _ _ _ _
        · exact cSet6 (by omega) HF.out.pl _ _ _ _ _ _
    · have HT : Hid (Tr wr (fun b => w.heap.size + 1 + 1 + 1 ≤ b) d (.mk t.op t.x t.s (ps.map (·.1))) (.slice Av k cv)) := HK.out.all hk3 HD0.out HS.out.1
      go_wp2_with (fail)
      refine bodyPost_ret (v := .tuple #[.agg #[.string t.op, .int .i64 t.x.k, .int .i64 t.x.i, .string t.x.s, .string t.s, .slice Av k cv], .int .i64 lq]) (by simp [results, Tryz.results24, go_sem, *]) rfl ⟨⟨.mk t.op t.x t.s (ps.map (·.1)), .slice Av k cv, lq, rfl, hq0, hq80, okT.mk HS.out.2.2 HS.out.2.1 (fun y hy => by obtain ⟨p, hp, rfl⟩ := List.mem_map.1 hy; exact HOK.out p hp), ?_⟩, ?_⟩
      · exact HT.out.set6 (b := w.heap.size + 1) (by omega) (fun b h _ => by omega) _ _ _ _ _ _
      · exact cSet6 (by omega) HF.out.pl _ _ _ _ _ _
end Go.Proofs.YtmhkmliebhbkdaaGreat

/- The law's Few. -/
namespace Go.Proofs.YtmhkmliebhbkdaaGreat
open Go.RowKit Go.Lib

theorem few_all : ∀ d, d ≤ 14 → FewC d
  | 0, h => few_step 0 h (fun _ e => by omega)
  | d + 1, h => few_step (d + 1) h (fun d' e => by
    have : d' = d := by omega
    subst this
    exact few_all d' (by omega))

set_option maxRecDepth 100000 in
set_option maxHeartbeats 4000000 in
theorem few4_any (op : ByteArray) (k i : Int) (vs s : ByteArray) (u : Value) (w : World) (hop : op.size ≤ maxLen) (hvs : vs.size ≤ maxLen) (hs : s.size ≤ maxLen) (hi : In64 i) (hu : InL w w.heap.size 14 u) :
    Calls Tryz.prog 10 #[.agg #[.string op, .int .i64 k, .int .i64 i, .string vs, .string s, u]] w fun e w' => (∃ t u, e = .returned (EVt t u) ∧ okT t ∧ Tr w' (fun b => w.heap.size ≤ b) 14 t u) ∧ Below w.heap.size w w' := by
  have HC : Hid (∀ W, Below w.heap.size w W → Calls Tryz.prog 24 #[.agg #[.string op, .int .i64 k, .int .i64 i, .string vs, .string s, u], .int .i64 14, .int .i64 80] W (FewO W 14)) := fun W hb =>
    few_all 14 (by omega) W 14 80 op k i vs s u rfl hi (by omega) (by omega) hop hvs hs (InL.more hb.size (InL.keep hb hu))
  clear hop hvs hs hi hu
  go_enter Tryz.func10, Tryz.ntmps10
  go_wp2_with (go_at_call 24; refine (HC.out _ (((Below.refl _ _).alloc (Nat.le_refl _) _).alloc (by simp) _)).mono ?_; rintro e w1 ⟨⟨t1, u1, m1, rfl, _, _, hk1, ht1⟩, hb1⟩; obtain ⟨B1, q1, rfl, _⟩ := ht1.form; unfold EVt; obtain ⟨p1, HN⟩ : ∃ p1, Hid (t1.l.length = p1) := ⟨_, Lib.hid rfl⟩; rw [HN.out] at ht1 ⊢; have HB1 : Hid (Below w.heap.size w w1) := (((Below.refl _ _).alloc (Nat.le_refl _) _).alloc (by simp) _).trans (hb1.mono (by simp; omega)); have HT1 : Hid (Tr w1 (fun b => w.heap.size + 1 < b) 14 t1 (.slice B1 p1 q1)) := ht1.keep (fun _ _ _ => rfl) (fun b h _ => by simp at h; omega); have hy1 := hb1.size; (try simp at hy1); have hz1 : w.heap.size + 1 < w1.heap.size := (by omega); have hz0 : w.heap.size < w1.heap.size := (by omega); have hbx : w1.heap[w.heap.size + 1]? = some (.cells #[.string ⟨#[]⟩, .int .i64 0, .int .i64 0, .string ⟨#[]⟩, .string ⟨#[]⟩, .slice none 0 0] 29 (0, 0)) := (hb1.block _ (by simp)).trans (alloc_at (by simp) _); have EZ := box_cells (t := zT) hbx; have y0 := EZ.c0; have y1 := EZ.c1; have y2 := EZ.c2; have y3 := EZ.c3; have y4 := EZ.c4; have y5 := EZ.c5; have yf := Lib.frozen_of_heap hbx; simp only [Nat.zero_add] at y0 y1 y2 y3 y4 y5; clear EZ; clear ht1 hb1)
  refine bodyPost_ret (v := .agg #[.string t1.op, .int .i64 t1.x.k, .int .i64 t1.x.i, .string t1.x.s, .string t1.s, .slice B1 p1 q1]) (by simp [results, Tryz.results10, go_sem, *]) rfl ⟨⟨t1, .slice B1 p1 q1, rfl, hk1, ?_⟩, ?_⟩
  · show Tr ((set6 w1 (w.heap.size + 1) _ _ _ _ _ _).alloc _) _ _ _ _
    exact (HT1.out.set6 (b := w.heap.size + 1) (by omega) (fun b h _ => by omega) _ _ _ _ _ _).below ((Below.refl _ _).alloc (Nat.le_refl _) _)
  · show Below _ _ ((set6 w1 (w.heap.size + 1) _ _ _ _ _ _).alloc _)
    exact (cSet6 (by omega) HB1.out _ _ _ _ _ _).alloc (by simp [World.setCell]; omega) _
end Go.Proofs.YtmhkmliebhbkdaaGreat

/- What the document's six do with two values: as the program's; what an expression comes to is a value of 64 bits. -/
namespace Go.Proofs.YtmhkmliebhbkdaaGreat
open Go.RowKit Go.Lib

end Go.Proofs.YtmhkmliebhbkdaaGreat

/- A region whose order Go leaves open that makes a map, fills it with the values of calls, and hands it on: walked in the text's order alone. No program stands in it. -/
namespace Go.Proofs.YtmhkmliebhbkdaaGreat
open Go.RowKit

/-- Block r is a map of these texts, whose stamps are in order. -/
def MapSt (W : World) (r : Nat) (es : List (ByteArray × Value)) : Prop := ∃ (m : Array MapEntry) (c : Nat), W.heap[r]? = some (.map m c) ∧ (m.toList.map pairOf = es.map fun y => (.string y.1, y.2)) ∧ (∀ x ∈ m.toList, x.born < c) ∧ (m.toList.map (·.born)).Nodup
theorem MapSt.lt {W : World} {r : Nat} {es : List (ByteArray × Value)} (h : MapSt W r es) : r < W.heap.size := by obtain ⟨m, c, h, _⟩ := h; exact (Array.getElem?_eq_some_iff.1 h).1
theorem MapSt.keep {W W' : World} {r : Nat} {es : List (ByteArray × Value)} (h : MapSt W r es) (hb : W'.heap[r]? = W.heap[r]?) : MapSt W' r es := by obtain ⟨m, c, h, k⟩ := h; exact ⟨m, c, hb.trans h, k⟩
theorem MapSt.below {W W' : World} {r : Nat} {es : List (ByteArray × Value)} (h : MapSt W r es) (hb : Below W.heap.size W W') : MapSt W' r es := h.keep (hb.block r h.lt)
theorem MapSt.made (w : World) : MapSt (w.alloc (.map #[] 0)) w.heap.size [] := ⟨#[], 0, by show (w.heap.push _)[w.heap.size]? = _; simp, rfl, by simp, by simp⟩
theorem MapSt.insert {P : Program} {w : World} {r : Nat} {es : List (ByteArray × Value)} (h : MapSt w r es) {t k e : TypeId} (ht : P.underlying t = some (.map k e)) (hk : P.underlying k = some .string) {s : ByteArray} (v : Value) (hn : ∀ y ∈ es, (s == y.1) = false) :
    ∃ w', (Instr.mapUpdate t (.map (some r)) (.string s) v).run P w = .ok () w' ∧ MapSt w' r (es ++ [(s, v)]) ∧ w.grownBy w' (some r) := by
  obtain ⟨m, c, hb, hm, hlt, hnd⟩ := h
  have hf := find_new (s := s) 0 hm hn
  have hc : (Instr.checkKey false 10000 k (.string s)).run P w = .ok () w := MapKept.run_checkKey (k := .string s) hk (by simp [MapKept.IsKey]) false 9999
  refine ⟨{ w with heap := w.heap.setIfInBounds r (.map (m.push { key := .string s, val := v, born := c }) (c + 1)) }, ?_, ⟨_, _, (MapKept.heap_set hb).1, ?_, ?_, ?_⟩, ⟨rfl, rfl, rfl, by simp, fun q hq hne => (MapKept.heap_set hb).2 q (fun e => hne (by rw [e]))⟩⟩
  · simp [Instr.mapUpdate, run_underlying ht, MapKept.run_getObj_map hb, hc, MapKept.run_findKey hk hf, MapKept.run_setObj_map _ hb, Result.andThen]
  · simp [hm, pairOf]
  · intro x hx
    rw [Array.toList_push] at hx
    rcases List.mem_append.1 hx with hx | hx
    · have := hlt x hx; omega
    · simp only [List.mem_singleton] at hx; subst hx; show c < c + 1; omega
  · rw [Array.toList_push, List.map_append, List.nodup_append]
    refine ⟨hnd, by simp, fun a ha b hb => ?_⟩
    obtain ⟨x, hx, rfl⟩ := List.mem_map.1 ha
    simp only [List.map_cons, List.map_nil, List.mem_singleton] at hb
    have := hlt x hx
    omega

/-- What an operation of such a region is to come to: a value; the new map; an entry more. -/
inductive TellJ where
  | val (v : Value)
  | mk
  | ins (s : ByteArray) (v : Value)

/-- The world at hand: below the heap that stood when the region began all is as it was; the map, if it is made, has these entries, in whatever order. -/
def MEnv (w0 : World) (G : Option Nat) (es : List (ByteArray × Value)) (w : World) : Prop :=
  Below w0.heap.size w0 w ∧ ∀ g, G = some g → w0.heap.size ≤ g ∧ ∃ l, MapSt w g l ∧ l.Perm es

/-- One operation's step, and what is to hold behind it. -/
def StepI (P : Program) (ops : Array Oper) (w0 : World) (te : Option TellJ) (o : Oper) (a : Act) (G : Option Nat) (es : List (ByteArray × Value)) (C : Act → Option Nat → List (ByteArray × Value) → Prop) : Prop :=
  Region.wanted o (yielded ops a.tmps) = true ∧
  ((∃ v, te = some (.val v) ∧ (∀ w, Below w0.heap.size w0 w → Det1 P v w ((execOp a.eval o).run P w)) ∧ C (a.put o.dst v) G es) ∨
   (te = some .mk ∧ G = none ∧ es = [] ∧ (∀ w, (execOp a.eval o).run P w = .ok (.value (.map (some w.heap.size))) (w.alloc (.map #[] 0))) ∧ ∀ g, C (a.put o.dst (.map (some g))) (some g) []) ∨
   (∃ s v t k e m x y g, te = some (.ins s v) ∧ G = some g ∧ P.underlying t = some (.map k e) ∧ P.underlying k = some .string ∧ o.op = Op.insert t m x y ∧ a.eval m = .map (some g) ∧ a.eval x = .string s ∧ a.eval y = v ∧ (∀ z ∈ es, (s == z.1) = false) ∧ C (a.put o.dst undef) G (es ++ [(s, v)])))

theorem baSymm {s t : ByteArray} (h : (s == t) = false) : (t == s) = false := by
  have e : ∀ a b : ByteArray, (a == b) = (a.data == b.data) := fun a b => by cases a; cases b; rfl
  rw [e] at h ⊢
  rw [BEq.comm]
  exact h

section
variable {P : Program} {md : Region.Mode} {ops : Array Oper} {Q : Exit → Act → World → Prop} {w0 : World} {K : Nat} {tells : List TellJ}

theorem StepI.mono {te : Option TellJ} {o : Oper} {a : Act} {G : Option Nat} {es : List (ByteArray × Value)} {C D : Act → Option Nat → List (ByteArray × Value) → Prop} (h : StepI P ops w0 te o a G es C) (k : ∀ a G es, C a G es → D a G es) : StepI P ops w0 te o a G es D := by
  refine ⟨h.1, ?_⟩
  rcases h.2 with ⟨v, h1, h2, h3⟩ | ⟨h1, h2, h3, h4, h5⟩ | ⟨s, v, t, kk, e, m, x, y, g, h1, h2, h3, h4, h5, h6, h7, h8, h9, h10⟩
  · exact .inl ⟨v, h1, h2, k _ _ _ h3⟩
  · exact .inr (.inl ⟨h1, h2, h3, h4, fun g => k _ _ _ (h5 g)⟩)
  · exact .inr (.inr ⟨s, v, t, kk, e, m, x, y, g, h1, h2, h3, h4, h5, h6, h7, h8, h9, k _ _ _ h10⟩)
theorem StepI.some {te : Option TellJ} {o : Oper} {a : Act} {G : Option Nat} {es : List (ByteArray × Value)} {C : Act → Option Nat → List (ByteArray × Value) → Prop} (h : StepI P ops w0 te o a G es C) : ∃ a G es, C a G es := by
  rcases h.2 with ⟨v, h1, h2, h3⟩ | ⟨h1, h2, h3, h4, h5⟩ | ⟨s, v, t, kk, e, m, x, y, g, h1, h2, h3, h4, h5, h6, h7, h8, h9, h10⟩
  · exact ⟨_, _, _, h3⟩
  · exact ⟨_, _, _, h5 0⟩
  · exact ⟨_, _, _, h10⟩
theorem StepI.perm {te : Option TellJ} {o : Oper} {a : Act} {G : Option Nat} {es es' : List (ByteArray × Value)} {C : Act → Option Nat → List (ByteArray × Value) → Prop} (hC : ∀ a G es es', es.Perm es' → C a G es → C a G es') (he : es.Perm es') (h : StepI P ops w0 te o a G es C) : StepI P ops w0 te o a G es' C := by
  refine ⟨h.1, ?_⟩
  rcases h.2 with ⟨v, h1, h2, h3⟩ | ⟨h1, h2, h3, h4, h5⟩ | ⟨s, v, t, kk, e, m, x, y, g, h1, h2, h3, h4, h5, h6, h7, h8, h9, h10⟩
  · exact .inl ⟨v, h1, h2, hC _ _ _ _ he h3⟩
  · subst h3
    exact .inr (.inl ⟨h1, h2, he.symm.eq_nil, h4, h5⟩)
  · exact .inr (.inr ⟨s, v, t, kk, e, m, x, y, g, h1, h2, h3, h4, h5, h6, h7, h8, fun z hz => h9 z (he.mem_iff.2 hz), hC _ _ _ _ (he.append_right _) h10⟩)

theorem insert_same (o : Oper) (a : Act) (dst : Option Tmp) (v : Value) {t : TypeId} {m p q : Operand} (ho : o.op = Op.insert t m p q) (h : ∀ d, dst = some d → d ∉ o.looksAt ops) :
    (a.put dst v).eval m = a.eval m ∧ (a.put dst v).eval p = a.eval p ∧ (a.put dst v).eval q = a.eval q := by
  have k : ∀ x ∈ o.op.operands.toList, (a.put dst v).eval x = a.eval x := fun x hx => Act.eval_put fun d hd hxd => h d hd (by
    subst hxd
    exact List.mem_append_left _ (List.mem_filterMap.2 ⟨.tmp d, by simpa using hx, rfl⟩))
  rw [ho] at k
  exact ⟨k m (by simp [Op.operands]), k p (by simp [Op.operands]), k q (by simp [Op.operands])⟩

/-- Two steps that are apart may be taken the other way round. -/
theorem StepI.swap {ti tj : Option TellJ} {oi oj : Oper} {a : Act} {G : Option Nat} {es : List (ByteArray × Value)} {C : Act → Option Nat → List (ByteArray × Value) → Prop} (hC : ∀ a G es es', es.Perm es' → C a G es → C a G es')
    (hsi : ∀ cs b, oi.op ≠ .select cs b) (hsj : ∀ cs b, oj.op ≠ .select cs b) (hap : oi.apart ops oj = true)
    (h : StepI P ops w0 ti oi a G es fun a G es => StepI P ops w0 tj oj a G es C) : StepI P ops w0 tj oj a G es fun a G es => StepI P ops w0 ti oi a G es C := by
  obtain ⟨h1, h2, h3⟩ := Oper.apart_spec hap
  have ej : ∀ (a : Act) x, execOp (a.put oi.dst x).eval oj = execOp a.eval oj := fun a x => execOp_put oj hsj a oi.dst x h1
  have wj : ∀ (a : Act) x, Region.wanted oj (yielded ops (a.put oi.dst x).tmps) = Region.wanted oj (yielded ops a.tmps) := fun a x => wanted_put oj a oi.dst x h1
  have ei : ∀ (a : Act) x, execOp (a.put oj.dst x).eval oi = execOp a.eval oi := fun a x => execOp_put oi hsi a oj.dst x h3
  have wi : ∀ (a : Act) x, Region.wanted oi (yielded ops (a.put oj.dst x).tmps) = Region.wanted oi (yielded ops a.tmps) := fun a x => wanted_put oi a oj.dst x h3
  have pc : ∀ (a : Act) x u, (a.put oi.dst x).put oj.dst u = (a.put oj.dst u).put oi.dst x := fun a x u => Act.put_comm a x u h2
  have vj : ∀ (a : Act) x t m p q, oj.op = Op.insert t m p q → (a.put oi.dst x).eval m = a.eval m ∧ (a.put oi.dst x).eval p = a.eval p ∧ (a.put oi.dst x).eval q = a.eval q := fun a x t m p q ho => insert_same oj a oi.dst x ho h1
  have vi : ∀ (a : Act) x t m p q, oi.op = Op.insert t m p q → (a.put oj.dst x).eval m = a.eval m ∧ (a.put oj.dst x).eval p = a.eval p ∧ (a.put oj.dst x).eval q = a.eval q := fun a x t m p q ho => insert_same oi a oj.dst x ho h3
  obtain ⟨hwi, h⟩ := h
  rcases h with ⟨v, i1, i2, hw, h⟩ | ⟨i1, i2, i3, i4, h⟩ | ⟨s, v, t, k, e, m, x, y, g, i1, i2, i3, i4, i5, i6, i7, i8, i9, hw, h⟩
  · refine ⟨(wj a v).symm.trans hw, ?_⟩
    rcases h with ⟨u, j1, j2, hc⟩ | ⟨j1, j2, j3, j4, hc⟩ | ⟨s', v', t', k', e', m', x', y', g', j1, j2, j3, j4, j5, j6, j7, j8, j9, hc⟩
    · exact .inl ⟨u, j1, fun w hb => by rw [← ej a v]; exact j2 w hb, (wi a u).trans hwi, .inl ⟨v, i1, fun w hb => by rw [ei a u]; exact i2 w hb, by rw [← pc]; exact hc⟩⟩
    · exact .inr (.inl ⟨j1, j2, j3, fun w => by rw [← ej a v]; exact j4 w, fun g => ⟨(wi a _).trans hwi, .inl ⟨v, i1, fun w hb => by rw [ei a _]; exact i2 w hb, by rw [← pc]; exact hc g⟩⟩⟩)
    · obtain ⟨r1, r2, r3⟩ := vj a v t' m' x' y' j5
      exact .inr (.inr ⟨s', v', t', k', e', m', x', y', g', j1, j2, j3, j4, j5, r1 ▸ j6, r2 ▸ j7, r3 ▸ j8, j9, (wi a _).trans hwi, .inl ⟨v, i1, fun w hb => by rw [ei a _]; exact i2 w hb, by rw [← pc]; exact hc⟩⟩)
  · refine ⟨(wj a _).symm.trans (h 0).1, ?_⟩
    have h0 := (h 0).2
    have hg := fun g => (h g).2
    rcases h0 with ⟨u, j1, j2, hc⟩ | ⟨j1, j2, j3, j4, hc⟩ | ⟨s', v', t', k', e', m', x', y', g', j1, j2, j3, j4, j5, j6, j7, j8, j9, hc⟩
    · refine .inl ⟨u, j1, fun w hb => by rw [← ej a]; exact j2 w hb, (wi a u).trans hwi, .inr (.inl ⟨i1, i2, i3, fun w => by rw [ei a u]; exact i4 w, fun g => ?_⟩)⟩
      rcases hg g with ⟨u', j1', _, hc'⟩ | ⟨j1', j2', _⟩ | ⟨_, _, _, _, _, _, _, _, _, j1', _⟩
      · have hu : u' = u := by rw [j1] at j1'; injection j1' with e; injection e with e; exact e.symm
        rw [hu] at hc'
        rw [← pc, ← i3] at *
        first | exact hc' | (rw [i3]; exact hc')
      · cases j2'
      · rw [j1] at j1'; cases j1'
    · cases j2
    · exfalso
      rcases hg (g' + 1) with ⟨u', j1', _⟩ | ⟨j1', j2', _⟩ | ⟨_, _, t2, _, _, m2, x2, y2, g2, j1', j2', _, _, j5', j6', _⟩
      · rw [j1] at j1'; cases j1'
      · cases j2'
      · have e1 : m2 = m' := by rw [j5] at j5'; injection j5' with _ e _ _; exact e.symm
        injection j2 with j2
        injection j2' with j2'
        have r1 := (vj a (.map (Option.some 0)) t' m' x' y' j5).1
        have r2 := (vj a (.map (Option.some (g' + 1))) t' m' x' y' j5).1
        rw [e1, r2, ← r1, j6] at j6'
        injection j6' with j6'
        injection j6' with j6'
        omega
  · refine ⟨(wj a undef).symm.trans hw, ?_⟩
    rcases h with ⟨u, j1, j2, hc⟩ | ⟨j1, j2, j3, j4, hc⟩ | ⟨s', v', t', k', e', m', x', y', g', j1, j2, j3, j4, j5, j6, j7, j8, j9, hc⟩
    · obtain ⟨r1, r2, r3⟩ := vi a u t m x y i5
      exact .inl ⟨u, j1, fun w hb => by rw [← ej a undef]; exact j2 w hb, (wi a u).trans hwi, .inr (.inr ⟨s, v, t, k, e, m, x, y, g, i1, i2, i3, i4, i5, r1.trans i6, r2.trans i7, r3.trans i8, i9, by rw [← pc]; exact hc⟩)⟩
    · rw [i2] at j2; cases j2
    · obtain ⟨r1, r2, r3⟩ := vj a undef t' m' x' y' j5
      obtain ⟨q1, q2, q3⟩ := vi a undef t m x y i5
      refine .inr (.inr ⟨s', v', t', k', e', m', x', y', g', j1, j2, j3, j4, j5, r1 ▸ j6, r2 ▸ j7, r3 ▸ j8, fun z hz => j9 z (List.mem_append_left _ hz), (wi a _).trans hwi, .inr (.inr ⟨s, v, t, k, e, m, x, y, g, i1, i2, i3, i4, i5, q1.trans i6, q2.trans i7, q3.trans i8, fun z hz => ?_, ?_⟩)⟩)
      · rcases List.mem_append.1 hz with hz | hz
        · exact i9 z hz
        · simp only [List.mem_singleton] at hz
          subst hz
          have := j9 (s, v) (List.mem_append_right _ List.mem_cons_self)
          show (s == s') = false
          exact baSymm this
      · rw [← pc]
        refine hC _ _ _ _ ?_ hc
        rw [List.append_assoc, List.append_assoc]
        exact List.Perm.append_left _ (List.Perm.swap _ _ _)

def DetI (P : Program) (md : Region.Mode) (ops : Array Oper) (Q : Exit → Act → World → Prop) (w0 : World) (K : Nat) (tells : List TellJ) : Nat → Array Bool → Act → Option Nat → List (ByteArray × Value) → Prop
  | 0, listed, a, G, es => (∀ j ∈ Region.ready md ops listed, K ≤ j) ∧ ∀ w, MEnv w0 G es w → wpAny P md ops Q 0 listed a w
  | n + 1, listed, a, G, es =>
    ((∀ j ∈ Region.ready md ops listed, K ≤ j) ∧ ∀ w, MEnv w0 G es w → wpAny P md ops Q (n + 1) listed a w) ∨
    (Region.ready md ops listed ≠ [] ∧ ∀ i ∈ Region.ready md ops listed, i < K ∧ ∃ oi, ops[i]? = Option.some oi ∧ StepI P ops w0 tells[i]? oi a G es fun a G es => DetI P md ops Q w0 K tells n (listed.setIfInBounds i true) a G es)

theorem MEnv.perm {G : Option Nat} {es es' : List (ByteArray × Value)} {w : World} (h : MEnv w0 G es w) (he : es.Perm es') : MEnv w0 G es' w :=
  ⟨h.1, fun g e => by obtain ⟨h1, l, h2, h3⟩ := h.2 g e; exact ⟨h1, l, h2, h3.trans he⟩⟩
theorem DetI.perm : ∀ (n : Nat) (listed : Array Bool) (a : Act) (G : Option Nat) (es es' : List (ByteArray × Value)), es.Perm es' → DetI P md ops Q w0 K tells n listed a G es → DetI P md ops Q w0 K tells n listed a G es'
  | 0, _, _, _, _, _, he, h => ⟨h.1, fun w hw => h.2 w (hw.perm he.symm)⟩
  | n + 1, listed, a, G, es, es', he, h => by
    rcases h with h | ⟨hne, h⟩
    · exact .inl ⟨h.1, fun w hw => h.2 w (hw.perm he.symm)⟩
    · refine .inr ⟨hne, fun i hi => ?_⟩
      obtain ⟨hK, oi, hoi, hs⟩ := h i hi
      exact ⟨hK, oi, hoi, StepI.perm (fun a G es es' he h => DetI.perm n _ a G es es' he h) he hs⟩

theorem MEnv.later {G : Option Nat} {es : List (ByteArray × Value)} {w w' : World} (h : MEnv w0 G es w) (hb : Below w.heap.size w w') : MEnv w0 G es w' :=
  ⟨h.1.trans (hb.mono h.1.size), fun g e => by obtain ⟨h1, l, h2, h3⟩ := h.2 g e; exact ⟨h1, l, h2.below hb, h3⟩⟩

theorem wpOp_step {i : Nat} {te : Option TellJ} {oi : Oper} {a : Act} {G : Option Nat} {es : List (ByteArray × Value)} {w : World} {C : Act → Option Nat → List (ByteArray × Value) → Prop} {Kt : Act → World → Prop} (hi : ops[i]? = Option.some oi) (hs : StepI P ops w0 te oi a G es C) (hw : MEnv w0 G es w)
    (hK : ∀ a G es w', C a G es → MEnv w0 G es w' → Kt a w') : wpOp P ops Q i Kt a w := by
  unfold wpOp
  obtain ⟨hwn, h⟩ := hs
  simp only [hi, hwn, if_true]
  refine .inl ?_
  rcases h with ⟨v, _, h, hc⟩ | ⟨_, rfl, rfl, h, hc⟩ | ⟨s, v, t, k, e, m, x, y, g, _, rfl, h3, h4, h5, h6, h7, h8, h9, hc⟩
  · have h := h w hw.1
    unfold Oper.wp
    generalize (execOp a.eval oi).run P w = r at h
    cases r with
    | ok n w' =>
      cases n <;> simp only [Det1] at h
      case value u => obtain ⟨rfl, hb⟩ := h; exact hK _ _ _ _ hc (hw.later hb)
      case skip => obtain ⟨rfl, hb⟩ := h; exact hK _ _ _ _ hc (hw.later hb)
      case enter f args =>
        rw [Oper.upon_enter]
        refine Calls.mono h fun e w'' he => ?_
        obtain ⟨rfl, hb⟩ := he
        exact hK _ _ _ _ hc (hw.later hb)
    | halt x w' => simp only [Det1] at h
  · have h := h w
    unfold Oper.wp
    rw [h]
    refine hK _ _ _ _ (hc w.heap.size) ⟨hw.1.alloc hw.1.size _, fun g e => ?_⟩
    injection e with e
    subst e
    exact ⟨hw.1.size, [], MapSt.made w, List.Perm.refl _⟩
  · obtain ⟨hg, l, hl, hp⟩ := hw.2 g rfl
    obtain ⟨w', hrun, r1, r2⟩ := hl.insert (P := P) h3 h4 v (fun z hz => h9 z (hp.mem_iff.1 hz))
    unfold Oper.wp
    have hrun' : (execOp a.eval oi).run P w = .ok .skip w' := by
      simp [execOp, h5, h6, h7, h8, hrun, Result.andThen]
    rw [hrun']
    exact hK _ _ _ _ hc ⟨below_grow hw.1 r2 hg hw.1.size, fun g' e => by
      injection e with e
      subst e
      exact ⟨hg, _, r1, hp.append_right _⟩⟩

theorem DetI.sound : ∀ (n : Nat) (listed : Array Bool) (a : Act) (G : Option Nat) (es : List (ByteArray × Value)), DetI P md ops Q w0 K tells n listed a G es → ∀ w, MEnv w0 G es w → wpAny P md ops Q n listed a w
  | 0, _, _, _, _, h, w, hw => h.2 w hw
  | n + 1, listed, a, G, es, h, w, hw => by
    rcases h with h | ⟨hne, h⟩
    · exact h.2 w hw
    · refine ⟨fun h0 => absurd h0 hne, fun i hi => ?_⟩
      obtain ⟨_, oi, hoi, hs⟩ := h i hi
      exact wpOp_step hoi hs hw fun a G es w' hc hw' => DetI.sound n _ a G es hc w' hw'

/-- 'i' may come up and is free: it may be taken first. -/
theorem DetI.first {i : Nat} {oi : Oper} (hi : ops[i]? = Option.some oi) (hs : Region.noSelect ops = true) (hK : i < K) :
    ∀ (n : Nat) (listed : Array Bool) (a : Act) (G : Option Nat) (es : List (ByteArray × Value)), Closed md ops listed → freeK md ops K listed i = true → i ∈ Region.ready md ops listed →
      (StepI P ops w0 tells[i]? oi a G es fun a G es => DetI P md ops Q w0 K tells n (listed.setIfInBounds i true) a G es) → DetI P md ops Q w0 K tells (n + 1) listed a G es := by
  intro n
  induction n with
  | zero =>
    intro listed a G es hcl hf hr H
    refine .inr ⟨List.ne_nil_of_mem hr, fun j hj => ?_⟩
    by_cases hji : j = i
    · subst hji; exact ⟨hK, oi, hi, H⟩
    · exfalso
      obtain ⟨hjun, oj, hoj, hall⟩ := mem_ready.1 hj
      have hno : waitsB md ops 6 j i = false := by
        cases hwt : waitsB md ops 6 j i with
        | false => rfl
        | true =>
          obtain ⟨hiun, _⟩ := mem_ready.1 hr
          have := waitsB_spec hcl 6 j i oj hoj hall hwt
          rw [getD_false_true hiun] at this
          cases this
      have hfree := freeK_spec hi hf hoj hji hjun hno
      have hj' := ready_mono hj hji
      obtain ⟨a', G', es', hc⟩ := H.some
      have := hc.1 j hj'
      omega
  | succ n ih =>
    intro listed a G es hcl hf hr H
    refine .inr ⟨List.ne_nil_of_mem hr, fun j hj => ?_⟩
    by_cases hji : j = i
    · subst hji; exact ⟨hK, oi, hi, H⟩
    · obtain ⟨hjun, oj, hoj, hall⟩ := mem_ready.1 hj
      obtain ⟨hiun, _⟩ := mem_ready.1 hr
      have hno : waitsB md ops 6 j i = false := by
        cases hwt : waitsB md ops 6 j i with
        | false => rfl
        | true =>
          have := waitsB_spec hcl 6 j i oj hoj hall hwt
          rw [getD_false_true hiun] at this
          cases this
      obtain ⟨hap, hjK⟩ := freeK_spec hi hf hoj hji hjun hno
      have hj' := ready_mono hj hji
      have hi' : i ∈ Region.ready md ops (listed.setIfInBounds j true) := ready_mono hr (Ne.symm hji)
      have hf' := freeK_mono (j := j) hf
      have hcl' := hcl.set hj
      have hsi := noSel hs hi
      have hsj := noSel hs hoj
      refine ⟨hjK, oj, hoj, ?_⟩
      have H2 : StepI P ops w0 tells[i]? oi a G es fun a G es => StepI P ops w0 tells[j]? oj a G es fun a G es => DetI P md ops Q w0 K tells n ((listed.setIfInBounds j true).setIfInBounds i true) a G es := by
        refine H.mono fun a G es h => ?_
        rcases h with h | ⟨_, h⟩
        · have := h.1 j hj'; omega
        · obtain ⟨_, oj', hoj', h⟩ := h j hj'
          obtain rfl : oj' = oj := Option.some.inj (hoj'.symm.trans hoj)
          rw [← listed_comm listed i j hji]
          exact h
      exact (StepI.swap (fun a G es es' he h => DetI.perm n _ a G es es' he h) hsi hsj hap H2).mono fun a G es h => ih _ a G es hcl' hf' hi' h

end
end Go.Proofs.YtmhkmliebhbkdaaGreat

/- Going through a map of one's own, in whatever order: each round one of its entries. No program stands in it. -/
namespace Go.Proofs.YtmhkmliebhbkdaaGreat
open Go.RowKit
open Go.ChangeMaps (setBlock)

/-- Block r goes through the map at block b; so many entries are yet to come. -/
def RangeSt (W : World) (b r : Nat) (es : List (ByteArray × Value)) (cnt : Nat) : Prop :=
  ∃ (m : Array MapEntry) (c since : Nat) (seen : Array Nat) (c0 : Nat), W.heap[b]? = some (.map m c) ∧ (m.toList.map pairOf = es.map fun y => (.string y.1, y.2)) ∧ (∀ x ∈ m.toList, x.born < since) ∧ (m.toList.map (·.born)).Nodup ∧
    W.heap[r]? = some (.mapIter (some b) since seen c0) ∧ (leftOf m seen).size = cnt ∧ since ≤ c0 ∧ since ≤ c
theorem RangeSt.ltr {W : World} {b r : Nat} {es : List (ByteArray × Value)} {cnt : Nat} (h : RangeSt W b r es cnt) : r < W.heap.size := by obtain ⟨m, c, since, seen, c0, _, _, _, _, h, _⟩ := h; exact (Array.getElem?_eq_some_iff.1 h).1
theorem RangeSt.ltb {W : World} {b r : Nat} {es : List (ByteArray × Value)} {cnt : Nat} (h : RangeSt W b r es cnt) : b < W.heap.size := by obtain ⟨m, c, since, seen, c0, h, _⟩ := h; exact (Array.getElem?_eq_some_iff.1 h).1
theorem RangeSt.below {W W' : World} {b r : Nat} {es : List (ByteArray × Value)} {cnt : Nat} (h : RangeSt W b r es cnt) (hb : Below W.heap.size W W') : RangeSt W' b r es cnt := by
  have h1 := h.ltr
  have h2 := h.ltb
  obtain ⟨m, c, since, seen, c0, hm, hp, hs, hn, hr, rest⟩ := h
  exact ⟨m, c, since, seen, c0, (hb.block _ h2).trans hm, hp, hs, hn, (hb.block _ h1).trans hr, rest⟩
theorem RangeSt.left {W : World} {b r : Nat} {es : List (ByteArray × Value)} {cnt : Nat} (h : RangeSt W b r es cnt) : W.rangeLeft b r = cnt := by
  obtain ⟨m, c, since, seen, c0, hm, _, _, _, hr, hc, _⟩ := h
  simp only [World.rangeLeft, hm, hr]
  exact hc
theorem RangeSt.ne {W : World} {b r : Nat} {es : List (ByteArray × Value)} {cnt : Nat} (h : RangeSt W b r es cnt) : r ≠ b := by
  obtain ⟨m, c, since, seen, c0, hm, _, _, _, hr, _⟩ := h
  intro e
  rw [e, hm] at hr
  cases hr

section
variable {P : Program} (w : World) {ops : Array Oper} {rest : List Oper} {o : Oper} {a : Act} {Q : Exit → Act → World → Prop}
end
end Go.Proofs.YtmhkmliebhbkdaaGreat
