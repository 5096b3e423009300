import Derived.Test.YtmhkmliebhbkdaaGreatW13
import Derived.Test.YtmhkmliebhbkdaaGreatW14
import Derived.Laws.Rows
import Derived.Laws.Tables
import Derived.Test.YtmhkmliebhbkdaaGreatW01

/- The law's Few of a table: what its parts leave. -/
namespace Go.Proofs.YtmhkmliebhbkdaaGreat
open Go.RowKit Go.Lib

/-- A text, cut. -/
def cut20 (s : ByteArray) : ByteArray := if 20 < s.size then s.extract 0 20 else s
theorem cut20_size (s : ByteArray) : (cut20 s).size ≤ 20 := by
  unfold cut20
  split
  · rw [ByteArray.size_extract]; omega
  · omega
set_option maxRecDepth 100000 in
set_option maxHeartbeats 4000000 in
theorem text6_any (s : ByteArray) (hs : s.size ≤ maxLen) (w : World) : Calls Tryz.prog 47 #[.string s] w fun e w' => e = .returned (.string (cut20 s)) ∧ Below w.heap.size w w' := by
  unfold maxLen at hs
  unfold cut20
  by_cases h : 20 < s.size
  · have d1 : decide (20 < (s.size : Int)) = true := decide_eq_true (by omega)
    rw [if_pos h]
    go_enter Tryz.func47, Tryz.ntmps47
    go_wp2
    go_ret
    exact ⟨rfl, Below.refl _ _⟩
  · have d1 : decide (20 < (s.size : Int)) = false := decide_eq_false (by omega)
    rw [if_neg h]
    go_enter Tryz.func47, Tryz.ntmps47
    go_wp2
    go_ret
    exact ⟨rfl, Below.refl _ _⟩

/-- A new box of a table. -/
def newTb (u : Value) (F : List Nat) (w : World) : Prop := ∃ b, F = [b] ∧ u = .pointer (some ⟨b, 0, none⟩) ∧ w.heap[b]? = some (.cells #[.string ⟨#[]⟩, .slice none 0 0, .int .i64 0, .slice none 0 0, .slice none 0 0, .string ⟨#[]⟩, .int .i64 0, .int .i64 0, .string ⟨#[]⟩, .string ⟨#[]⟩, .slice none 0 0] 31 (0, 0))
theorem newTb_lasting : ∀ u F, Lasting (newTb u F) := by
  rintro u F w w' hb ⟨b, h1, h2, h3⟩
  exact ⟨b, h1, h2, (hb.block b (lt_of_block h3)).trans h3⟩
theorem newTb_at {v : Value} {b : Nat} {w : World} (h : newTb v [b] w) : w.heap[b]? = some (.cells #[.string ⟨#[]⟩, .slice none 0 0, .int .i64 0, .slice none 0 0, .slice none 0 0, .string ⟨#[]⟩, .int .i64 0, .int .i64 0, .string ⟨#[]⟩, .string ⟨#[]⟩, .slice none 0 0] 31 (0, 0)) := by
  obtain ⟨b', e, _, h⟩ := h
  obtain rfl : b = b' := by injection e
  exact h
theorem newTb_made {P : Program} {w : World} : Rel1 P newTb w (.ok (.value (.pointer (some ⟨w.heap.size, 0, none⟩))) (w.alloc (.cells #[.string ⟨#[]⟩, .slice none 0 0, .int .i64 0, .slice none 0 0, .slice none 0 0, .string ⟨#[]⟩, .int .i64 0, .int .i64 0, .string ⟨#[]⟩, .string ⟨#[]⟩, .slice none 0 0] 31))) :=
  ⟨[w.heap.size], ⟨_, rfl, rfl, alloc_at rfl _⟩, by simp, (Below.refl _ _).alloc (Nat.le_refl _) _⟩
/-- A new slice of one element of these cells. -/
def newSl (t : TypeId) (cs : Array Value) (u : Value) (F : List Nat) (w : World) : Prop := ∃ b, F = [b] ∧ u = .slice (some ⟨b, 0, none⟩) 1 1 ∧ w.heap[b]? = some (.cells cs t (0, 0))
theorem newSl_lasting {t : TypeId} {cs : Array Value} : ∀ u F, Lasting (newSl t cs u F) := by
  rintro u F w w' hb ⟨b, h1, h2, h3⟩
  exact ⟨b, h1, h2, (hb.block b (lt_of_block h3)).trans h3⟩
theorem newSl_at {t : TypeId} {cs : Array Value} {v : Value} {b : Nat} {w : World} (h : newSl t cs v [b] w) : w.heap[b]? = some (.cells cs t (0, 0)) := by
  obtain ⟨b', e, _, h⟩ := h
  obtain rfl : b = b' := by injection e
  exact h
theorem newSl_made {P : Program} {w : World} {t : TypeId} {cs : Array Value} : Rel1 P (newSl t cs) w (.ok (.value (.slice (some ⟨w.heap.size, 0, none⟩) 1 1)) (w.alloc (.cells cs t))) :=
  ⟨[w.heap.size], ⟨_, rfl, rfl, alloc_at rfl _⟩, by simp, (Below.refl _ _).alloc (Nat.le_refl _) _⟩
theorem newSl_cells {W : World} {b : Nat} {t : TypeId} {cs : Array Value} (h : W.heap[b]? = some (.cells cs t (0, 0))) : ∀ j u, cs.toList[j]? = some u → W.cell? ((⟨b, 0, none⟩ : Addr).add j) = some u := by
  intro j u hj
  rw [show (⟨b, 0, none⟩ : Addr).add j = ⟨b, j, none⟩ by unfold Addr.add; split <;> simp_all]
  rw [Lib.cell_of_heap h j]
  simpa using hj
/-- What Cols leaves. -/
def cols2Rl (v : Value) (F : List Nat) (w : World) : Prop := ∃ (A : Option Addr) (n c : Nat) (cs : List Cl), v = .slice A n c ∧ ColS w A n cs ∧ (∀ a, A = some a → n = 0 ∨ a.block ∈ F) ∧ n ≤ c ∧ ∀ x ∈ cs, x.n.size ≤ 20
theorem cols2Rl_lasting : ∀ u F, Lasting (cols2Rl u F) := by
  rintro u F w w' hb ⟨A, n, c, cs, h1, h2, h3⟩
  exact ⟨A, n, c, cs, h1, h2.below hb, h3⟩
theorem cols2Rl_enter {P : Program} {w : World} {f : FuncId} {args : Array Value} (h : Calls P f args w fun e w' => (∃ A' n' c' cs, e = .returned (.slice A' n' c') ∧ ColS w' A' n' cs ∧ (∀ a, A' = some a → w.heap.size ≤ a.block) ∧ n' ≤ c' ∧ ∀ x ∈ cs, x.n.size ≤ 20) ∧ Below w.heap.size w w') : Rel1 P cols2Rl w (.ok (.enter f args) w) :=
  Calls.mono h fun e w' ⟨⟨A, n, c, cs, h1, h2, h3, h4, h5⟩, hb⟩ =>
    ⟨_, since w w', h1, ⟨A, n, c, cs, rfl, h2, fun a e => (h2.in_ e).imp id fun h => mem_since.2 ⟨h3 a e, h⟩, h4, h5⟩, fun b hb => mem_since.1 hb, hb⟩
theorem cols2Rl_at {A : Option Addr} {n c : Nat} {F : List Nat} {w : World} (h : cols2Rl (.slice A n c) F w) : ∃ cs, ColS w A n cs ∧ (∀ a, A = some a → n = 0 ∨ a.block ∈ F) ∧ n ≤ c ∧ ∀ x ∈ cs, x.n.size ≤ 20 := by
  obtain ⟨A', n', c', cs, e, h1, h2⟩ := h
  injection e with e1 e2 e3
  subst e1 e2 e3
  exact ⟨cs, h1, h2⟩

def icells (l : List Int) : List Value := l.map fun x => .int .i64 x
theorem IntS.of_own {W : World} {B : Nat} {v : Value} {l : List Int} {n : Nat} (h : W.ownsRow B 3 1 v n (icells l)) : ∃ A cap, v = .slice A n cap ∧ IntS W A n l ∧ n ≤ cap ∧ ∀ a, A = some a → B ≤ a.block := by
  have hl : l.length = n := by have := h.1; simp only [icells, List.length_map] at this; omega
  rcases h.2 with ⟨rfl, h0⟩ | ⟨g, cap, cur, rfl, hB, hg, hc, hm, hs, ht⟩
  · subst h0
    exact ⟨none, 0, rfl, ⟨hl, by unfold maxLen; omega, fun j hj => absurd hj (by omega)⟩, by omega, fun a e => by cases e⟩
  · refine ⟨_, cap, rfl, ⟨hl, Nat.le_trans hc hm, fun j hj => ⟨_, rfl, ?_⟩⟩, hc, fun a e => by injection e with e; subst e; exact hB⟩
    rw [show (⟨g, 0, none⟩ : Addr).add (j * 1) = ⟨g, j, none⟩ by unfold Addr.add; split <;> simp_all]
    rw [h.cellAt j (by omega)]
    simp [icells, List.getElem?_eq_getElem hj]
def Rf.cells (x : Rf) : List Value := [.int .i64 x.c, .string x.t]
def rcells (l : List Rf) : List Value := l.flatMap Rf.cells
theorem rcells_len (l : List Rf) : (rcells l).length = l.length * 2 := by
  induction l with
  | nil => rfl
  | cons x l ih => simp only [rcells, List.flatMap_cons, List.length_append] at ih ⊢; rw [ih]; simp [Rf.cells]; omega
theorem rcells_snoc (l : List Rf) (x : Rf) : rcells (l ++ [x]) = rcells l ++ x.cells := by simp [rcells]
theorem rcells_at (l : List Rf) : ∀ j (h : j < l.length), (rcells l)[j * 2]? = some (.int .i64 l[j].c) ∧ (rcells l)[j * 2 + 1]? = some (.string l[j].t) := by
  induction l with
  | nil => intro j h; simp at h
  | cons x l ih =>
    intro j h
    cases j with
    | zero => simp [rcells, Rf.cells]
    | succ j =>
      have := ih j (by simpa using h)
      have e : rcells (x :: l) = x.cells ++ rcells l := by simp [rcells]
      have hl : x.cells.length = 2 := rfl
      rw [e]
      refine ⟨?_, ?_⟩
      · rw [List.getElem?_append_right (by rw [hl]; omega), hl, show (j + 1) * 2 - 2 = j * 2 by omega]; exact this.1
      · rw [List.getElem?_append_right (by rw [hl]; omega), hl, show (j + 1) * 2 + 1 - 2 = j * 2 + 1 by omega]; exact this.2
theorem RfS.of_own {W : World} {B : Nat} {v : Value} {l : List Rf} {n : Nat} (h : W.ownsRow B 80 2 v n (rcells l)) : ∃ A cap, v = .slice A n cap ∧ RfS W A n l ∧ n ≤ cap ∧ ∀ a, A = some a → B ≤ a.block := by
  have hl : l.length = n := by have := h.1; rw [rcells_len] at this; omega
  rcases h.2 with ⟨rfl, h0⟩ | ⟨g, cap, cur, rfl, hB, hg, hc, hm, hs, ht⟩
  · subst h0
    exact ⟨none, 0, rfl, ⟨hl, by unfold maxLen; omega, fun j hj => absurd hj (by omega)⟩, by omega, fun a e => by cases e⟩
  · refine ⟨_, cap, rfl, ⟨hl, Nat.le_trans hc hm, fun j hj => ⟨_, rfl, ?_⟩⟩, hc, fun a e => by injection e with e; subst e; exact hB⟩
    have hadd : (⟨g, 0, none⟩ : Addr).add (j * 2) = ⟨g, j * 2, none⟩ := by unfold Addr.add; split <;> simp_all
    obtain ⟨c0, c1⟩ := rcells_at l j hj
    rw [hadd]
    exact ⟨(h.cellAt (j * 2) (by omega)).trans c0, (h.cellAt (j * 2 + 1) (by omega)).trans c1⟩
theorem infoInt6 : (Tryz.prog.info? 3).map (fun i => (i.zero, i.size, i.bytes)) = some (some (.int .i64 0), 1, 8) := by kernel_rfl
theorem infoRf6 : (Tryz.prog.info? 80).map (fun i => (i.zero, i.size, i.bytes)) = some (some (.agg #[.int .i64 0, .string ⟨#[]⟩]), 2, 24) := by kernel_rfl
theorem tbSize : (Tryz.prog.info? 31).map (·.size) = some 11 := by kernel_rfl
theorem tb_one (nm : ByteArray) (A : Option Addr) (n c : Nat) (key : Int) (U : Option Addr) (m cu : Nat) (R : Option Addr) (p cr : Nat) (op : ByteArray) (k i : Int) (vs s : ByteArray) (B : Option Addr) (q d : Nat) : (#[.string nm, .slice A n c, .int .i64 key, .slice U m cu, .slice R p cr, .string op, .int .i64 k, .int .i64 i, .string vs, .string s, .slice B q d] : Array Value).all (·.oneCell') = true := by simp [Value.oneCell']
theorem any_set6 {W : World} {b : Nat} {cs : Array Value} {t : TypeId} (h : W.heap[b]? = some (.cells cs t (0, 0))) (i : Nat) (x : Value) : (W.setCell ⟨b, i, none⟩ x).heap[b]? = some (.cells (cs.setIfInBounds i x) t (0, 0)) := by
  have hlt := lt_of_block h
  have h' : W.heap[b] = .cells cs t (0, 0) := by simpa [Array.getElem?_eq_getElem hlt] using h
  show (W.heap.modify b _)[b]? = _
  rw [Array.getElem?_eq_getElem (by simpa using hlt), Array.getElem_modify_self, h']
  rfl
/-- A row that grew lies beyond w: what w had is as it was, but for block d. -/
theorem grow_own {w W W' : World} {d : Nat} {v : Value} (h : w.grownBy W (some d)) (hg : W.grownBy W' v.ownBlock) (hge : ∀ q, v.ownBlock = some q → w.heap.size ≤ q) : w.grownBy W' (some d) :=
  ⟨hg.os.trans h.os, hg.tape.trans h.tape, hg.output.trans h.output, Nat.le_trans h.size hg.size, fun q hq hr => (hg.block q (Nat.lt_of_lt_of_le hq h.size) (fun e => by have := hge q e.symm; omega)).trans (h.block q hq hr)⟩
theorem grow_setd {w W : World} {d o : Nat} {v : Value} (h : w.grownBy W (some d)) : w.grownBy (W.setCell ⟨d, o, none⟩ v) (some d) :=
  ⟨h.os, h.tape, h.output, by simpa [World.setCell] using h.size, fun k hk hn => (Below.heap_setCell _ _ _ _ (by show k ≠ d; intro e; exact hn (by rw [e]))).trans (h.block k hk hn)⟩
theorem own_geN {W : World} {b : Nat} {e : TypeId} {sz n : Nat} {v : Value} {xs : List Value} (h : W.ownsRow b e sz v n xs) : ∀ q, v.ownBlock = some q → b ≤ q := fun q hq => (h.lt q hq).1
theorem own_form {W : World} {b : Nat} {e : TypeId} {sz n : Nat} {v : Value} {xs : List Value} (h : W.ownsRow b e sz v n xs) : ∃ A c, v = .slice A n c := by
  rcases h.2 with ⟨rfl, rfl⟩ | ⟨g, cap, cur, rfl, _⟩
  · exact ⟨_, _, rfl⟩
  · exact ⟨_, _, rfl⟩
theorem RfS.same {W W' : World} {A : Option Addr} {n : Nat} {l : List Rf} (h : RfS W A n l) (hk : ∀ a, A = some a → W'.heap[a.block]? = W.heap[a.block]?) : RfS W' A n l :=
  ⟨h.1, h.2.1, fun j hj => by obtain ⟨a, e, hc⟩ := h.2.2 j hj; exact ⟨a, e, hc.keep (by rw [add_block]; exact hk a e)⟩⟩
theorem IntS.same {W W' : World} {A : Option Addr} {n : Nat} {l : List Int} (h : IntS W A n l) (hk : ∀ a, A = some a → W'.heap[a.block]? = W.heap[a.block]?) : IntS W' A n l :=
  ⟨h.1, h.2.1, fun j hj => by obtain ⟨a, e, hc⟩ := h.2.2 j hj; exact ⟨a, e, (World.cell?_of_block (w := W) (a := a.add (j * 1)) (by rw [add_block]; exact hk a e)).trans hc⟩⟩
end Go.Proofs.YtmhkmliebhbkdaaGreat

/- A region whose order Go leaves open, with two loads that may come behind its first store: DetB, as DetA, but the last few may come up beside them; and operations that hand on what another one has made. No program stands in it. -/
namespace Go.Proofs.YtmhkmliebhbkdaaGreat
open Go.RowKit

inductive TellM where
  | val (v : Value)
  | rel (R : Value → List Nat → World → Prop)
  | pure

/-- Number i comes to this value, said ahead or read off the slots. -/
def Told (P : Program) (vals : List TellM) (i : Nat) (oi : Oper) (a : Act) (v : Value) : Prop :=
  vals[i]? = some (.val v) ∨ (vals[i]? = some .pure ∧ ∀ w, (execOp a.eval oi).run P w = .ok (.value v) w)

theorem Told.one {P : Program} {vals : List TellM} {i : Nat} {oi : Oper} {a : Act} {v v' : Value} (h : Told P vals i oi a v) (w : World) (h' : Told P vals i oi a v') : v = v' := by
  rcases h with h | ⟨h, r⟩ <;> rcases h' with h' | ⟨h', r'⟩
  · rw [h] at h'; injection h' with e; injection e
  · rw [h] at h'; injection h' with e; cases e
  · rw [h] at h'; injection h' with e; cases e
  · have := (r w).symm.trans (r' w)
    injection this with e _
    injection e
theorem Told.not {P : Program} {vals : List TellM} {i : Nat} {oi : Oper} {a : Act} {v : Value} {R : Value → List Nat → World → Prop} (h : Told P vals i oi a v) (h' : vals[i]? = some (.rel R)) : False := by
  rcases h with h | ⟨h, _⟩ <;> (rw [h] at h'; injection h' with e; cases e)
theorem Told.of_same {P : Program} {vals : List TellM} {i : Nat} {oi : Oper} {a a' : Act} {v : Value} (h : Told P vals i oi a v) (he : execOp a'.eval oi = execOp a.eval oi) : Told P vals i oi a' v :=
  h.imp id fun ⟨h1, h2⟩ => ⟨h1, fun w => by rw [he]; exact h2 w⟩

def DetB (P : Program) (md : Region.Mode) (ops : Array Oper) (Q : Exit → Act → World → Prop) (w0 : World) (K : Nat) (vals : List TellM) : Nat → Array Bool → Act → List Ent → Prop
  | 0, listed, a, env => (∀ j ∈ Region.ready md ops listed, K ≤ j) ∧ ∀ w, Env w0 env w → wpAny P md ops Q 0 listed a w
  | n + 1, listed, a, env =>
    ((∀ j ∈ Region.ready md ops listed, j < K → ∃ oj v, ops[j]? = some oj ∧ Told P vals j oj a v ∧ YieldsD P md ops w0 env oj v a ∧ DetB P md ops Q w0 K vals n (listed.setIfInBounds j true) (a.put oj.dst v) env) ∧ ∀ w, Env w0 env w → wpAny P md ops Q (n + 1) listed a w) ∨
    (Region.ready md ops listed ≠ [] ∧ ∀ i ∈ Region.ready md ops listed, i < K ∧ ∃ oi, ops[i]? = some oi ∧
      ((∃ v, Told P vals i oi a v ∧ YieldsD P md ops w0 env oi v a ∧ DetB P md ops Q w0 K vals n (listed.setIfInBounds i true) (a.put oi.dst v) env) ∨
       (∃ R, vals[i]? = some (.rel R) ∧ YieldsR P md ops w0 env oi R a ∧ ∀ v F, (∃ w, Env w0 (⟨i, F, R v F⟩ :: env) w) → DetB P md ops Q w0 K vals n (listed.setIfInBounds i true) (a.put oi.dst v) (⟨i, F, R v F⟩ :: env))))

section
variable {P : Program} {md : Region.Mode} {ops : Array Oper} {Q : Exit → Act → World → Prop} {w0 : World} {K : Nat} {vals : List TellM}

theorem DetB.perm : ∀ (n : Nat) (listed : Array Bool) (a : Act) (env env' : List Ent), env.Perm env' → DetB P md ops Q w0 K vals n listed a env → DetB P md ops Q w0 K vals n listed a env'
  | 0, _, _, _, _, he, h => ⟨h.1, fun w hw => h.2 w (hw.perm he.symm)⟩
  | n + 1, listed, a, env, env', he, h => by
    rcases h with h | ⟨hne, h⟩
    · exact .inl ⟨fun j hj hjK => by
        obtain ⟨oj, v, h1, h2, h3, h4⟩ := h.1 j hj hjK
        exact ⟨oj, v, h1, h2, h3.perm he, DetB.perm n _ _ _ _ he h4⟩, fun w hw => h.2 w (hw.perm he.symm)⟩
    · refine .inr ⟨hne, fun i hi => ?_⟩
      obtain ⟨hK, oi, hoi, ⟨v, hv, hy, h⟩ | ⟨R, hv, hy, h⟩⟩ := h i hi
      · exact ⟨hK, oi, hoi, .inl ⟨v, hv, hy.perm he, DetB.perm n _ _ _ _ he h⟩⟩
      · exact ⟨hK, oi, hoi, .inr ⟨R, hv, hy.perm he, fun v F ⟨w, hw⟩ => DetB.perm n _ _ _ _ (he.cons _) (h v F ⟨w, hw.perm (he.cons _).symm⟩)⟩⟩

theorem DetB.sound : ∀ (n : Nat) (listed : Array Bool) (a : Act) (env : List Ent), DetB P md ops Q w0 K vals n listed a env → ∀ w, Env w0 env w → wpAny P md ops Q n listed a w
  | 0, _, _, _, h, w, hw => h.2 w hw
  | n + 1, listed, a, env, h, w, hw => by
    rcases h with h | ⟨hne, h⟩
    · exact h.2 w hw
    · refine ⟨fun h0 => absurd h0 hne, fun i hi => ?_⟩
      obtain ⟨_, oi, hoi, ⟨v, hv, hy, h⟩ | ⟨R, hv, hy, h⟩⟩ := h i hi
      · exact wpOp_det hoi hy hw fun w' hb => DetB.sound n _ _ _ h w' (hw.step hb)
      · exact wpOp_rel hoi hy hw fun v F w' hw' => DetB.sound n _ _ _ (h v F ⟨w', hw'⟩) w' hw'

/-- 'i' may come up and is free: it may be taken first. -/
theorem DetB.first {i : Nat} {oi : Oper} (hi : ops[i]? = some oi) (hs : Region.noSelect ops = true) (hK : i < K) :
    ∀ (n : Nat) (listed : Array Bool) (a : Act) (env : List Ent), (∃ w, Env w0 env w) → Closed md ops listed → freeK md ops K listed i = true → i ∈ Region.ready md ops listed →
      ((∃ v, Told P vals i oi a v ∧ YieldsD P md ops w0 env oi v a ∧ DetB P md ops Q w0 K vals n (listed.setIfInBounds i true) (a.put oi.dst v) env) ∨
       (∃ R, vals[i]? = some (.rel R) ∧ YieldsR P md ops w0 env oi R a ∧ ∀ v F, (∃ w, Env w0 (⟨i, F, R v F⟩ :: env) w) → DetB P md ops Q w0 K vals n (listed.setIfInBounds i true) (a.put oi.dst v) (⟨i, F, R v F⟩ :: env))) →
      DetB P md ops Q w0 K vals (n + 1) listed a env := by
  intro n
  induction n with
  | zero =>
    intro listed a env hw hcl hf hr H
    refine .inr ⟨List.ne_nil_of_mem hr, fun j hj => ?_⟩
    by_cases hji : j = i
    · subst hji; exact ⟨hK, oi, hi, H⟩
    · exfalso
      obtain ⟨hjun, oj, hoj, hall⟩ := mem_ready.1 hj
      have hno : waitsB md ops 6 j i = false := by
        cases hwt : waitsB md ops 6 j i with
        | false => rfl
        | true =>
          obtain ⟨hiun, _⟩ := mem_ready.1 hr
          have := waitsB_spec hcl 6 j i oj hoj hall hwt
          rw [getD_false_true hiun] at this
          cases this
      have hfree := freeK_spec hi hf hoj hji hjun hno
      have hj' := ready_mono hj hji
      have hleaf : ∀ t ∈ Region.ready md ops (listed.setIfInBounds i true), K ≤ t := by
        rcases H with ⟨v, _, _, h⟩ | ⟨R, _, hy, h⟩
        · exact h.1
        · obtain ⟨w, hw⟩ := hw
          obtain ⟨v, F, w', hw'⟩ := hy.some i hw
          exact (h v F ⟨w', hw'⟩).1
      have := hleaf j hj'
      omega
  | succ n ih =>
    intro listed a env hwx hcl hf hr H
    refine .inr ⟨List.ne_nil_of_mem hr, fun j hj => ?_⟩
    by_cases hji : j = i
    · subst hji; exact ⟨hK, oi, hi, H⟩
    · obtain ⟨hjun, oj, hoj, hall⟩ := mem_ready.1 hj
      obtain ⟨hiun, _⟩ := mem_ready.1 hr
      have hno : waitsB md ops 6 j i = false := by
        cases hwt : waitsB md ops 6 j i with
        | false => rfl
        | true =>
          have := waitsB_spec hcl 6 j i oj hoj hall hwt
          rw [getD_false_true hiun] at this
          cases this
      obtain ⟨hap, hjK⟩ := freeK_spec hi hf hoj hji hjun hno
      have hj' := ready_mono hj hji
      have hi' : i ∈ Region.ready md ops (listed.setIfInBounds j true) := ready_mono hr (Ne.symm hji)
      have hf' := freeK_mono (j := j) hf
      have hcl' := hcl.set hj
      obtain ⟨h1, h2, h3⟩ := Oper.apart_spec hap
      have hsi := noSel hs hi
      have hsj := noSel hs hoj
      refine ⟨hjK, oj, hoj, ?_⟩
      -- what the state behind 'i' says of 'j', whatever 'i' has left
      have look : ∀ (x : Value) (env' : List Ent), env'.filter (depB md oj) = env.filter (depB md oj) → DetB P md ops Q w0 K vals (n + 1) (listed.setIfInBounds i true) (a.put oi.dst x) env' →
          ((∃ u, Told P vals j oj a u ∧ YieldsD P md ops w0 env oj u a ∧ DetB P md ops Q w0 K vals n ((listed.setIfInBounds j true).setIfInBounds i true) ((a.put oj.dst u).put oi.dst x) env') ∨
           (∃ R, vals[j]? = some (.rel R) ∧ YieldsR P md ops w0 env oj R a ∧ ∀ u G, (∃ w, Env w0 (⟨j, G, R u G⟩ :: env') w) → DetB P md ops Q w0 K vals n ((listed.setIfInBounds j true).setIfInBounds i true) ((a.put oj.dst u).put oi.dst x) (⟨j, G, R u G⟩ :: env'))) := by
        intro x env' henv h
        have he := execOp_put oj hsj a oi.dst x h1
        have hw := wanted_put oj a oi.dst x h1
        rcases h with h | ⟨_, h⟩
        · obtain ⟨oj', u, hoj', hu, hy, h⟩ := h.1 j hj' hjK
          obtain rfl : oj' = oj := Option.some.inj (hoj'.symm.trans hoj)
          refine .inl ⟨u, hu.of_same he.symm, hy.of_same he.symm hw.symm henv.symm, ?_⟩
          rw [← listed_comm listed i j hji, ← Act.put_comm a x u h2]; exact h
        · obtain ⟨_, oj', hoj', h⟩ := h j hj'
          obtain rfl : oj' = oj := Option.some.inj (hoj'.symm.trans hoj)
          rcases h with ⟨u, hu, hy, h⟩ | ⟨R, ho, hy, h⟩
          · refine .inl ⟨u, hu.of_same he.symm, hy.of_same he.symm hw.symm henv.symm, ?_⟩
            rw [← listed_comm listed i j hji, ← Act.put_comm a x u h2]; exact h
          · refine .inr ⟨R, ho, hy.of_same he.symm hw.symm henv.symm, fun u G hG => ?_⟩
            rw [← listed_comm listed i j hji, ← Act.put_comm a x _ h2]; exact h u G hG
      have keepE : ∀ u, execOp (a.put oj.dst u).eval oi = execOp a.eval oi := fun u => execOp_put oi hsi a oj.dst u h3
      have keepW : ∀ u, Region.wanted oi (yielded ops (a.put oj.dst u).tmps) = Region.wanted oi (yielded ops a.tmps) := fun u => wanted_put oi a oj.dst u h3
      have keepF : ∀ (G : List Nat) (p : World → Prop), (⟨j, G, p⟩ :: env : List Ent).filter (depB md oi) = env.filter (depB md oi) := fun G p => dep_not hi hr hjun G p env
      have keepG : ∀ (F : List Nat) (p : World → Prop), (⟨i, F, p⟩ :: env : List Ent).filter (depB md oj) = env.filter (depB md oj) := fun F p => dep_not hoj hj hiun F p env
      rcases H with ⟨v, hv, hy, H⟩ | ⟨R, hv, hy, H⟩
      · rcases look v env rfl H with ⟨u, hu, hyj, h⟩ | ⟨Rj, hu, hyj, h⟩
        · exact .inl ⟨u, hu, hyj, ih _ _ _ hwx hcl' hf' hi' (.inl ⟨v, hv.of_same (keepE u), hy.of_same (keepE u) (keepW u) rfl, h⟩)⟩
        · exact .inr ⟨Rj, hu, hyj, fun u G hG => ih _ _ _ hG hcl' hf' hi' (.inl ⟨v, hv.of_same (keepE _), hy.of_same (keepE _) (keepW _) (keepF _ _), h u G hG⟩)⟩
      · obtain ⟨wx, hwx'⟩ := hwx
        obtain ⟨v0, F0, w', hw0⟩ := hy.some i hwx'
        rcases look _ _ (keepG _ _) (H v0 F0 ⟨w', hw0⟩) with ⟨u, hu, hyj, _⟩ | ⟨Rj, hu, hyj, _⟩
        · refine .inl ⟨u, hu, hyj, ih _ _ _ ⟨wx, hwx'⟩ hcl' hf' hi' (.inr ⟨R, hv, hy.of_same (keepE u) (keepW u) rfl, fun v F hF => ?_⟩)⟩
          rcases look _ _ (keepG _ _) (H v F hF) with ⟨u', hu', _, h⟩ | ⟨Rj, hu', _, _⟩
          · obtain rfl : u' = u := hu'.one wx hu
            exact h
          · exact (hu.not hu').elim
        · refine .inr ⟨Rj, hu, hyj, fun u G hG => ih _ _ _ hG hcl' hf' hi' (.inr ⟨R, hv, hy.of_same (keepE _) (keepW _) (keepF _ _), fun v F hF => ?_⟩)⟩
          obtain ⟨w2, hw2⟩ := hF
          rcases look _ _ (keepG _ _) (H v F ⟨w2, hw2.swap.tail⟩) with ⟨u', hu', _, _⟩ | ⟨Rj', hu', _, h⟩
          · exact (hu'.not hu).elim
          · obtain rfl : Rj' = Rj := by rw [hu] at hu'; injection hu' with e; injection e with e; exact e.symm
            exact DetB.perm n _ _ _ _ (List.Perm.swap _ _ _) (h u G ⟨w2, hw2.swap⟩)

/-- Which have come up. -/
def mark (n : Nat) (l : List Nat) : Array Bool := l.foldr (fun i L => L.setIfInBounds i true) (Array.replicate n false)

def okM (ops : Array Oper) (K : Nat) (l : List Nat) (i : Nat) : Bool :=
  closedB .any ops (mark ops.size l) && Region.noSelect ops && decide (i < K) && freeK .any ops K (mark ops.size l) i && (Region.ready .any ops (mark ops.size l)).contains i

/-- The walk in an order of one's own: l have come up, the last one first. -/
def DetM (P : Program) (ops : Array Oper) (Q : Exit → Act → World → Prop) (w0 : World) (K : Nat) (vals : List TellM) (n : Nat) (l : List Nat) (a : Act) (env : List Ent) : Prop :=
  (∃ w, Env w0 env w) → DetB P .any ops Q w0 K vals n (mark ops.size l) a env

theorem detM_begin {id : Nat} {a : Act} {w : World} (vals : List TellM) (K n : Nat) (hn : (n == ops.size) = true) (hm : P.follows .mixedOrders = true)
    (h : DetM P ops Q w.drew K vals n [] a []) : (Code.region id ops true).wp P Q a w := by
  obtain rfl : n = ops.size := by simpa using hn
  have h0 : Env w.drew [] w.drew := ⟨Below.refl _ _, (fun p hp => by cases hp), List.Pairwise.nil⟩
  exact wp_region_any hm (DetB.sound _ _ _ _ (h ⟨_, h0⟩) _ h0)

theorem detM_val (i : Nat) {oi : Oper} {v : Value} {n : Nat} {l : List Nat} {a : Act} {env : List Ent} (hok : okM ops K l i = true) (hi : ops[i]? = some oi) (hv : vals[i]? = some (.val v)) (hy : YieldsD P .any ops w0 env oi v a)
    (h : DetM P ops Q w0 K vals n (i :: l) (a.put oi.dst v) env) : DetM P ops Q w0 K vals (n + 1) l a env := by
  intro hw
  simp only [okM, Bool.and_eq_true] at hok
  obtain ⟨⟨⟨⟨q0, q1⟩, q2⟩, q3⟩, q4⟩ := hok
  exact DetB.first hi q1 (of_decide_eq_true q2) n _ a env hw (closedB_spec q0) q3 (by simpa using q4) (.inl ⟨v, .inl hv, hy, h hw⟩)
theorem detM_pure (i : Nat) {oi : Oper} (v : Value) {n : Nat} {l : List Nat} {a : Act} {env : List Ent} (hok : okM ops K l i = true) (hi : ops[i]? = some oi) (hv : vals[i]? = some .pure) (hg : Region.wanted oi (yielded ops a.tmps) = true) (hy : ∀ w, (execOp a.eval oi).run P w = .ok (.value v) w)
    (h : DetM P ops Q w0 K vals n (i :: l) (a.put oi.dst v) env) : DetM P ops Q w0 K vals (n + 1) l a env := by
  intro hw
  simp only [okM, Bool.and_eq_true] at hok
  obtain ⟨⟨⟨⟨q0, q1⟩, q2⟩, q3⟩, q4⟩ := hok
  exact DetB.first hi q1 (of_decide_eq_true q2) n _ a env hw (closedB_spec q0) q3 (by simpa using q4) (.inl ⟨v, .inr ⟨hv, hy⟩, yields_of hg (fun w _ => by rw [hy]; exact Det1_same), h hw⟩)
theorem detM_rel (i : Nat) {oi : Oper} {R : Value → List Nat → World → Prop} {n : Nat} {l : List Nat} {a : Act} {env : List Ent} (hok : okM ops K l i = true) (hi : ops[i]? = some oi) (hv : vals[i]? = some (.rel R)) (hy : YieldsR P .any ops w0 env oi R a)
    (h : ∀ v F w, Env w0 (⟨i, F, R v F⟩ :: env) w → DetM P ops Q w0 K vals n (i :: l) (a.put oi.dst v) (⟨i, F, R v F⟩ :: env)) : DetM P ops Q w0 K vals (n + 1) l a env := by
  intro hw
  simp only [okM, Bool.and_eq_true] at hok
  obtain ⟨⟨⟨⟨q0, q1⟩, q2⟩, q3⟩, q4⟩ := hok
  exact DetB.first hi q1 (of_decide_eq_true q2) n _ a env hw (closedB_spec q0) q3 (by simpa using q4) (.inr ⟨R, hv, hy, fun v F hF => h v F _ hF.choose_spec hF⟩)

theorem wpOps_picked : ∀ (r : List Nat) (os : List Oper), r.map (ops[·]?) = os.map some → wpOps P ops Q r = wpList P ops Q os
  | [], [], _ => by funext a w; simp [wpOps, wpList]
  | [], _ :: _, h => by simp at h
  | _ :: _, [], h => by simp at h
  | i :: r, o :: os, h => by
    simp only [List.map_cons, List.cons.injEq] at h
    funext a w
    simp only [wpOps, h.1, wpList, wpOps_picked r os h.2]
/-- The last few come up in one order, which need not be that of their numbers. -/
def okRest (ops : Array Oper) (K : Nat) (l r : List Nat) (n : Nat) : Bool :=
  (Region.ready .any ops (mark ops.size l)).all (fun j => decide (K ≤ j)) && chainFrom .any ops r (mark ops.size l) && decide (r.length ≤ n)
theorem detM_tail (r : List Nat) (os : List Oper) {n : Nat} {l : List Nat} {a : Act} {env : List Ent} (hok : okRest ops K l r n = true) (hos : r.map (ops[·]?) = os.map some) (h : ∀ w, Env w0 env w → wpList P ops Q os a w) : DetM P ops Q w0 K vals n l a env := by
  intro _
  simp only [okRest, Bool.and_eq_true] at hok
  obtain ⟨⟨q1, q2⟩, q3⟩ := hok
  have h' : ∀ w, Env w0 env w → wpAny P .any ops Q n (mark ops.size l) a w := fun w hw => wpAny_chain r n _ a w q2 (by simpa using q3) (by rw [wpOps_picked r os hos]; exact h w hw)
  have hK : ∀ j ∈ Region.ready .any ops (mark ops.size l), K ≤ j := fun j hj => by simpa using List.all_eq_true.1 q1 j hj
  cases n with
  | zero => exact ⟨hK, h'⟩
  | succ n => exact .inl ⟨fun j hj hjK => absurd (hK j hj) (by omega), h'⟩
end
end Go.Proofs.YtmhkmliebhbkdaaGreat
