import Derived.Test.YtchebhdndkaheaaGreatDoorW23
import Derived.ChangeMaps5

/- The law SchemaChecks: what its first row leaves. -/
namespace Go.Proofs.YtchebhdndkaheaaGreatDoor
open Go.RowKit Go.Lib

def tbRl (B0 : Nat) (v : Value) (F : List Nat) (w : World) : Prop := F = [] ∧ TbR w B0 v
theorem tbRl_lasting {B0 : Nat} : ∀ u F, Lasting (tbRl B0 u F) := by
  rintro u F w w' hb ⟨h0, nm, A, n, c, key, U, m, cu, R, p, cr, op, k, i, vs, s, B, q, d, cols, us, rs, l, h1, h2, h3⟩
  exact ⟨h0, nm, A, n, c, key, U, m, cu, R, p, cr, op, k, i, vs, s, B, q, d, cols, us, rs, l, h1, h2.below hb, h3⟩
theorem TbR.less {W : World} {B B' : Nat} {v : Value} (h : TbR W B v) (hb : B' ≤ B) : TbR W B' v := by
  obtain ⟨nm, A, n, c, key, U, m, cu, R, p, cr, op, k, i, vs, s, B9, q, d, cols, us, rs, l, h1, h2, f1, f2, f3⟩ := h
  exact ⟨nm, A, n, c, key, U, m, cu, R, p, cr, op, k, i, vs, s, B9, q, d, cols, us, rs, l, h1, ⟨h2.hcols, h2.cap, h2.hus, h2.hrs, h2.chk.keep (fun _ _ _ => rfl) (fun b hb' _ => Nat.le_trans hb hb'), h2.len, h2.hnm, h2.nc, h2.nr⟩, fun a e => (f1 a e).imp id (Nat.le_trans hb), fun a e => (f2 a e).imp id (Nat.le_trans hb), fun a e => (f3 a e).imp id (Nat.le_trans hb)⟩
theorem tbRl_enter {P : Program} {w : World} {f : FuncId} {args : Array Value} {B0 : Nat} (h : Calls P f args w fun e w' => (∃ v, e = .returned v ∧ TbR w' w.heap.size v) ∧ Below w.heap.size w w') (hb0 : B0 ≤ w.heap.size) : Rel1 P (tbRl B0) w (.ok (.enter f args) w) :=
  Calls.mono h fun e w' ⟨⟨v, h1, h2⟩, hb⟩ => ⟨v, [], h1, ⟨rfl, h2.less hb0⟩, (fun b hb' => by cases hb'), hb⟩
theorem tbR_at {W : World} {B0 : Nat} {nm' : ByteArray} {A' : Option Addr} {n' c' : Nat} {key' : Int} {U' : Option Addr} {m' cu' : Nat} {R' : Option Addr} {p' cr' : Nat} {op' : ByteArray} {k' i' : Int} {vs' s' : ByteArray} {B' : Option Addr} {q' d' : Nat} (h : TbR W B0 (.agg #[.string nm', .slice A' n' c', .int .i64 key', .slice U' m' cu', .slice R' p' cr', .string op', .int .i64 k', .int .i64 i', .string vs', .string s', .slice B' q' d'])) : ∃ (cols' : List Cl) (us' : List Int) (rs' : List Rf) (l' : List Ex), TbS W nm' A' n' c' key' U' m' cu' R' p' cr' op' k' i' vs' s' B' q' d' cols' us' rs' l' (fun b => B0 ≤ b) 14 ∧ (∀ a, A' = some a → n' = 0 ∨ B0 ≤ a.block) ∧ (∀ a, U' = some a → m' = 0 ∨ B0 ≤ a.block) ∧ ∀ a, R' = some a → p' = 0 ∨ B0 ≤ a.block := by
  obtain ⟨nm, A, n, c, key, U, m, cu, R, p, cr, op, k, i, vs, s, B, q, d, cols, us, rs, l, h1, h2, f1, f2, f3⟩ := h
  injection h1 with e
  simp only [Array.mk.injEq, List.cons.injEq, Value.string.injEq, Value.int.injEq, Value.slice.injEq, true_and, and_true] at e
  obtain ⟨e1, ⟨e2, e3, e4⟩, e5, ⟨e6, e7, e8⟩, ⟨e9, e10, e11⟩, e12, e13, e14, e15, e16, e17, e18, e19⟩ := e
  subst e1 e2 e3 e4 e5 e6 e7 e8 e9 e10 e11 e12 e13 e14 e15 e16 e17 e18 e19
  exact ⟨cols, us, rs, l, h2, f1, f2, f3⟩
def vrRl (B0 : Nat) (row : List Vl) (v : Value) (F : List Nat) (w : World) : Prop := F = [] ∧ w.ownsRow B0 26 3 v row.length (cellsOf row)
theorem vrRl_lasting {B0 : Nat} {row : List Vl} : ∀ u F, Lasting (vrRl B0 row u F) := by
  rintro u F w w' hb ⟨h0, h⟩
  exact ⟨h0, h.kept (row := none) (grow_below hb none) (by cases h : u.ownBlock with | none => exact .inl rfl | some _ => exact .inr (by simp))⟩
theorem vrRl_enter {P : Program} {w : World} {f : FuncId} {args : Array Value} {B0 : Nat} {row : List Vl} (h : Calls P f args w fun e w' => ∃ v, e = .returned v ∧ w'.ownsRow w.heap.size 26 3 v row.length (cellsOf row) ∧ Below w.heap.size w w') (hb0 : B0 ≤ w.heap.size) : Rel1 P (vrRl B0 row) w (.ok (.enter f args) w) :=
  Calls.mono h fun e w' ⟨v, h1, h2, hb⟩ => ⟨v, [], h1, ⟨rfl, own_mono6 h2 hb0⟩, (fun b hb' => by cases hb'), hb⟩
def exRl (B0 : Nat) (v : Value) (F : List Nat) (w : World) : Prop := F = [] ∧ ∃ (oe : ByteArray) (ke ie : Int) (ve se : ByteArray) (Be : Option Addr) (pe qe : Nat) (le : List Ex), v = .agg #[.string oe, .int .i64 ke, .int .i64 ie, .string ve, .string se, .slice Be pe qe] ∧ Tr w (fun b => B0 ≤ b) 14 (.mk oe ⟨ke, ie, ve⟩ se le) (.slice Be pe qe)
theorem exRl_lasting {B0 : Nat} : ∀ u F, Lasting (exRl B0 u F) := by
  rintro u F w w' hb ⟨h0, oe, ke, ie, ve, se, Be, pe, qe, le, h1, h2⟩
  exact ⟨h0, oe, ke, ie, ve, se, Be, pe, qe, le, h1, h2.below hb⟩
theorem exRl_enter {P : Program} {w : World} {f : FuncId} {args : Array Value} {B0 : Nat} (h : Calls P f args w fun e w' => (∃ t u, e = .returned (EVt t u) ∧ okT t ∧ Tr w' (fun b => w.heap.size ≤ b) 14 t u) ∧ Below w.heap.size w w') (hb0 : B0 ≤ w.heap.size) : Rel1 P (exRl B0) w (.ok (.enter f args) w) :=
  Calls.mono h fun e w' ⟨⟨t, u, h1, _, h3⟩, hb⟩ => by
    obtain ⟨B, q, rfl, _⟩ := h3.form
    cases t with
    | mk oe x se le =>
      cases x with
      | mk ke ie ve => exact ⟨_, [], h1, ⟨rfl, oe, ke, ie, ve, se, B, _, q, le, rfl, h3.keep (fun _ _ _ => rfl) (fun b hb' _ => Nat.le_trans hb0 hb')⟩, (fun b hb' => by cases hb'), hb⟩
theorem exR_at {W : World} {B0 : Nat} {F : List Nat} {oe : ByteArray} {ke ie : Int} {ve se : ByteArray} {Be : Option Addr} {pe qe : Nat} (h : exRl B0 (.agg #[.string oe, .int .i64 ke, .int .i64 ie, .string ve, .string se, .slice Be pe qe]) F W) : ∃ le, Tr W (fun b => B0 ≤ b) 14 (.mk oe ⟨ke, ie, ve⟩ se le) (.slice Be pe qe) ∧ le.length = pe := by
  obtain ⟨_, oe', ke', ie', ve', se', Be', pe', qe', le, h1, h2⟩ := h
  injection h1 with e
  simp only [Array.mk.injEq, List.cons.injEq, Value.string.injEq, Value.int.injEq, Value.slice.injEq, true_and, and_true] at e
  obtain ⟨e1, e2, e3, e4, e5, e6, e7, e8⟩ := e
  subst e1 e2 e3 e4 e5 e6 e7 e8
  obtain ⟨B9, q9, e9, _⟩ := h2.form
  injection e9 with _ e92 _
  exact ⟨le, h2, e92.symm⟩
theorem exSize6 : (Tryz.prog.info? 29).map (·.size) = some 6 := by kernel_rfl
theorem ex_one (oe : ByteArray) (ke ie : Int) (ve se : ByteArray) (Be : Option Addr) (pe qe : Nat) : (#[.string oe, .int .i64 ke, .int .i64 ie, .string ve, .string se, .slice Be pe qe] : Array Value).all (·.oneCell') = true := by simp [Value.oneCell']
theorem TbS.away {W W' : World} {nm : ByteArray} {A : Option Addr} {n c : Nat} {key : Int} {U : Option Addr} {m cu : Nat} {R : Option Addr} {p cr : Nat} {op : ByteArray} {k i : Int} {vs s : ByteArray} {B : Option Addr} {q d : Nat} {cols : List Cl} {us : List Int} {rs : List Rf} {l : List Ex} {B1 N : Nat} (h : TbS W nm A n c key U m cu R p cr op k i vs s B q d cols us rs l (fun b => B1 ≤ b) N) (h1 : ∀ a, A = some a → n = 0 ∨ B1 ≤ a.block) (h2 : ∀ a, U = some a → m = 0 ∨ B1 ≤ a.block) (h3 : ∀ a, R = some a → p = 0 ∨ B1 ≤ a.block) (f : ∀ b, B1 ≤ b → W'.heap[b]? = W.heap[b]?) : TbS W' nm A n c key U m cu R p cr op k i vs s B q d cols us rs l (fun b => B1 ≤ b) N := by
  refine ⟨h.hcols.same fun a e => (h1 a e).imp id fun k => f _ k, h.cap, h.hus.same2 fun a e => (h2 a e).imp id fun k => f _ k, ⟨h.hrs.1, h.hrs.2.1, fun j hj => ?_⟩, h.chk.keep (fun b hb' _ => f b hb') (fun _ h _ => h), h.len, h.hnm, h.nc, h.nr⟩
  obtain ⟨a, e, hc⟩ := h.hrs.2.2 j hj
  rcases h3 a e with h0 | h0
  · have := h.hrs.1; omega
  · exact ⟨a, e, hc.keep (by rw [add_block]; exact f _ h0)⟩
theorem own_away {W W' : World} {B1 : Nat} {t : TypeId} {sz n : Nat} {v : Value} {xs : List Value} (h : W.ownsRow B1 t sz v n xs) (f : ∀ b, B1 ≤ b → W'.heap[b]? = W.heap[b]?) : W'.ownsRow B1 t sz v n xs :=
  ⟨h.1, h.2.imp id fun ⟨g, cap, cur, h1, h2, h3, h4⟩ => ⟨g, cap, cur, h1, h2, (f g h2).trans h3, h4⟩⟩
def put6 (W : World) (b : Nat) (a0 a1 a2 a3 a4 a5 : Value) : World := ((((((W.setCell ⟨b, 5, none⟩ a0).setCell ⟨b, 6, none⟩ a1).setCell ⟨b, 7, none⟩ a2).setCell ⟨b, 8, none⟩ a3).setCell ⟨b, 9, none⟩ a4).setCell ⟨b, 10, none⟩ a5)
theorem put6_heap {W : World} {b : Nat} {c0 c1 c2 c3 c4 c5 c6 c7 c8 c9 c10 : Value} {t : TypeId} (h : W.heap[b]? = some (.cells #[c0, c1, c2, c3, c4, c5, c6, c7, c8, c9, c10] t (0, 0))) (a0 a1 a2 a3 a4 a5 : Value) : (put6 W b a0 a1 a2 a3 a4 a5).heap[b]? = some (.cells #[c0, c1, c2, c3, c4, a0, a1, a2, a3, a4, a5] t (0, 0)) := by
  unfold put6
  exact any_set6 (any_set6 (any_set6 (any_set6 (any_set6 (any_set6 h 5 a0) 6 a1) 7 a2) 8 a3) 9 a4) 10 a5
theorem put6_other (W : World) (b : Nat) (a0 a1 a2 a3 a4 a5 : Value) {q : Nat} (hq : q ≠ b) : (put6 W b a0 a1 a2 a3 a4 a5).heap[q]? = W.heap[q]? := by
  unfold put6
  iterate 6 rw [Below.heap_setCell _ _ _ _ (by exact hq)]
theorem put6_below {w W : World} {B b : Nat} (h : Below B w W) (hb : B ≤ b) (a0 a1 a2 a3 a4 a5 : Value) : Below B w (put6 W b a0 a1 a2 a3 a4 a5) := by
  unfold put6
  exact (((((h.setCell hb _).setCell hb _).setCell hb _).setCell hb _).setCell hb _).setCell hb _
/-- The memory of what the law's first row leaves: blocks from B0 on. -/
structure Lm (B0 : Nat) (nm' : ByteArray) (A' : Option Addr) (n' c' : Nat) (key' : Int) (U' : Option Addr) (m' cu' : Nat) (R' : Option Addr) (p' cr' : Nat) (op' : ByteArray) (k' i' : Int) (vs' s' : ByteArray) (B' : Option Addr) (q' d' : Nat) (cols' : List Cl) (us' : List Int) (rs' : List Rf) (l' : List Ex) (oe : ByteArray) (ke ie : Int) (ve se : ByteArray) (Be : Option Addr) (pe qe : Nat) (le : List Ex) (D : Option Addr) (M cv' : Nat) (row' : List Vl) (W : World) : Prop where
  tb : TbS W nm' A' n' c' key' U' m' cu' R' p' cr' op' k' i' vs' s' B' q' d' cols' us' rs' l' (fun b => B0 ≤ b) 14
  f1 : ∀ a, A' = some a → n' = 0 ∨ B0 ≤ a.block
  f2 : ∀ a, U' = some a → m' = 0 ∨ B0 ≤ a.block
  f3 : ∀ a, R' = some a → p' = 0 ∨ B0 ≤ a.block
  tr : Tr W (fun b => B0 ≤ b) 14 (.mk oe ⟨ke, ie, ve⟩ se le) (.slice Be pe qe)
  len : le.length = pe
  own : W.ownsRow B0 26 3 (.slice D M cv') M (cellsOf row')
/-- What holds of the law's variables: the table, the expression, the row. -/
structure Lc (w : World) (X3 : Array Value) (B0 : Nat) (nm' : ByteArray) (A' : Option Addr) (n' c' : Nat) (key' : Int) (U' : Option Addr) (m' cu' : Nat) (R' : Option Addr) (p' cr' : Nat) (op' : ByteArray) (k' i' : Int) (vs' s' : ByteArray) (B' : Option Addr) (q' d' : Nat) (cols' : List Cl) (us' : List Int) (rs' : List Rf) (l' : List Ex) (oe : ByteArray) (ke ie : Int) (ve se : ByteArray) (Be : Option Addr) (pe qe : Nat) (le : List Ex) (D : Option Addr) (M cv' : Nat) (row' : List Vl) (W : World) : Prop where
  pl : Below w.heap.size w W
  b3 : W.heap[w.heap.size]? = some (.cells X3 31 (0, 0))
  b5 : W.heap[w.heap.size + 1]? = some (.cells #[.string oe, .int .i64 ke, .int .i64 ie, .string ve, .string se, .slice Be pe qe] 29 (0, 0))
  mem : Lm B0 nm' A' n' c' key' U' m' cu' R' p' cr' op' k' i' vs' s' B' q' d' cols' us' rs' l' oe ke ie ve se Be pe qe le D M cv' row' W
  lt : w.heap.size + 1 < B0
section
variable {w W W' : World} {X3 : Array Value} {B0 : Nat} {nm' : ByteArray} {A' : Option Addr} {n' c' : Nat} {key' : Int} {U' : Option Addr} {m' cu' : Nat} {R' : Option Addr} {p' cr' : Nat} {op' : ByteArray} {k' i' : Int} {vs' s' : ByteArray} {B' : Option Addr} {q' d' : Nat} {cols' : List Cl} {us' : List Int} {rs' : List Rf} {l' : List Ex} {oe : ByteArray} {ke ie : Int} {ve se : ByteArray} {Be : Option Addr} {pe qe : Nat} {le : List Ex} {D : Option Addr} {M cv' : Nat} {row' : List Vl}
theorem Lm.away (h : Lm B0 nm' A' n' c' key' U' m' cu' R' p' cr' op' k' i' vs' s' B' q' d' cols' us' rs' l' oe ke ie ve se Be pe qe le D M cv' row' W) (f : ∀ b, B0 ≤ b → W'.heap[b]? = W.heap[b]?) : Lm B0 nm' A' n' c' key' U' m' cu' R' p' cr' op' k' i' vs' s' B' q' d' cols' us' rs' l' oe ke ie ve se Be pe qe le D M cv' row' W' :=
  ⟨h.tb.away h.f1 h.f2 h.f3 f, h.f1, h.f2, h.f3, h.tr.keep (fun b hb _ => f b hb) (fun _ h _ => h), h.len, own_away h.own f⟩
theorem Lm.below (h : Lm B0 nm' A' n' c' key' U' m' cu' R' p' cr' op' k' i' vs' s' B' q' d' cols' us' rs' l' oe ke ie ve se Be pe qe le D M cv' row' W) (hb : Below W.heap.size W W') : Lm B0 nm' A' n' c' key' U' m' cu' R' p' cr' op' k' i' vs' s' B' q' d' cols' us' rs' l' oe ke ie ve se Be pe qe le D M cv' row' W' :=
  ⟨h.tb.below hb, h.f1, h.f2, h.f3, h.tr.below hb, h.len, h.own.kept (row := none) (grow_below hb none) (by cases h : (Value.slice D M cv').ownBlock with | none => exact .inl rfl | some _ => exact .inr (by simp))⟩
theorem Lm.vals (h : Lm B0 nm' A' n' c' key' U' m' cu' R' p' cr' op' k' i' vs' s' B' q' d' cols' us' rs' l' oe ke ie ve se Be pe qe le D M cv' row' W) : Vals W W.heap.size D M row' := by
  obtain ⟨A, cap, e, h1, _⟩ := Vals.of_own h.own
  injection e with e1 _ _
  subst e1
  exact h1
theorem Lm.zero (h : Lm B0 nm' A' n' c' key' U' m' cu' R' p' cr' op' k' i' vs' s' B' q' d' cols' us' rs' l' oe ke ie ve se Be pe qe le D M cv' row' W) : TbS W nm' A' n' c' key' U' m' cu' R' p' cr' ⟨#[]⟩ 0 0 ⟨#[]⟩ ⟨#[]⟩ none 0 0 cols' us' rs' [] (fun b => B0 ≤ b) 14 :=
  ⟨h.tb.hcols, h.tb.cap, h.tb.hus, h.tb.hrs, zT_tr W _ 14, rfl, h.tb.hnm, h.tb.nc, h.tb.nr⟩
theorem Lm.with_ (h : Lm B0 nm' A' n' c' key' U' m' cu' R' p' cr' op' k' i' vs' s' B' q' d' cols' us' rs' l' oe ke ie ve se Be pe qe le D M cv' row' W) : TbS W nm' A' n' c' key' U' m' cu' R' p' cr' oe ke ie ve se Be pe qe cols' us' rs' le (fun b => B0 ≤ b) 14 :=
  ⟨h.tb.hcols, h.tb.cap, h.tb.hus, h.tb.hrs, h.tr, h.len, h.tb.hnm, h.tb.nc, h.tb.nr⟩
theorem Lc.later (h : Lc w X3 B0 nm' A' n' c' key' U' m' cu' R' p' cr' op' k' i' vs' s' B' q' d' cols' us' rs' l' oe ke ie ve se Be pe qe le D M cv' row' W) (hb : Below W.heap.size W W') : Lc w X3 B0 nm' A' n' c' key' U' m' cu' R' p' cr' op' k' i' vs' s' B' q' d' cols' us' rs' l' oe ke ie ve se Be pe qe le D M cv' row' W' :=
  ⟨h.pl.trans (hb.mono h.pl.size), (hb.block _ (lt_of_block h.b3)).trans h.b3, (hb.block _ (lt_of_block h.b5)).trans h.b5, h.mem.below hb, h.lt⟩
theorem Lc.zero {c0 c1 c2 c3 c4 c5 c6 c7 c8 c9 c10 : Value} (h : Lc w #[c0, c1, c2, c3, c4, c5, c6, c7, c8, c9, c10] B0 nm' A' n' c' key' U' m' cu' R' p' cr' op' k' i' vs' s' B' q' d' cols' us' rs' l' oe ke ie ve se Be pe qe le D M cv' row' W) (a0 a1 a2 a3 a4 a5 : Value) : Lc w #[c0, c1, c2, c3, c4, a0, a1, a2, a3, a4, a5] B0 nm' A' n' c' key' U' m' cu' R' p' cr' op' k' i' vs' s' B' q' d' cols' us' rs' l' oe ke ie ve se Be pe qe le D M cv' row' (put6 W w.heap.size a0 a1 a2 a3 a4 a5) := by
  have hlt := h.lt
  exact ⟨put6_below h.pl (Nat.le_refl _) _ _ _ _ _ _, put6_heap h.b3 _ _ _ _ _ _, (put6_other _ _ _ _ _ _ _ _ (by omega)).trans h.b5, h.mem.away fun b hb => put6_other _ _ _ _ _ _ _ _ (by omega), hlt⟩
end
end Go.Proofs.YtchebhdndkaheaaGreatDoor

/- The law SchemaChecks: its walk. -/
namespace Go.Proofs.YtchebhdndkaheaaGreatDoor
open Go.RowKit Go.Lib

set_option maxRecDepth 100000 in
set_option maxHeartbeats 4000000 in
theorem law_schecks (nm : ByteArray) (A : Option Addr) (n c : Nat) (key : Int) (U : Option Addr) (m cu : Nat) (R : Option Addr) (p cr : Nat) (op : ByteArray) (k i : Int) (vs s : ByteArray) (B : Option Addr) (q d : Nat) (cols : List Cl) (us : List Int) (rs : List Rf) (D : Option Addr) (m2 cv : Nat) (row : List Vl) (op2 : ByteArray) (k2 i2 : Int) (vs2 s2 : ByteArray) (B2 : Option Addr) (q2 d2 : Nat) (w : World) (hl : LibE w) (ht : TyE w) (hT : TbIn w nm A n c key U m cu R p cr op k i vs s B q d cols us rs) (hm : m2 ≤ maxLen) (hv : Vals w w.heap.size D m2 row) (hvs : ∀ x ∈ row, x.s.size ≤ maxLen)
    (ho2 : op2.size ≤ maxLen) (hv2 : vs2.size ≤ maxLen) (hs2 : s2.size ≤ maxLen) (hi2 : In64 i2) (hu2 : InL w w.heap.size 14 (.slice B2 q2 d2)) :
    Calls Tryz.prog 3 #[.agg #[.string nm, .slice A n c, .int .i64 key, .slice U m cu, .slice R p cr, .string op, .int .i64 k, .int .i64 i, .string vs, .string s, .slice B q d], .slice D m2 cv, .agg #[.string op2, .int .i64 k2, .int .i64 i2, .string vs2, .string s2, .slice B2 q2 d2]] w fun e w' => e = .returned (.bool true) ∧ Below w.heap.size w w' := by
  have HT := Lib.hid hT
  have HA : Hid (∀ W, Below w.heap.size w W → Calls Tryz.prog 9 #[] W fun e w' => e = .returned (.bool true) ∧ Below W.heap.size W w') := Lib.hid fun W hb => awake6_any W (hl.keep hb (Nat.le_refl _)) (ht.keep hb (Nat.le_refl _))
  have HF2 : Hid (∀ W, Below w.heap.size w W → Calls Tryz.prog 6 #[.slice D m2 cv] W fun e w' => ∃ v, e = .returned v ∧ w'.ownsRow W.heap.size 26 3 v (fewL row).length (cellsOf (fewL row)) ∧ Below W.heap.size W w') := Lib.hid fun W hb => few2_any D m2 cv row W hm ((hv.keep hb).more hb.size) hvs
  have HF4 : Hid (∀ W, Below w.heap.size w W → Calls Tryz.prog 7 #[.agg #[.string op2, .int .i64 k2, .int .i64 i2, .string vs2, .string s2, .slice B2 q2 d2]] W fun e w' => (∃ t u, e = .returned (EVt t u) ∧ okT t ∧ Tr w' (fun b => W.heap.size ≤ b) 14 t u) ∧ Below W.heap.size W w') := Lib.hid fun W hb => few4_any op2 k2 i2 vs2 s2 _ W ho2 hv2 hs2 hi2 (InL.more hb.size (InL.keep hb hu2))
  clear hl ht hT hm hv hvs ho2 hv2 hs2 hi2 hu2
  go_enter Tryz.func3, Tryz.ntmps3
  go_upto_region 1 with (fail)
  refine wp_gen (fun W => Below w.heap.size w W ∧ W.heap[w.heap.size]? = some (.cells #[.string nm, .slice A n c, .int .i64 key, .slice U m cu, .slice R p cr, .string op, .int .i64 k, .int .i64 i, .string vs, .string s, .slice B q d] 31 (0, 0)) ∧ W.heap[w.heap.size + 1]? = some (.cells #[.string op2, .int .i64 k2, .int .i64 i2, .string vs2, .string s2, .slice B2 q2 d2] 29 (0, 0))) ⟨((Below.refl _ _).alloc (Nat.le_refl _) _).alloc (by simp) _, (Below.heap_alloc _ _ _ (by simp)).trans (alloc_at rfl _), alloc_at (by simp) _⟩ fun w0 hw0 => ?_
  have H0 := Lib.hid hw0
  have hz1 := lt_of_block hw0.2.2
  have hz0 : w.heap.size < w0.heap.size := by omega
  have g0 := Lib.cell_of_heap hw0.2.1 0
  have g1 := Lib.cell_of_heap hw0.2.1 1
  have g2 := Lib.cell_of_heap hw0.2.1 2
  have g3 := Lib.cell_of_heap hw0.2.1 3
  have g4 := Lib.cell_of_heap hw0.2.1 4
  have g5 := Lib.cell_of_heap hw0.2.1 5
  have g6 := Lib.cell_of_heap hw0.2.1 6
  have g7 := Lib.cell_of_heap hw0.2.1 7
  have g8 := Lib.cell_of_heap hw0.2.1 8
  have g9 := Lib.cell_of_heap hw0.2.1 9
  have g10 := Lib.cell_of_heap hw0.2.1 10
  simp only [List.getElem?_toArray, List.getElem?_cons_zero, List.getElem?_cons_succ] at g0 g1 g2 g3 g4 g5 g6 g7 g8 g9 g10
  have h0 := Lib.cell_of_heap hw0.2.2 0
  have h1 := Lib.cell_of_heap hw0.2.2 1
  have h2 := Lib.cell_of_heap hw0.2.2 2
  have h3 := Lib.cell_of_heap hw0.2.2 3
  have h4 := Lib.cell_of_heap hw0.2.2 4
  have h5 := Lib.cell_of_heap hw0.2.2 5
  simp only [List.getElem?_toArray, List.getElem?_cons_zero, List.getElem?_cons_succ] at h0 h1 h2 h3 h4 h5
  clear hw0
  refine detL_begin [.val (.agg #[.string nm, .slice A n c, .int .i64 key, .slice U m cu, .slice R p cr, .string op, .int .i64 k, .int .i64 i, .string vs, .string s, .slice B q d]), .rel (tbRl w0.heap.size), .val (.slice D m2 cv), .rel (vrRl w0.heap.size (fewL row)), .val (.agg #[.string op2, .int .i64 k2, .int .i64 i2, .string vs2, .string s2, .slice B2 q2 d2]), .rel (exRl w0.heap.size)] 6 (by kernel_rfl) ?_
  refine detL_val (by kernel_rfl) (yields_of rfl fun w5 hb5 => ?_) ?_
  · have hc5 := bcellD hb5
    have HBx := Lib.hid hb5
    clear hb5
    go_simp
    exact Det1_same
  simp only [Act.put, List.setIfInBounds_toArray, List.set_cons_zero, List.set_cons_succ]
  refine detL_rel (by kernel_rfl) (yields_rel (by rfl) tbRl_lasting fun w5 hw5 => ?_) ?_
  · have hb5 := hw5.below
    have hc5 := bcellD hb5
    have HBx := Lib.hid hb5
    clear hb5 hw5
    go_simp
    exact tbRl_enter (few6_any nm A n c key U m cu R p cr op k i vs s B q d cols us rs w5 (HT.out.at_ (H0.out.1.trans ((show Below w0.heap.size w0 w5 from (Below.refl _ _).drew.trans HBx.out).mono H0.out.1.size)))) ((show Below w0.heap.size w0 w5 from (Below.refl _ _).drew.trans HBx.out).size)
  rintro v G1 w5 hw5
  have qq : tbRl w0.heap.size v G1 w5 := (hw5.ents _ List.mem_cons_self).1
  clear hw5
  unfold tbRl at qq
  obtain ⟨rfl, nm', A', n', c', key', U', m', cu', R', p', cr', op', k', i', vs', s', B', q', d', -, -, -, -, rfl, -⟩ := qq
  simp only [Act.put, List.setIfInBounds_toArray, List.set_cons_zero, List.set_cons_succ]
  refine detL_val (by kernel_rfl) (yields_of rfl fun w5 hb5 => ?_) ?_
  · have hc5 := bcellD hb5
    have HBx := Lib.hid hb5
    clear hb5
    go_simp
    exact Det1_same
  simp only [Act.put, List.setIfInBounds_toArray, List.set_cons_zero, List.set_cons_succ]
  refine detL_rel (by kernel_rfl) (yields_rel (by rfl) vrRl_lasting fun w5 hw5 => ?_) ?_
  · have hb5 := hw5.below
    have hc5 := bcellD hb5
    have HBx := Lib.hid hb5
    clear hb5 hw5
    go_simp
    exact vrRl_enter (HF2.out _ (H0.out.1.trans ((show Below w0.heap.size w0 w5 from (Below.refl _ _).drew.trans HBx.out).mono H0.out.1.size))) ((show Below w0.heap.size w0 w5 from (Below.refl _ _).drew.trans HBx.out).size)
  rintro v G2 w5 hw5
  have qq : vrRl w0.heap.size (fewL row) v G2 w5 := (hw5.ents _ List.mem_cons_self).1
  clear hw5
  unfold vrRl at qq
  obtain ⟨rfl, ho⟩ := qq
  obtain ⟨D', cv', rfl⟩ := own_form ho
  clear ho
  simp only [Act.put, List.setIfInBounds_toArray, List.set_cons_zero, List.set_cons_succ]
  refine detL_val (by kernel_rfl) (yields_of rfl fun w5 hb5 => ?_) ?_
  · have hc5 := bcellD hb5
    have HBx := Lib.hid hb5
    clear hb5
    go_simp
    exact Det1_same
  simp only [Act.put, List.setIfInBounds_toArray, List.set_cons_zero, List.set_cons_succ]
  refine detL_rel (by kernel_rfl) (yields_rel (by rfl) exRl_lasting fun w5 hw5 => ?_) ?_
  · have hb5 := hw5.below
    have hc5 := bcellD hb5
    have HBx := Lib.hid hb5
    clear hb5 hw5
    go_simp
    exact exRl_enter (HF4.out _ (H0.out.1.trans ((show Below w0.heap.size w0 w5 from (Below.refl _ _).drew.trans HBx.out).mono H0.out.1.size))) ((show Below w0.heap.size w0 w5 from (Below.refl _ _).drew.trans HBx.out).size)
  rintro v G3 w5 hw5
  have qq : exRl w0.heap.size v G3 w5 := (hw5.ents _ List.mem_cons_self).1
  clear hw5
  unfold exRl at qq
  obtain ⟨rfl, oe, ke, ie, ve, se, Be, pe, qe, -, rfl, -⟩ := qq
  simp only [Act.put, List.setIfInBounds_toArray, List.set_cons_zero, List.set_cons_succ]
  refine detL_tail rfl (by kernel_rfl) fun w11 hw11 => ?_
  have ye : exRl w0.heap.size (.agg #[.string oe, .int .i64 ke, .int .i64 ie, .string ve, .string se, .slice Be pe qe]) [] w11 := (hw11.ents _ List.mem_cons_self).1
  have yv : vrRl w0.heap.size (fewL row) (.slice D' (fewL row).length cv') [] w11 := (hw11.ents _ (List.mem_cons_of_mem _ List.mem_cons_self)).1
  have yt : tbRl w0.heap.size (.agg #[.string nm', .slice A' n' c', .int .i64 key', .slice U' m' cu', .slice R' p' cr', .string op', .int .i64 k', .int .i64 i', .string vs', .string s', .slice B' q' d']) [] w11 := (hw11.ents _ (List.mem_cons_of_mem _ (List.mem_cons_of_mem _ List.mem_cons_self))).1
  have HB11 : Hid (Below w0.heap.size w0 w11) := Lib.hid ((Below.refl _ _).drew.trans hw11.below)
  clear hw11
  have qt := tbR_at yt.2
  have qv := yv.2
  have qe' := exR_at ye
  clear yt yv ye
  obtain ⟨cols', us', rs', l', ht1, f1, f2, f3⟩ := qt
  obtain ⟨le, htr, hle⟩ := qe'
  have hst : w11.heap[w.heap.size]? = some (.cells #[.string nm, .slice A n c, .int .i64 key, .slice U m cu, .slice R p cr, .string op, .int .i64 k, .int .i64 i, .string vs, .string s, .slice B q d] 31 (0, 0)) := (HB11.out.block _ hz0).trans H0.out.2.1
  have hse0 : w11.heap[w.heap.size + 1]? = some (.cells #[.string op2, .int .i64 k2, .int .i64 i2, .string vs2, .string s2, .slice B2 q2 d2] 29 (0, 0)) := (HB11.out.block _ hz1).trans H0.out.2.2
  have hse : (w11.setRow w.heap.size #[.string nm', .slice A' n' c', .int .i64 key', .slice U' m' cu', .slice R' p' cr', .string op', .int .i64 k', .int .i64 i', .string vs', .string s', .slice B' q' d']).heap[w.heap.size + 1]? = some (.cells #[.string op2, .int .i64 k2, .int .i64 i2, .string vs2, .string s2, .slice B2 q2 d2] 29 (0, 0)) := (setRow_other _ _ _ _ (by omega)).trans hse0
  have hs11 := HB11.out.size
  have HLC : Hid (Lc w #[.string nm', .slice A' n' c', .int .i64 key', .slice U' m' cu', .slice R' p' cr', .string op', .int .i64 k', .int .i64 i', .string vs', .string s', .slice B' q' d'] w0.heap.size nm' A' n' c' key' U' m' cu' R' p' cr' op' k' i' vs' s' B' q' d' cols' us' rs' l' oe ke ie ve se Be pe qe le D' (fewL row).length cv' (fewL row) ((w11.setRow w.heap.size #[.string nm', .slice A' n' c', .int .i64 key', .slice U' m' cu', .slice R' p' cr', .string op', .int .i64 k', .int .i64 i', .string vs', .string s', .slice B' q' d']).setRow (w.heap.size + 1) #[.string oe, .int .i64 ke, .int .i64 ie, .string ve, .string se, .slice Be pe qe])) := by
    have f : ∀ b, w0.heap.size ≤ b → ((w11.setRow w.heap.size #[.string nm', .slice A' n' c', .int .i64 key', .slice U' m' cu', .slice R' p' cr', .string op', .int .i64 k', .int .i64 i', .string vs', .string s', .slice B' q' d']).setRow (w.heap.size + 1) #[.string oe, .int .i64 ke, .int .i64 ie, .string ve, .string se, .slice Be pe qe]).heap[b]? = w11.heap[b]? := fun b hb => (setRow_other _ _ _ _ (by omega)).trans (setRow_other _ _ _ _ (by omega))
    exact ⟨below_row (below_row (H0.out.1.trans (HB11.out.mono H0.out.1.size)) _ (Nat.le_refl _)) _ (Nat.le_succ _), (setRow_other _ _ _ _ (by omega)).trans (setRow_heap _ _ _ _ _ _ hst), setRow_heap _ _ _ _ _ _ hse, Lm.away ⟨ht1, f1, f2, f3, htr, hle, qv⟩ f, hz1⟩
  go_upto_region 2 with (first
    | (refine wpList_store_row rfl 31 (.tmp 3) (.tmp 12) rfl w.heap.size #[.string nm', .slice A' n' c', .int .i64 key', .slice U' m' cu', .slice R' p' cr', .string op', .int .i64 k', .int .i64 i', .string vs', .string s', .slice B' q' d'] rfl rfl 31 _ hst tbSize rfl (tb_one _ _ _ _ _ _ _ _ _ _ _ _ _ _ _ _ _ _ _) ?_)
    | (refine wpList_store_row rfl 29 (.tmp 5) (.tmp 16) rfl (w.heap.size + 1) #[.string oe, .int .i64 ke, .int .i64 ie, .string ve, .string se, .slice Be pe qe] rfl rfl 29 _ hse exSize6 rfl (ex_one _ _ _ _ _ _ _ _) ?_))
  refine wp_gen (Lc w #[.string nm', .slice A' n' c', .int .i64 key', .slice U' m' cu', .slice R' p' cr', .string op', .int .i64 k', .int .i64 i', .string vs', .string s', .slice B' q' d'] w0.heap.size nm' A' n' c' key' U' m' cu' R' p' cr' op' k' i' vs' s' B' q' d' cols' us' rs' l' oe ke ie ve se Be pe qe le D' (fewL row).length cv' (fewL row)) HLC.out fun w1 hw1 => ?_
  have hM14 := fewL_le row
  obtain ⟨row', HR⟩ : ∃ r, Hid (fewL row = r) := ⟨_, Lib.hid rfl⟩
  rw [HR.out] at hw1 hM14 ⊢
  obtain ⟨M, HM⟩ : ∃ r, Hid (row'.length = r) := ⟨_, Lib.hid rfl⟩
  rw [HM.out] at hw1 hM14 ⊢
  have H1 := Lib.hid hw1
  obtain ⟨B0, HB0⟩ : ∃ b, Hid (w0.heap.size = b) := ⟨_, Lib.hid rfl⟩
  rw [HB0.out] at H1
  clear hw1 HLC hs11 hse hse0 hst htr hle ht1 f1 f2 f3 qv HB11 g0 g1 g2 g3 g4 g5 g6 g7 g8 g9 g10 h0 h1 h2 h3 h4 h5 hz1 hz0 H0 HB0
  have x0 := Lib.cell_of_heap H1.out.b3 0
  have x1 := Lib.cell_of_heap H1.out.b3 1
  have x2 := Lib.cell_of_heap H1.out.b3 2
  have x3 := Lib.cell_of_heap H1.out.b3 3
  have x4 := Lib.cell_of_heap H1.out.b3 4
  have x5 := Lib.cell_of_heap H1.out.b3 5
  have x6 := Lib.cell_of_heap H1.out.b3 6
  have x7 := Lib.cell_of_heap H1.out.b3 7
  have x8 := Lib.cell_of_heap H1.out.b3 8
  have x9 := Lib.cell_of_heap H1.out.b3 9
  have x10 := Lib.cell_of_heap H1.out.b3 10
  simp only [List.getElem?_toArray, List.getElem?_cons_zero, List.getElem?_cons_succ] at x0 x1 x2 x3 x4 x5 x6 x7 x8 x9 x10
  have bf := Lib.frozen_of_heap H1.out.b3
  have bl := lt_of_block H1.out.b3
  go_upto_region 3 with (fail)
  refine wp_gen (Lc w #[.string nm', .slice A' n' c', .int .i64 key', .slice U' m' cu', .slice R' p' cr', .string ⟨#[]⟩, .int .i64 0, .int .i64 0, .string ⟨#[]⟩, .string ⟨#[]⟩, .slice none 0 0] B0 nm' A' n' c' key' U' m' cu' R' p' cr' op' k' i' vs' s' B' q' d' cols' us' rs' l' oe ke ie ve se Be pe qe le D' M cv' row') (H1.out.zero _ _ _ _ _ _) fun w2 hw2 => ?_
  have H2 := Lib.hid hw2
  clear hw2 H1 bf bl x0 x1 x2 x3 x4 x5 x6 x7 x8 x9 x10
  have hb3 := H2.out.b3
  have hgz : (w2.alloc (.cells #[.string ⟨#[]⟩, .slice none 0 0, .int .i64 0, .slice none 0 0, .slice none 0 0, .string ⟨#[]⟩, .int .i64 0, .int .i64 0, .string ⟨#[]⟩, .string ⟨#[]⟩, .slice none 0 0] 31)).heap[w2.heap.size]? = some (.cells #[.string ⟨#[]⟩, .slice none 0 0, .int .i64 0, .slice none 0 0, .slice none 0 0, .string ⟨#[]⟩, .int .i64 0, .int .i64 0, .string ⟨#[]⟩, .string ⟨#[]⟩, .slice none 0 0] 31 (0, 0)) := alloc_at rfl _
  have hg7 := setRow_heap _ _ _ #[.string nm', .slice A' n' c', .int .i64 key', .slice U' m' cu', .slice R' p' cr', .string ⟨#[]⟩, .int .i64 0, .int .i64 0, .string ⟨#[]⟩, .string ⟨#[]⟩, .slice none 0 0] _ _ hgz
  have hl3 := lt_of_block H2.out.b3
  have hl5 := lt_of_block H2.out.b5
  have hb5 : ((w2.alloc (.cells #[.string ⟨#[]⟩, .slice none 0 0, .int .i64 0, .slice none 0 0, .slice none 0 0, .string ⟨#[]⟩, .int .i64 0, .int .i64 0, .string ⟨#[]⟩, .string ⟨#[]⟩, .slice none 0 0] 31)).setRow w2.heap.size #[.string nm', .slice A' n' c', .int .i64 key', .slice U' m' cu', .slice R' p' cr', .string ⟨#[]⟩, .int .i64 0, .int .i64 0, .string ⟨#[]⟩, .string ⟨#[]⟩, .slice none 0 0]).heap[w.heap.size + 1]? = some (.cells #[.string oe, .int .i64 ke, .int .i64 ie, .string ve, .string se, .slice Be pe qe] 29 (0, 0)) := (setRow_other _ _ _ _ (by omega)).trans ((Below.heap_alloc _ _ _ hl5).trans H2.out.b5)
  go_upto_region 4 with (first
    | (refine wpList_load_row rfl 31 (.tmp 3) rfl w.heap.size rfl 31 #[.string nm', .slice A' n' c', .int .i64 key', .slice U' m' cu', .slice R' p' cr', .string ⟨#[]⟩, .int .i64 0, .int .i64 0, .string ⟨#[]⟩, .string ⟨#[]⟩, .slice none 0 0] (0, 0) _ hb3 Tryz.underlying31 rfl tbSize ?_)
    | (refine wpList_store_row rfl 31 (.tmp 7) (.tmp 19) rfl w2.heap.size #[.string nm', .slice A' n' c', .int .i64 key', .slice U' m' cu', .slice R' p' cr', .string ⟨#[]⟩, .int .i64 0, .int .i64 0, .string ⟨#[]⟩, .string ⟨#[]⟩, .slice none 0 0] rfl rfl 31 _ hgz tbSize rfl (tb_one _ _ _ _ _ _ _ _ _ _ _ _ _ _ _ _ _ _ _) ?_))
  have HBR : Hid (Below w2.heap.size w2 ((w2.alloc (.cells #[.string ⟨#[]⟩, .slice none 0 0, .int .i64 0, .slice none 0 0, .slice none 0 0, .string ⟨#[]⟩, .int .i64 0, .int .i64 0, .string ⟨#[]⟩, .string ⟨#[]⟩, .slice none 0 0] 31)).setRow w2.heap.size #[.string nm', .slice A' n' c', .int .i64 key', .slice U' m' cu', .slice R' p' cr', .string ⟨#[]⟩, .int .i64 0, .int .i64 0, .string ⟨#[]⟩, .string ⟨#[]⟩, .slice none 0 0])) := Lib.hid (below_row ((Below.refl _ _).alloc (Nat.le_refl _) _) _ (Nat.le_refl _))
  refine wp_gen (fun W => Below w2.heap.size w2 W ∧ W.heap[w2.heap.size]? = some (.cells #[.string nm', .slice A' n' c', .int .i64 key', .slice U' m' cu', .slice R' p' cr', .string ⟨#[]⟩, .int .i64 0, .int .i64 0, .string ⟨#[]⟩, .string ⟨#[]⟩, .slice none 0 0] 31 (0, 0)) ∧ W.heap[w.heap.size + 1]? = some (.cells #[.string oe, .int .i64 ke, .int .i64 ie, .string ve, .string se, .slice Be pe qe] 29 (0, 0))) ⟨HBR.out, hg7, hb5⟩ fun w3 hw3 => ?_
  have H3 := Lib.hid hw3
  clear hw3 HBR hg7 hb5 hgz hb3
  have hb5 := H3.out.2.2
  have x5 := Lib.cell_of_heap H3.out.2.1 5
  have x6 := Lib.cell_of_heap H3.out.2.1 6
  have x7 := Lib.cell_of_heap H3.out.2.1 7
  have x8 := Lib.cell_of_heap H3.out.2.1 8
  have x9 := Lib.cell_of_heap H3.out.2.1 9
  have x10 := Lib.cell_of_heap H3.out.2.1 10
  simp only [List.getElem?_toArray, List.getElem?_cons_zero, List.getElem?_cons_succ] at x5 x6 x7 x8 x9 x10
  have bf := Lib.frozen_of_heap H3.out.2.1
  have bl := lt_of_block H3.out.2.1
  go_upto_region 5 with (refine wpList_load_row rfl 29 (.tmp 5) rfl (w.heap.size + 1) rfl 29 #[.string oe, .int .i64 ke, .int .i64 ie, .string ve, .string se, .slice Be pe qe] (0, 0) _ hb5 Tryz.underlying29 rfl exSize6 ?_)
  refine wp_gen (fun W => Lc w #[.string nm', .slice A' n' c', .int .i64 key', .slice U' m' cu', .slice R' p' cr', .string ⟨#[]⟩, .int .i64 0, .int .i64 0, .string ⟨#[]⟩, .string ⟨#[]⟩, .slice none 0 0] B0 nm' A' n' c' key' U' m' cu' R' p' cr' op' k' i' vs' s' B' q' d' cols' us' rs' l' oe ke ie ve se Be pe qe le D' M cv' row' W ∧ W.heap[w2.heap.size]? = some (.cells #[.string nm', .slice A' n' c', .int .i64 key', .slice U' m' cu', .slice R' p' cr', .string oe, .int .i64 ke, .int .i64 ie, .string ve, .string se, .slice Be pe qe] 31 (0, 0))) ⟨H2.out.later (put6_below H3.out.1 (Nat.le_refl _) _ _ _ _ _ _), put6_heap H3.out.2.1 _ _ _ _ _ _⟩ fun w4 hw4 => ?_
  have H4 := Lib.hid hw4
  have hw7 : w.heap.size + 1 < w2.heap.size := hl5
  clear hw4 H3 H2 hb5 x5 x6 x7 x8 x9 x10 bf bl hl3 hl5
  have hb7 := H4.out.2
  have h0 := Lib.cell_of_heap H4.out.1.b5 0
  simp only [List.getElem?_toArray, List.getElem?_cons_zero] at h0
  have hl5 := lt_of_block H4.out.1.b5
  have y0 := Lib.cell_of_heap H4.out.2 0
  have y1 := Lib.cell_of_heap H4.out.2 1
  have y2 := Lib.cell_of_heap H4.out.2 2
  have y3 := Lib.cell_of_heap H4.out.2 3
  have y4 := Lib.cell_of_heap H4.out.2 4
  have y5 := Lib.cell_of_heap H4.out.2 5
  have y6 := Lib.cell_of_heap H4.out.2 6
  have y7 := Lib.cell_of_heap H4.out.2 7
  have y8 := Lib.cell_of_heap H4.out.2 8
  have y9 := Lib.cell_of_heap H4.out.2 9
  have y10 := Lib.cell_of_heap H4.out.2 10
  simp only [List.getElem?_toArray, List.getElem?_cons_zero, List.getElem?_cons_succ] at y0 y1 y2 y3 y4 y5 y6 y7 y8 y9 y10
  have hl7 := lt_of_block H4.out.2
  clear hb7
  obtain ⟨QM, HQ⟩ : ∃ z, Hid (tableB n' nm' key' cols' us' rs' (.mk oe ⟨ke, ie, ve⟩ se le) = z) := ⟨_, Lib.hid rfl⟩
  have HMY := Lib.hid (tmay6_any nm' A' n' c' key' U' m' cu' R' p' cr' oe ke ie ve se Be pe qe cols' us' rs' le (fun b => B0 ≤ b) 14 w4 H4.out.1.mem.with_)
  rw [HQ.out] at HMY
  cases QM with
  | false =>
    go_wp2_with (first
      | (go_at_call 8; (with_reducible refine HMY.out.mono ?_); rintro e w5 ⟨rfl, hb5⟩; have H5 := Lib.hid (H4.out.1.later hb5); clear hb5)
      | (go_at_call 9; (with_reducible refine (HA.out _ H5.out.pl).mono ?_); rintro e w6 ⟨rfl, hb6⟩; have HB6 := Lib.hid (H5.out.pl.trans (hb6.mono H5.out.pl.size)); clear hb6)
      | (go_at_call 9; (with_reducible refine (HA.out _ H4.out.1.pl).mono ?_); rintro e w6 ⟨rfl, hb6⟩; have HB6 := Lib.hid (H4.out.1.pl.trans (hb6.mono H4.out.1.pl.size)); clear hb6))
    all_goals go_ret
    all_goals exact ⟨rfl, HB6.out⟩
  | true =>
    by_cases hoe : oe.toList = []
    · go_wp2_with (first
        | (go_at_call 8; (with_reducible refine HMY.out.mono ?_); rintro e w5 ⟨rfl, hb5⟩; have H5 := Lib.hid (And.intro (H4.out.1.later hb5) ((hb5.block _ (lt_of_block H4.out.2)).trans H4.out.2)); clear hb5)
        | (go_at_call 9; (with_reducible refine (HA.out _ H4.out.1.pl).mono ?_); rintro e w6 ⟨rfl, hb6⟩; have HB6 := Lib.hid (H4.out.1.pl.trans (hb6.mono H4.out.1.pl.size)); clear hb6))
      all_goals go_ret
      all_goals exact ⟨rfl, HB6.out⟩
    · have e2 : oe.toList.isEmpty = false := by
        cases h : oe.toList with
        | nil => exact absurd h hoe
        | cons _ _ => rfl
      go_upto_region 7 with (go_at_call 8; (with_reducible refine HMY.out.mono ?_); rintro e w5 ⟨rfl, hb5⟩; have H5 := Lib.hid (And.intro (H4.out.1.later hb5) ((hb5.block _ (lt_of_block H4.out.2)).trans H4.out.2)); clear hb5)
      obtain ⟨a, HFA⟩ : ∃ z, Hid (fitsI n' nm' key' cols' us' rs' zT M row' = z) := ⟨_, Lib.hid rfl⟩
      obtain ⟨b, HFB⟩ : ∃ z, Hid (fitsI n' nm' key' cols' us' rs' (.mk oe ⟨ke, ie, ve⟩ se le) M row' = z) := ⟨_, Lib.hid rfl⟩
      obtain ⟨ff, HFF⟩ : ∃ z, Hid (falseB (evalT cols' row' (.mk oe ⟨ke, ie, ve⟩ se le)) = z) := ⟨_, Lib.hid rfl⟩
      have HAB : Hid (b = if a = 0 then (if ff = true then 9 else 0) else a) := by
        have := fits_check HQ.out M row'
        rw [HFA.out, HFB.out, HFF.out] at this
        exact this
      have HCA : Hid (∀ W, Below w5.heap.size w5 W → Calls Tryz.prog 10 #[.agg #[.string nm', .slice A' n' c', .int .i64 key', .slice U' m' cu', .slice R' p' cr', .string ⟨#[]⟩, .int .i64 0, .int .i64 0, .string ⟨#[]⟩, .string ⟨#[]⟩, .slice none 0 0], .slice D' M cv'] W fun e w' => e = .returned (.int .i64 a) ∧ Below W.heap.size W w') := Lib.hid fun W hW => by
        have h := fits_any nm' A' n' c' key' U' m' cu' R' p' cr' ⟨#[]⟩ 0 0 ⟨#[]⟩ ⟨#[]⟩ none 0 0 cols' us' rs' [] (fun b => B0 ≤ b) 14 D' M cv' row' (by unfold maxLen; omega) W (H5.out.1.later hW).mem.zero (H5.out.1.later hW).mem.vals
        rw [show fitsI n' nm' key' cols' us' rs' (.mk ⟨#[]⟩ ⟨0, 0, ⟨#[]⟩⟩ ⟨#[]⟩ []) M row' = a from HFA.out] at h
        exact h
      have HCB : Hid (∀ W, Below w5.heap.size w5 W → Calls Tryz.prog 10 #[.agg #[.string nm', .slice A' n' c', .int .i64 key', .slice U' m' cu', .slice R' p' cr', .string oe, .int .i64 ke, .int .i64 ie, .string ve, .string se, .slice Be pe qe], .slice D' M cv'] W fun e w' => e = .returned (.int .i64 b) ∧ Below W.heap.size W w') := Lib.hid fun W hW => by
        have h := fits_any nm' A' n' c' key' U' m' cu' R' p' cr' oe ke ie ve se Be pe qe cols' us' rs' le (fun b => B0 ≤ b) 14 D' M cv' row' (by unfold maxLen; omega) W (H5.out.1.later hW).mem.with_ (H5.out.1.later hW).mem.vals
        rw [HFB.out] at h
        exact h
      clear y0 y1 y2 y3 y4 y5 y6 y7 y8 y9 y10 h0 hl5 hl7 HMY
      have x0 := Lib.cell_of_heap H5.out.1.b3 0
      have x1 := Lib.cell_of_heap H5.out.1.b3 1
      have x2 := Lib.cell_of_heap H5.out.1.b3 2
      have x3 := Lib.cell_of_heap H5.out.1.b3 3
      have x4 := Lib.cell_of_heap H5.out.1.b3 4
      have x5 := Lib.cell_of_heap H5.out.1.b3 5
      have x6 := Lib.cell_of_heap H5.out.1.b3 6
      have x7 := Lib.cell_of_heap H5.out.1.b3 7
      have x8 := Lib.cell_of_heap H5.out.1.b3 8
      have x9 := Lib.cell_of_heap H5.out.1.b3 9
      have x10 := Lib.cell_of_heap H5.out.1.b3 10
      simp only [List.getElem?_toArray, List.getElem?_cons_zero, List.getElem?_cons_succ] at x0 x1 x2 x3 x4 x5 x6 x7 x8 x9 x10
      have y0 := Lib.cell_of_heap H5.out.2 0
      have y1 := Lib.cell_of_heap H5.out.2 1
      have y2 := Lib.cell_of_heap H5.out.2 2
      have y3 := Lib.cell_of_heap H5.out.2 3
      have y4 := Lib.cell_of_heap H5.out.2 4
      have y5 := Lib.cell_of_heap H5.out.2 5
      have y6 := Lib.cell_of_heap H5.out.2 6
      have y7 := Lib.cell_of_heap H5.out.2 7
      have y8 := Lib.cell_of_heap H5.out.2 8
      have y9 := Lib.cell_of_heap H5.out.2 9
      have y10 := Lib.cell_of_heap H5.out.2 10
      simp only [List.getElem?_toArray, List.getElem?_cons_zero, List.getElem?_cons_succ] at y0 y1 y2 y3 y4 y5 y6 y7 y8 y9 y10
      have hl3 := lt_of_block H5.out.1.b3
      have hl7 := lt_of_block H5.out.2
      refine detL_begin [.val (.agg #[.string nm', .slice A' n' c', .int .i64 key', .slice U' m' cu', .slice R' p' cr', .string ⟨#[]⟩, .int .i64 0, .int .i64 0, .string ⟨#[]⟩, .string ⟨#[]⟩, .slice none 0 0]), .val (.slice D' M cv'), .val (.int .i64 a), .val (.agg #[.string nm', .slice A' n' c', .int .i64 key', .slice U' m' cu', .slice R' p' cr', .string oe, .int .i64 ke, .int .i64 ie, .string ve, .string se, .slice Be pe qe]), .val (.slice D' M cv'), .val (.int .i64 b), .val (.int .i64 a), .val (.int .i64 b)] 8 (by kernel_rfl) ?_
      refine detL_val (by kernel_rfl) (yields_of rfl fun w5 hb5 => ?_) ?_
      · have hc5 := bcellD hb5
        have HBx := Lib.hid hb5
        clear hb5
        go_simp
        exact Det1_same
      simp only [Act.put, List.setIfInBounds_toArray, List.set_cons_zero, List.set_cons_succ]
      refine detL_val (by kernel_rfl) (yields_of rfl fun w5 hb5 => ?_) ?_
      · have hc5 := bcellD hb5
        have HBx := Lib.hid hb5
        clear hb5
        go_simp
        exact Det1_same
      simp only [Act.put, List.setIfInBounds_toArray, List.set_cons_zero, List.set_cons_succ]
      refine detL_val (by kernel_rfl) (yields_of rfl fun w5 hb5 => ?_) ?_
      · have hc5 := bcellD hb5
        have HBx := Lib.hid hb5
        clear hb5
        go_simp
        exact Det1_enter (HCA.out _ ((Below.refl _ _).drew.trans HBx.out))
      simp only [Act.put, List.setIfInBounds_toArray, List.set_cons_zero, List.set_cons_succ]
      refine detL_val (by kernel_rfl) (yields_of rfl fun w5 hb5 => ?_) ?_
      · have hc5 := bcellD hb5
        have HBx := Lib.hid hb5
        clear hb5
        go_simp
        exact Det1_same
      simp only [Act.put, List.setIfInBounds_toArray, List.set_cons_zero, List.set_cons_succ]
      refine detL_val (by kernel_rfl) (yields_of rfl fun w5 hb5 => ?_) ?_
      · have hc5 := bcellD hb5
        have HBx := Lib.hid hb5
        clear hb5
        go_simp
        exact Det1_same
      simp only [Act.put, List.setIfInBounds_toArray, List.set_cons_zero, List.set_cons_succ]
      refine detL_val (by kernel_rfl) (yields_of rfl fun w5 hb5 => ?_) ?_
      · have hc5 := bcellD hb5
        have HBx := Lib.hid hb5
        clear hb5
        go_simp
        exact Det1_enter (HCB.out _ ((Below.refl _ _).drew.trans HBx.out))
      simp only [Act.put, List.setIfInBounds_toArray, List.set_cons_zero, List.set_cons_succ]
      refine detL_val (by kernel_rfl) (yields_of rfl fun w5 hb5 => ?_) ?_
      · have hc5 := bcellD hb5
        have HBx := Lib.hid hb5
        clear hb5
        go_simp
        exact Det1_same
      simp only [Act.put, List.setIfInBounds_toArray, List.set_cons_zero, List.set_cons_succ]
      refine detL_val (by kernel_rfl) (yields_of rfl fun w5 hb5 => ?_) ?_
      · have hc5 := bcellD hb5
        have HBx := Lib.hid hb5
        clear hb5
        go_simp
        exact Det1_same
      simp only [Act.put, List.setIfInBounds_toArray, List.set_cons_zero, List.set_cons_succ]
      refine detL_done (by kernel_rfl) fun w6 hw6 => ?_
      have H6 := Lib.hid (And.intro (H5.out.1.later ((Below.refl _ _).drew.trans hw6.below)) ((((Below.refl _ _).drew.trans hw6.below).block _ hl7).trans H5.out.2))
      clear hw6 hl3 hl7 x0 y0 x1 y1 x2 y2 x3 y3 x4 y4 x5 y5 x6 y6 x7 y7 x8 y8 x9 y9 x10 y10 HCA HCB
      by_cases ha : a = 0
      · subst ha
        rw [if_pos rfl] at HAB
        have HEV := Lib.hid (evalT_any A' n' c' cols' D' M cv' row' (by unfold maxLen; omega) (fun b => B0 ≤ b) 14 (.mk oe ⟨ke, ie, ve⟩ se le) (.slice Be pe qe) w6 H6.out.1.mem.tr H6.out.1.mem.tb.hcols H6.out.1.mem.vals)
        unfold EVt at HEV
        simp only [Ex.op, Ex.x, Ex.s] at HEV
        obtain ⟨xx, HXX⟩ : ∃ z, Hid (evalT cols' row' (.mk oe ⟨ke, ie, ve⟩ se le) = z) := ⟨_, Lib.hid rfl⟩
        rw [HXX.out] at HEV HFF
        have h0 := Lib.cell_of_heap H6.out.1.b5 0
        have h1 := Lib.cell_of_heap H6.out.1.b5 1
        have h2 := Lib.cell_of_heap H6.out.1.b5 2
        have h3 := Lib.cell_of_heap H6.out.1.b5 3
        have h4 := Lib.cell_of_heap H6.out.1.b5 4
        have h5 := Lib.cell_of_heap H6.out.1.b5 5
        simp only [List.getElem?_toArray, List.getElem?_cons_zero, List.getElem?_cons_succ] at h0 h1 h2 h3 h4 h5
        have x1 := Lib.cell_of_heap H6.out.1.b3 1
        simp only [List.getElem?_toArray, List.getElem?_cons_zero, List.getElem?_cons_succ] at x1
        have hl3 := lt_of_block H6.out.1.b3
        have hl5 := lt_of_block H6.out.1.b5
        go_upto_region 11 with (go_at_call 11; (with_reducible refine HEV.out.mono ?_); rintro e w7 ⟨rfl, hb7⟩; have H7 := Lib.hid (H6.out.1.later hb7); clear hb7)
        all_goals first
          | (obtain rfl : ff = true := (by rw [← HFF.out]; unfold falseB; simp [*])
             obtain rfl : b = 9 := (by rw [HAB.out]; rfl)
             go_wp2_with (go_at_call 9; (with_reducible refine (HA.out _ H7.out.pl).mono ?_); rintro e w8 ⟨rfl, hb8⟩; have HB8 := Lib.hid (H7.out.pl.trans (hb8.mono H7.out.pl.size)); clear hb8)
             go_ret
             exact ⟨rfl, HB8.out⟩)
          | (obtain rfl : ff = false := (by rw [← HFF.out]; unfold falseB; simp [*])
             obtain rfl : b = 0 := (by rw [HAB.out]; rfl)
             go_wp2_with (go_at_call 9; (with_reducible refine (HA.out _ H7.out.pl).mono ?_); rintro e w8 ⟨rfl, hb8⟩; have HB8 := Lib.hid (H7.out.pl.trans (hb8.mono H7.out.pl.size)); clear hb8)
             go_ret
             exact ⟨rfl, HB8.out⟩)
      · obtain rfl : b = a := by rw [HAB.out, if_neg ha]
        have q1 : (b != 0) = true := by simp [ha]
        go_wp2_with (go_at_call 9; (with_reducible refine (HA.out _ H6.out.1.pl).mono ?_); rintro e w7 ⟨rfl, hb7⟩; have HB7 := Lib.hid (H6.out.1.pl.trans (hb7.mono H6.out.1.pl.size)); clear hb7)
        go_ret
        exact ⟨rfl, HB7.out⟩
end Go.Proofs.YtchebhdndkaheaaGreatDoor

/- SchemaChecks: for every input the law returns true, and the input reads behind the call as it did. The row and its tied card. -/
namespace Go.Proofs.YtchebhdndkaheaaGreatDoor
open Go.ChangeShapes Go.WideShapes Go.ChangeAt Go.RowKit Go.ChangeMaps

theorem tyE_schemaChecks {W : World} (h : laidMetH Tryz.prog Rows.schemaChecksRow.laid W) : TyE W := by
  have h' : laidMet Tryz.prog Rows.schemaChecksRow.laid W := by
    rw [← MakeChecks.laidMetH_plain _ _ _ (by kernel_rfl)]
    exact h
  exact tyE_of_head h'.tail.tail.tail.tail.tail.tail
set_option maxRecDepth 100000 in
theorem schemaChecks_lifted (os : Os) (started : os.Started) (H : Type) (enc : TypeId × Value → H) :
    ReturnsInHanded {} Tryz.checked os 3 .any (fun w args => (Rows.schemaChecksSpec.pre enc Tryz.prog Tryz.f3 [] false w args ∧ laidMetH Tryz.prog Rows.schemaChecksRow.laid w) ∧ sizedMet enc Tryz.prog Tryz.f3 (OpenSpec.ofChange Rows.schemaChecksSpec) false w args)
      (Rows.schemaChecksSpec.post enc Tryz.prog Tryz.f3 false true false false) := by
  refine returns_laid_shaped (C := Tryz.checked) (X := fun w _ => laidMetH Tryz.prog Rows.schemaChecksRow.laid w) (fun _ _ _ hh h => h.of_heap hh) own started (by kernel_rfl) Tryz.func3
    (ChangeSpec.witness_shaped (enc := enc) (C := Tryz.checked) (os := os) (X := fun w _ => laidMetH Tryz.prog Rows.schemaChecksRow.laid w) false (World.laidAll Tryz.prog os Rows.schemaChecksRow.laid) #[.agg #[.string ⟨#[]⟩, .slice none 0 0, .int .i64 0, .slice none 0 0, .slice none 0 0, .string ⟨#[]⟩, .int .i64 0, .int .i64 0, .string ⟨#[]⟩, .string ⟨#[]⟩, .slice none 0 0], .slice none 0 0, .agg #[.string ⟨#[]⟩, .int .i64 0, .int .i64 0, .string ⟨#[]⟩, .string ⟨#[]⟩, .slice none 0 0]] 8 (World.laidAll_os _ _ _)
      (World.shaped_of_ZipB (by kernel_rfl) (by kernel_rfl)) (by kernel_rfl) (by kernel_rfl) (by kernel_rfl)
      (by rw [MakeChecks.laidMetH_plain _ _ _ (by kernel_rfl)]; exact laidMet_laidAll _ (by kernel_rfl) (by kernel_rfl))) ?_
  intro W base args ds gs before hval0 hW hL hsh
  have hval : ∀ (j : Nat) t v, Tryz.f3.params[j]? = some t → args[j]? = some v → Value.okWide Tryz.prog W .any base t v := hval0
  have hW' := hW
  have hlt : ∀ p ∈ before, p.block < W.heap.size := fun p hp => hW.lt p hp
  obtain ⟨p, q, hA0, hV, rfl, _, _⟩ := hW
  have hA : DataW.TrodAll enc Tryz.prog W 0 (fun _ => true) true Tryz.f3.params.toList args.toList ds p := hA0
  rw [Tryz.params3] at hA hval
  obtain ⟨v0, v1, v2, d0, d1, d2, p0, p1, p2, rfl, rfl, hp, h0, h1, h2⟩ := trodAll_three hA
  obtain ⟨rfl, rfl⟩ := trodVars_none hV
  obtain ⟨nm, A, n, c, key, U, m, cu, R, p, cr, op, k, i, vs, s, B, q, d, cols, us, rs, rfl, hT⟩ := open_table (hval 0 31 v0 rfl rfl) h0
  obtain ⟨D, m2, cv, row, rfl, hm, hv, hvs, _⟩ := open_vrow (hval 1 32 v1 rfl rfl) h1
  obtain ⟨op2, k2, i2, vs2, s2, u2, rfl, a0, a1, a2, a6, hu2⟩ := open_expr (hval 2 29 v2 rfl rfl) h2
  obtain ⟨B2, q2, d2', rfl, _⟩ := (hu2 14).form
  obtain ⟨mx, hmx⟩ := maxLen_cell hsh
  have LE : LibE W := ⟨libs_of hL hmx (by kernel_rfl) rfl, errs_of hL (by kernel_rfl) rfl⟩
  have TY : TyE W := tyE_schemaChecks hL
  clear hA0 hval0
  simp only [List.append_nil] at hW' hlt
  subst hp
  refine (law_schecks nm A n c key U m cu R p cr op k i vs s B q d cols us rs D m2 cv row op2 k2 i2 vs2 s2 B2 q2 d2' W LE TY hT hm hv hvs a0 a1 a2 a6 (hu2 14)).mono fun e W' ⟨he, hb⟩ => ?_
  subst he
  refine ⟨_, rfl, _, _, _, [], p0 ++ (p1 ++ p2), [], hW', ?_, ?_, ?_, hb.frame _, fun h => by cases h⟩
  · exact trodAll_mk1 (shut_bool Tryz.underlying4 true)
  · exact trodAll_mk3 (Below.trod laidOutB_E readsTb rowTb h0 hb (fun x hx => hlt x (by simp [hx]))) (Below.trod laidOutB_E readsV rowV h1 hb (fun x hx => hlt x (by simp [hx]))) (Below.trod laidOutB_E readsE rowE h2 hb (fun x hx => hlt x (by simp [hx])))
  · rfl

theorem schemaChecks_holds : Rows.SchemaChecksSaid :=
  OpenClaim.holds_of_wide 3 Tryz.f3 rfl rfl rfl rfl rfl rfl rfl ⟨rfl, rfl, rfl, rfl, rfl⟩ rfl rfl rfl rfl rfl (by kernel_rfl) Tryz.func3 (by kernel_rfl)
    (of_decide_eq_true (by kernel_rfl)) (by unfold Func.isWrapper; rw [if_neg (of_decide_eq_false (by kernel_rfl))]; exact ⟨rfl, rfl⟩)
    (fun os started H enc _ => schemaChecks_lifted os started H enc)

theorem schemaChecks_card : Rows.SchemaChecksCardSaid :=
  Claim7.holds_tied_plain_at .later [] _ _ _ _ schemaChecks_holds (fun _ h => by cases h) (by kernel_rfl) (fun _ h => by cases h) schemaChecks_row_tie rfl ⟨rfl, rfl⟩ (by kernel_rfl) rfl
    (fun f fn hf hfn => by
      obtain rfl : f = 3 := Option.some.inj ((show Tryz.prog.funcNamed "caddis/caddislaw06.SchemaChecks" = some 3 by kernel_rfl).symm.trans hf) |>.symm
      obtain rfl : fn = Tryz.f3 := (Option.some.inj (Tryz.func3.symm.trans hfn)).symm
      exact ⟨by kernel_rfl, fun j t ht => by
        rw [Tryz.params3] at ht
        have hm : t ∈ [31, 32, 29] := by simpa using Array.mem_of_getElem? ht
        have hall : ([31, 32, 29].all fun u => !Tryz.prog.wantsStandIn u) = true := by kernel_rfl
        exact (show Tryz.prog.wantsStandIn t = false by simpa using List.all_eq_true.1 hall t hm)⟩)
    (by kernel_rfl)
end Go.Proofs.YtchebhdndkaheaaGreatDoor
