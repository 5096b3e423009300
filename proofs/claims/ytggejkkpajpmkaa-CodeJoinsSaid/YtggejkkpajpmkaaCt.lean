import Derived.Test.YtggejkkpajpmkaaCs
import Derived.Test.YtggejkkpajpmkaaDem
import Derived.Laws.AppendOwnNone
/- The law CodeJoins. -/
namespace Go.Proofs.Ytggejkkpajpmkaa
open Go.RowKit Go.Lib

/-- A region's operation has made these values a row of its own, in this block. -/
def OwnF (L : List Vl) : Value → List Nat → World → Prop := fun u F w => w.ownsRow 0 24 3 u L.length (cellsOf L) ∧ ∀ g, u.ownBlock = some g → g ∈ F
theorem ownF_lasting (L : List Vl) : ∀ u F, Lasting (OwnF L u F) := fun _ _ _ _ hb h => ⟨own_below h.1 hb (Nat.le_refl _), h.2⟩
theorem own_set' {W : World} {B b o : Nat} {v u : Value} {n : Nat} {xs : List Value} (hne : v.ownBlock ≠ some b) (h : W.ownsRow B 24 3 v n xs) : (W.setCell ⟨b, o, none⟩ u).ownsRow B 24 3 v n xs :=
  World.ownsRow.kept (row := some b) h ⟨rfl, rfl, rfl, by simp [World.setCell], fun q _ hq => Below.heap_setCell _ _ _ _ (fun e => hq (by simp [e]))⟩ (.inr hne)
theorem few_made {A : Option Addr} {n cap : Nat} {l : List Vl} {w : World} (hn : n ≤ maxLen) (hv : Vals w w.heap.size A n l) (hs : Short l) :
    Calls Try.prog 8 #[.slice A n cap] w fun e w'' => ∃ u F, e = .returned u ∧ OwnF (fewL l) u F w'' ∧ (∀ b ∈ F, w.heap.size ≤ b ∧ b < w''.heap.size) ∧ Below w.heap.size w w'' :=
  (few2_any A n cap l w hn hv hs).mono fun e w2 ⟨v, h1, h2, h3⟩ => ⟨v, v.ownBlock.toList, h1, ⟨own_mono h2 (Nat.zero_le _), fun g hg => by rw [hg]; simp⟩, fun b hb => h2.lt b (by simpa using hb), h3⟩

theorem valO_of (k i : Int) (s : ByteArray) (hi : In64 i) : ∃ x : Vl, x.may = true ∧ In64 x.i ∧ x.oct = valO k i s := by
  cases hm : mayB k i s with
  | true => exact ⟨⟨k, i, s⟩, hm, hi, rfl⟩
  | false =>
    refine ⟨⟨0, 0, ⟨#[]⟩⟩, may_null, by unfold In64; show (_ : Int) ≤ 0 ∧ (0 : Int) ≤ _; omega, ?_⟩
    show valO 0 0 ⟨#[]⟩ = valO k i s
    unfold valO
    rw [hm, may_null]
    rfl
/-- A value's octets begin with no other one's. -/
theorem no_prefix {k i : Int} {s : ByteArray} {k' i' : Int} {s' : ByteArray} (hi : In64 i) (hi' : In64 i') (hne : valO k i s ≠ valO k' i' s') : (valO k' i' s').take (valO k i s).length ≠ valO k i s := by
  intro e
  obtain ⟨x, hx, ix, ox⟩ := valO_of k i s hi
  obtain ⟨y, hy, iy, oy⟩ := valO_of k' i' s' hi'
  have := List.take_append_drop (valO k i s).length (valO k' i' s')
  rw [e, ← ox, ← oy] at this
  obtain ⟨e1, _⟩ := oct_split (r' := []) hx hy ix iy (this.trans (List.append_nil _).symm)
  exact hne (by rw [← ox, ← oy, e1])
theorem rowO_app (l m : List Vl) : rowO (l ++ m) = rowO l ++ rowO m := by simp [rowO]
theorem rowOk_app {l m : List Vl} (h : rowOk (l ++ m) = true) : rowOk l = true ∧ rowOk m = true := by
  obtain ⟨h1, h2⟩ := rowOk_may h
  simp at h1
  constructor
  · unfold rowOk; rw [decide_eq_true (by omega), List.all_eq_true.2 fun x hx => h2 x (List.mem_append_left _ hx)]; rfl
  · unfold rowOk; rw [decide_eq_true (by omega), List.all_eq_true.2 fun x hx => h2 x (List.mem_append_right _ hx)]; rfl

/-- A row of one's own, and another one's values behind it. -/
theorem append_row {ops : Array Oper} {rest : List Oper} {o : Oper} {a : Act} {Q : Exit → Act → World → Prop} {W : World} (hgd : o.guard = none) (s x : Operand)
    (ho : o.op = .call { callee := .builtin .append, args := #[s, x], argTypes := #[22, 22] }) (B : Nat) (v u : Value) (L M : List Vl) (hs : a.eval s = v) (hx : a.eval x = u)
    (hown : W.ownsRow B 24 3 v L.length (cellsOf L)) (hou : W.ownsRow 0 24 3 u M.length (cellsOf M)) (hl : L.length + M.length ≤ 100) (hB : B ≤ W.heap.size)
    (h : ∀ v' w', w'.ownsRow B 24 3 v' (L ++ M).length (cellsOf (L ++ M)) → W.grownBy w' v.ownBlock → wpList Try.prog ops Q rest (a.put o.dst v') w') : wpList Try.prog ops Q (o :: rest) a W := by
  obtain ⟨i0, hi, hz0, hz1, hz2⟩ := info_parts infoVal
  rcases hou.2 with ⟨rfl, h0⟩ | ⟨g, cap, cur, rfl, hbg, hg, hc, hm, hcs, htake⟩
  · obtain rfl : M = [] := List.length_eq_zero_iff.1 h0
    exact wpList_append_own_none hgd s x _ ho B 24 i0 3 Try.underlying22 hi v L.length (cellsOf L) hs hown hx (h v W (by simpa using hown) ⟨rfl, rfl, rfl, Nat.le_refl _, fun _ _ _ => rfl⟩)
  · refine wpList_append_own _ hgd s x _ ho B 24 i0 _ 3 32 Try.underlying22 hi hz0 hz1 hz2 rfl (by decide) v L.length (cellsOf L) hs hown ⟨g, 0, none⟩ M.length cap (cellsOf M) hx hou.1 ?_ (cells_one M) (by unfold maxLen; omega) (by omega) hB ?_
    · intro j c hj
      have hj' : j < (cellsOf M).length := (List.getElem?_eq_some_iff.1 hj).1
      have hadd : (⟨g, 0, none⟩ : Addr).add j = ⟨g, j, none⟩ := by unfold Addr.add; split <;> simp_all
      rw [hadd, hou.cellAt j (by rw [← hou.1]; exact hj')]
      exact hj
    · intro v' w' h2 h3 _
      exact h v' w' (by rw [List.length_append, cells_app]; exact h2) h3
theorem lit_row (w : World) (B : Nat) (hB : B ≤ w.heap.size) : (w.alloc (.cells #[] 24)).ownsRow B 24 3 (.slice (some ⟨w.heap.size, 0, none⟩) 0 0) ([] : List Vl).length (cellsOf []) := World.ownsRow_lit w #[] 0 hB (by unfold maxLen; omega) rfl
theorem i64_app {l m : List Vl} (h : I64 l) (h' : I64 m) : I64 (l ++ m) := fun x hx => (List.mem_append.1 hx).elim (h x) (h' x)
theorem row_size (l : List Vl) : (rowS (fewL l)).size ≤ 1000 := by
  cases h : rowOk (fewL l) with
  | true =>
    have e := rowS_t h
    rw [toList_data] at e
    have h1 := size_of_list e
    have h2 := rowO_len (fewL l)
    have h3 := few_len l
    omega
  | false => rw [rowS_f h]; simp [ByteArray.size]
theorem row_cases (l m : List Vl) : rowE l = 1 ∨ (rowE l = 0 ∧ rowE m = 1) ∨ (rowE l = 0 ∧ rowE m = 0 ∧ rowE (l ++ m) = 1) ∨ (rowE l = 0 ∧ rowE m = 0 ∧ rowE (l ++ m) = 0 ∧ rowS (l ++ m) = rowS l ++ rowS m) := by
  cases h1 : rowOk l with
  | false => exact .inl (rowE_f h1)
  | true =>
    cases h2 : rowOk m with
    | false => exact .inr (.inl ⟨rowE_t h1, rowE_f h2⟩)
    | true =>
      cases h3 : rowOk (l ++ m) with
      | false => exact .inr (.inr (.inl ⟨rowE_t h1, rowE_t h2, rowE_f h3⟩))
      | true =>
        refine .inr (.inr (.inr ⟨rowE_t h1, rowE_t h2, rowE_t h3, ?_⟩))
        apply ByteArray.ext
        apply Array.toList_inj.1
        have e1 := rowS_t h1
        have e2 := rowS_t h2
        have e3 := rowS_t h3
        rw [toList_data] at e1 e2 e3
        rw [e3, rowO_app]
        simp [e1, e2]

end Go.Proofs.Ytggejkkpajpmkaa
