import Derived.Test.YtchebhdndkaheaaGreatDoorW21
import Derived.Test.YtchebhdndkaheaaGreatDoorW16
import Derived.Test.YtchebhdndkaheaaGreatDoorW17

/- The chapter's example of layer 6: the table of its statement, with places. -/
namespace Go.Proofs.YtchebhdndkaheaaGreatDoor
open Go.RowKit Go.Lib

/-- What Clone of the columns leaves. -/
def clK (v : Value) (F : List Nat) (w : World) : Prop := ∃ g c, F = [g] ∧ v = .slice (some ⟨g, 0, none⟩) 1 c ∧ 1 ≤ c ∧ (∃ cur, w.heap[g]? = some (.cells cur 43 (0, 0))) ∧ ColS w (some ⟨g, 0, none⟩) 1 [kC]
theorem clK_lasting : ∀ u F, Lasting (clK u F) := by
  rintro u F w w' hb ⟨g, c, h1, h2, h3, ⟨cur, h4⟩, h5⟩
  exact ⟨g, c, h1, h2, h3, ⟨cur, (hb.block g (lt_of_block h4)).trans h4⟩, h5.below hb⟩
theorem clK_enter {P : Program} {w : World} {f : FuncId} {args : Array Value} (h : Calls P f args w fun e w' => ∃ g c, e = .returned (.slice (some ⟨g, 0, none⟩) 1 c) ∧ w.heap.size ≤ g ∧ 1 ≤ c ∧ (∃ cur, w'.heap[g]? = some (.cells cur 43 (0, 0))) ∧ ColS w' (some ⟨g, 0, none⟩) 1 [kC] ∧ Below w.heap.size w w') : Rel1 P clK w (.ok (.enter f args) w) :=
  Calls.mono h fun e w' ⟨g, c, h1, h2, h3, ⟨cur, h4⟩, h5, hb⟩ => ⟨_, [g], h1, ⟨g, c, rfl, rfl, h3, ⟨cur, h4⟩, h5⟩, fun b hb' => by
    simp only [List.mem_singleton] at hb'
    subst hb'
    exact ⟨h2, lt_of_block h4⟩, hb⟩
theorem clK_at {g c g' : Nat} {w : World} (h : clK (.slice (some ⟨g, 0, none⟩) 1 c) [g'] w) : g = g' ∧ 1 ≤ c ∧ (∃ cur, w.heap[g]? = some (.cells cur 43 (0, 0))) ∧ ColS w (some ⟨g, 0, none⟩) 1 [kC] := by
  obtain ⟨q, c', h1, h2, h3, h4, h5⟩ := h
  injection h2 with e1 _ e3
  injection e1 with e1
  injection e1 with e1
  injection h1 with h1
  subst e1 e3
  exact ⟨h1.symm, h3, h4, h5⟩
/-- What the copy of the check leaves. -/
def cpK (v : Value) (F : List Nat) (w : World) : Prop := ∃ g c, F = [g] ∧ v = .agg #[.string ⟨#[60]⟩, .int .i64 0, .int .i64 0, .string ⟨#[]⟩, .string ⟨#[]⟩, .slice (some ⟨g, 0, none⟩) 2 c] ∧ ∀ j u, leCells[j]? = some u → w.cell? ⟨g, j, none⟩ = some u
theorem le_lt {w : World} {g : Nat} (h : ∀ j u, leCells[j]? = some u → w.cell? ⟨g, j, none⟩ = some u) : g < w.heap.size := World.block_lt_of_cell? w _ (h 0 _ rfl)
theorem cpK_lasting : ∀ u F, Lasting (cpK u F) := by
  rintro u F w w' hb ⟨g, c, h1, h2, h3⟩
  exact ⟨g, c, h1, h2, fun j u h => (hb.cell (p := ⟨g, j, none⟩) (le_lt h3)).trans (h3 j u h)⟩
theorem cpK_enter {P : Program} {w : World} {f : FuncId} {args : Array Value} (h : Calls P f args w fun e w' => ∃ g c, e = .returned (.agg #[.string ⟨#[60]⟩, .int .i64 0, .int .i64 0, .string ⟨#[]⟩, .string ⟨#[]⟩, .slice (some ⟨g, 0, none⟩) 2 c]) ∧ w.heap.size ≤ g ∧ (∀ j u, leCells[j]? = some u → w'.cell? ⟨g, j, none⟩ = some u) ∧ Below w.heap.size w w') : Rel1 P cpK w (.ok (.enter f args) w) :=
  Calls.mono h fun e w' ⟨g, c, h1, h2, h3, hb⟩ => ⟨_, [g], h1, ⟨g, c, rfl, rfl, h3⟩, fun b hb' => by
    simp only [List.mem_singleton] at hb'
    subst hb'
    exact ⟨h2, le_lt h3⟩, hb⟩
theorem cpK_at {g c g' : Nat} {w : World} (h : cpK (.agg #[.string ⟨#[60]⟩, .int .i64 0, .int .i64 0, .string ⟨#[]⟩, .string ⟨#[]⟩, .slice (some ⟨g, 0, none⟩) 2 c]) [g'] w) : g = g' ∧ ∀ j u, leCells[j]? = some u → w.cell? ⟨g, j, none⟩ = some u := by
  obtain ⟨q, c', h1, h2, h3⟩ := h
  injection h2 with e
  simp only [Array.mk.injEq, List.cons.injEq, Value.slice.injEq, Option.some.injEq, Addr.mk.injEq, true_and, and_true] at e
  injection h1 with h1
  obtain ⟨e1, _⟩ := e
  subst e1
  exact ⟨h1.symm, h3⟩
/-- What holds in placed, of the table in block d. -/
structure Pk (w : World) (CE X : Array Value) (d g g2 : Nat) (W : World) : Prop where
  pl : Below w.heap.size w W
  inn : W.heap[w.heap.size]? = some (.cells CE 61 (0, 0))
  res : W.heap[w.heap.size + 1]? = some (.cells #[.string ⟨#[]⟩, .slice none 0 0, .int .i64 0, .slice none 0 0, .slice none 0 0, .string ⟨#[]⟩, .int .i64 0, .int .i64 0, .string ⟨#[]⟩, .string ⟨#[]⟩, .slice none 0 0] 31 (0, 0))
  box : W.heap[d]? = some (.cells X 31 (0, 0))
  ld : w.heap.size + 1 < d
  lg : w.heap.size + 1 < g
  lg2 : w.heap.size + 1 < g2
  ne1 : g ≠ d
  ne2 : g2 ≠ d
  ne3 : g ≠ g2
  own : ∃ cur, W.heap[g]? = some (.cells cur 43 (0, 0))
  cols : ColS W (some ⟨g, 0, none⟩) 1 [kC]
  le : ∀ j u, leCells[j]? = some u → W.cell? ⟨g2, j, none⟩ = some u
section
variable {w W W' : World} {CE X : Array Value} {d g g2 : Nat}
theorem Pk.later (h : Pk w CE X d g g2 W) (hb : Below W.heap.size W W') : Pk w CE X d g g2 W' :=
  ⟨h.pl.trans (hb.mono h.pl.size), (hb.block _ (lt_of_block h.inn)).trans h.inn, (hb.block _ (lt_of_block h.res)).trans h.res, (hb.block _ (lt_of_block h.box)).trans h.box, h.ld, h.lg, h.lg2, h.ne1, h.ne2, h.ne3, by
    obtain ⟨cur, hc⟩ := h.own
    exact ⟨cur, (hb.block _ (lt_of_block hc)).trans hc⟩, h.cols.below hb, fun j u hj => (hb.cell (p := ⟨g2, j, none⟩) (le_lt h.le)).trans (h.le j u hj)⟩
theorem Pk.turn (h : Pk w CE X d g g2 W) {X' : Array Value} (hs : W.heap.size ≤ W'.heap.size) (ho : W'.os = W.os) (ht : W'.tape = W.tape) (hp : W'.output = W.output) (hx : W'.heap[d]? = some (.cells X' 31 (0, 0))) (hb : ∀ b, b < W.heap.size → b ≠ d → W'.heap[b]? = W.heap[b]?) : Pk w CE X' d g g2 W' := by
  have h1 := h.ld
  have h2 := h.lg
  have h3 := h.lg2
  have hz := h.pl.size
  have hd := lt_of_block h.box
  obtain ⟨cur, hc⟩ := h.own
  exact ⟨⟨ho.trans h.pl.os, ht.trans h.pl.tape, hp.trans h.pl.output, Nat.le_trans hz hs, fun q hq => (hb q (by omega) (by omega)).trans (h.pl.block q hq)⟩, (hb _ (by omega) (by omega)).trans h.inn, (hb _ (by omega) (by omega)).trans h.res, hx, h.ld, h.lg, h.lg2, h.ne1, h.ne2, h.ne3,
    ⟨cur, (hb _ (lt_of_block hc) h.ne1).trans hc⟩, h.cols.keep fun a e => by
      injection e with e
      subst e
      exact hb _ (lt_of_block hc) h.ne1, fun j u hj => (World.cell?_of_block (w := W) (a := ⟨g2, j, none⟩) (hb _ (le_lt h.le) h.ne2)).trans (h.le j u hj)⟩
theorem Pk.row (h : Pk w CE X d g g2 W) (X' : Array Value) : Pk w CE X' d g g2 (W.setRow d X') :=
  h.turn (by rw [setRow_size]; exact Nat.le_refl _) rfl rfl rfl (setRow_heap _ _ _ _ _ _ h.box) fun b _ hb => setRow_other _ _ _ _ hb
end
theorem wpOp_wp {P : Program} {ops : Array Oper} {Q : Exit → Act → World → Prop} {i : Nat} {oi : Oper} {a : Act} {w : World} {Kt : Act → World → Prop} (hi : ops[i]? = some oi) (hg : Region.wanted oi (yielded ops a.tmps) = true) (h : Oper.wp P oi a w Kt Q) : wpOp P ops Q i Kt a w := by
  unfold wpOp
  simp only [hi, hg, if_true]
  exact .inl h
theorem TbAt.of_heap {W : World} {b : Nat} {nm : ByteArray} {A : Option Addr} {n c : Nat} {key : Int} {U : Option Addr} {m cu : Nat} {R : Option Addr} {p cr : Nat} {op : ByteArray} {k i : Int} {vs s : ByteArray} {B : Option Addr} {q d : Nat} (h : W.heap[b]? = some (.cells #[.string nm, .slice A n c, .int .i64 key, .slice U m cu, .slice R p cr, .string op, .int .i64 k, .int .i64 i, .string vs, .string s, .slice B q d] 31 (0, 0))) : TbAt W b nm A n c key U m cu R p cr op k i vs s B q d :=
  ⟨(Lib.cell_of_heap h 0).trans rfl, (Lib.cell_of_heap h 1).trans rfl, (Lib.cell_of_heap h 2).trans rfl, (Lib.cell_of_heap h 3).trans rfl, (Lib.cell_of_heap h 4).trans rfl, (Lib.cell_of_heap h 5).trans rfl, (Lib.cell_of_heap h 6).trans rfl, (Lib.cell_of_heap h 7).trans rfl, (Lib.cell_of_heap h 8).trans rfl, (Lib.cell_of_heap h 9).trans rfl, (Lib.cell_of_heap h 10).trans rfl⟩

set_option maxRecDepth 100000 in
set_option maxHeartbeats 4000000 in
theorem placed_k (a : Addr) (cap : Nat) (a2 : Addr) (cu : Nat) (w : World) (hc : ColS w (some a) 1 [kC]) (hl : ∀ j u, leCells[j]? = some u → w.cell? (a2.add j) = some u) :
    Calls Tryz.prog 40 #[.agg #[.string ⟨#[99, 114, 101, 97, 116, 101]⟩, .string ⟨#[116]⟩, .string ⟨#[]⟩, .slice none 0 0, .slice (some a) 1 cap, .string ⟨#[107]⟩, .slice none 0 0, .slice none 0 0, .string ⟨#[60]⟩, .int .i64 0, .int .i64 0, .string ⟨#[]⟩, .string ⟨#[]⟩, .slice (some a2) 2 cu, .slice none 0 0, .slice none 0 0, .string ⟨#[]⟩, .int .i64 0, .int .i64 0, .string ⟨#[]⟩, .string ⟨#[]⟩, .slice none 0 0, .string ⟨#[]⟩]] w fun e w' => ∃ g c1 g2 c2, e = .returned (.tuple #[.agg #[.string ⟨#[116]⟩, .slice (some ⟨g, 0, none⟩) 1 c1, .int .i64 0, .slice none 0 0, .slice none 0 0, .string ⟨#[60]⟩, .int .i64 0, .int .i64 0, .string ⟨#[]⟩, .string ⟨#[]⟩, .slice (some ⟨g2, 0, none⟩) 2 c2], .int .i64 0]) ∧ 1 ≤ c1 ∧ w.heap.size ≤ g ∧ w.heap.size ≤ g2 ∧ g ≠ g2 ∧ (∃ cur, w'.heap[g]? = some (.cells cur 43 (0, 0))) ∧ ColS w' (some ⟨g, 0, none⟩) 1 [kC] ∧ (∀ j u, leCells[j]? = some u → w'.cell? ⟨g2, j, none⟩ = some u) ∧ Below w.heap.size w w' := by
  have HC := Lib.hid hc
  have HL := Lib.hid hl
  have hal := World.block_lt_of_cell? w _ (hl 0 _ rfl)
  rw [add_block] at hal
  clear hc hl
  go_enter Tryz.func40, Tryz.ntmps40
  go_upto_region 1 with (fail)
  refine wp_gen (fun W => Below w.heap.size w W ∧ W.heap[w.heap.size]? = some (.cells #[.string ⟨#[99, 114, 101, 97, 116, 101]⟩, .string ⟨#[116]⟩, .string ⟨#[]⟩, .slice none 0 0, .slice (some a) 1 cap, .string ⟨#[107]⟩, .slice none 0 0, .slice none 0 0, .string ⟨#[60]⟩, .int .i64 0, .int .i64 0, .string ⟨#[]⟩, .string ⟨#[]⟩, .slice (some a2) 2 cu, .slice none 0 0, .slice none 0 0, .string ⟨#[]⟩, .int .i64 0, .int .i64 0, .string ⟨#[]⟩, .string ⟨#[]⟩, .slice none 0 0, .string ⟨#[]⟩] 61 (0, 0)) ∧ W.heap[w.heap.size + 1]? = some (.cells #[.string ⟨#[]⟩, .slice none 0 0, .int .i64 0, .slice none 0 0, .slice none 0 0, .string ⟨#[]⟩, .int .i64 0, .int .i64 0, .string ⟨#[]⟩, .string ⟨#[]⟩, .slice none 0 0] 31 (0, 0))) ⟨((Below.refl _ _).alloc (Nat.le_refl _) _).alloc (by simp) _, (Below.heap_alloc _ _ _ (by simp)).trans (alloc_at rfl _), alloc_at (by simp) _⟩ fun w0 hw0 => ?_
  have HB0 := Lib.hid hw0
  have k1 := Lib.cell_of_heap hw0.2.1 1
  have k4 := Lib.cell_of_heap hw0.2.1 4
  have k5 := Lib.cell_of_heap hw0.2.1 5
  have k6 := Lib.cell_of_heap hw0.2.1 6
  have k7 := Lib.cell_of_heap hw0.2.1 7
  have k8 := Lib.cell_of_heap hw0.2.1 8
  have k9 := Lib.cell_of_heap hw0.2.1 9
  have k10 := Lib.cell_of_heap hw0.2.1 10
  have k11 := Lib.cell_of_heap hw0.2.1 11
  have k12 := Lib.cell_of_heap hw0.2.1 12
  have k13 := Lib.cell_of_heap hw0.2.1 13
  simp only [List.getElem?_toArray, List.getElem?_cons_zero, List.getElem?_cons_succ] at k1 k4 k5 k6 k7 k8 k9 k10 k11 k12 k13
  have hz0 : w.heap.size + 1 < w0.heap.size := lt_of_block hw0.2.2
  have hzA : w.heap.size < w0.heap.size := by omega
  clear hw0
  have F2 : Hid (∀ W, Below w0.heap.size w0 W → Calls Tryz.prog 63 #[.slice (some a) 1 cap] W fun e w' => ∃ g c, e = .returned (.slice (some ⟨g, 0, none⟩) 1 c) ∧ W.heap.size ≤ g ∧ 1 ≤ c ∧ (∃ cur, w'.heap[g]? = some (.cells cur 43 (0, 0))) ∧ ColS w' (some ⟨g, 0, none⟩) 1 [kC] ∧ Below W.heap.size W w') := fun W hb =>
    cclone_k a cap W (HC.out.below (HB0.out.1.trans (hb.mono HB0.out.1.size)))
  have F3 : Hid (∀ W, Below w0.heap.size w0 W → Calls Tryz.prog 64 #[.agg #[.string ⟨#[60]⟩, .int .i64 0, .int .i64 0, .string ⟨#[]⟩, .string ⟨#[]⟩, .slice (some a2) 2 cu]] W fun e w' => ∃ g c, e = .returned (.agg #[.string ⟨#[60]⟩, .int .i64 0, .int .i64 0, .string ⟨#[]⟩, .string ⟨#[]⟩, .slice (some ⟨g, 0, none⟩) 2 c]) ∧ W.heap.size ≤ g ∧ (∀ j u, leCells[j]? = some u → w'.cell? ⟨g, j, none⟩ = some u) ∧ Below W.heap.size W w') := fun W hb =>
    copied_le a2 cu W fun j u hj => ((HB0.out.1.trans (hb.mono HB0.out.1.size)).cell (by rw [add_block]; exact hal)).trans (HL.out j u hj)
  refine detM_begin [.val (.pointer (some ⟨w.heap.size, 1, none⟩)), .val (.string ⟨#[116]⟩), .val (.pointer (some ⟨w.heap.size, 4, none⟩)), .val (.slice (some a) 1 cap), .rel clK, .val (.pointer (some ⟨w.heap.size, 8, none⟩)), .val (.agg #[.string ⟨#[60]⟩, .int .i64 0, .int .i64 0, .string ⟨#[]⟩, .string ⟨#[]⟩, .slice (some a2) 2 cu]), .rel cpK, .pure, .rel newTb] 10 11 (by kernel_rfl) (by kernel_rfl) ?_
  refine detM_val 0 (by kernel_rfl) rfl rfl (yields_of rfl fun w1 hb1 => ?_) ?_
  · have hc1 := bcellD hb1
    have HBx := Lib.hid hb1
    clear hb1
    go_simp
    exact Det1_same
  simp only [List.getElem_toArray, List.getElem_cons_succ, List.getElem_cons_zero, Act.put, List.setIfInBounds_toArray, List.set_cons_zero, List.set_cons_succ]
  refine detM_val 1 (by kernel_rfl) rfl rfl (yields_of rfl fun w1 hb1 => ?_) ?_
  · have hc1 := bcellD hb1
    have HBx := Lib.hid hb1
    clear hb1
    go_simp
    exact Det1_same
  simp only [List.getElem_toArray, List.getElem_cons_succ, List.getElem_cons_zero, Act.put, List.setIfInBounds_toArray, List.set_cons_zero, List.set_cons_succ]
  refine detM_val 2 (by kernel_rfl) rfl rfl (yields_of rfl fun w1 hb1 => ?_) ?_
  · have hc1 := bcellD hb1
    have HBx := Lib.hid hb1
    clear hb1
    go_simp
    exact Det1_same
  simp only [List.getElem_toArray, List.getElem_cons_succ, List.getElem_cons_zero, Act.put, List.setIfInBounds_toArray, List.set_cons_zero, List.set_cons_succ]
  refine detM_val 3 (by kernel_rfl) rfl rfl (yields_of rfl fun w1 hb1 => ?_) ?_
  · have hc1 := bcellD hb1
    have HBx := Lib.hid hb1
    clear hb1
    go_simp
    exact Det1_same
  simp only [List.getElem_toArray, List.getElem_cons_succ, List.getElem_cons_zero, Act.put, List.setIfInBounds_toArray, List.set_cons_zero, List.set_cons_succ]
  refine detM_rel 4 (by kernel_rfl) rfl rfl (yields_rel (by rfl) clK_lasting fun w1 hw1 => ?_) ?_
  · have hb1 := hw1.below
    have hc1 := bcellD hb1
    have HBx := Lib.hid hb1
    clear hb1 hw1
    go_simp
    exact clK_enter (F2.out _ ((Below.refl _ _).drew.trans HBx.out))
  rintro v G3 w1 hw1
  have qq : clK v G3 w1 := (hw1.ents _ List.mem_cons_self).1
  clear hw1
  unfold clK at qq
  obtain ⟨g, c1, rfl, rfl, -⟩ := qq
  simp only [List.getElem_toArray, List.getElem_cons_succ, List.getElem_cons_zero, Act.put, List.setIfInBounds_toArray, List.set_cons_zero, List.set_cons_succ]
  refine detM_val 5 (by kernel_rfl) rfl rfl (yields_of rfl fun w1 hb1 => ?_) ?_
  · have hc1 := bcellD hb1
    have HBx := Lib.hid hb1
    clear hb1
    go_simp
    exact Det1_same
  simp only [List.getElem_toArray, List.getElem_cons_succ, List.getElem_cons_zero, Act.put, List.setIfInBounds_toArray, List.set_cons_zero, List.set_cons_succ]
  refine detM_val 6 (by kernel_rfl) rfl rfl (yields_of rfl fun w1 hb1 => ?_) ?_
  · have hc1 := bcellD hb1
    have HBx := Lib.hid hb1
    clear hb1
    go_simp
    exact Det1_same
  simp only [List.getElem_toArray, List.getElem_cons_succ, List.getElem_cons_zero, Act.put, List.setIfInBounds_toArray, List.set_cons_zero, List.set_cons_succ]
  refine detM_rel 7 (by kernel_rfl) rfl rfl (yields_rel (by rfl) cpK_lasting fun w1 hw1 => ?_) ?_
  · have hb1 := hw1.below
    have hc1 := bcellD hb1
    have HBx := Lib.hid hb1
    clear hb1 hw1
    go_simp
    exact cpK_enter (F3.out _ ((Below.refl _ _).drew.trans HBx.out))
  rintro v G1 w1 hw1
  have qq : cpK v G1 w1 := (hw1.ents _ List.mem_cons_self).1
  clear hw1
  unfold cpK at qq
  obtain ⟨g2, c2, rfl, rfl, -⟩ := qq
  simp only [List.getElem_toArray, List.getElem_cons_succ, List.getElem_cons_zero, Act.put, List.setIfInBounds_toArray, List.set_cons_zero, List.set_cons_succ]
  refine detM_pure 8 (.agg #[.string ⟨#[116]⟩, .slice (some ⟨g, 0, none⟩) 1 c1, .int .i64 0, .slice none 0 0, .slice none 0 0, .string ⟨#[60]⟩, .int .i64 0, .int .i64 0, .string ⟨#[]⟩, .string ⟨#[]⟩, .slice (some ⟨g2, 0, none⟩) 2 c2]) (by kernel_rfl) rfl rfl rfl (fun w1 => ?_) ?_
  · go_simp
  simp only [List.getElem_toArray, List.getElem_cons_succ, List.getElem_cons_zero, Act.put, List.setIfInBounds_toArray, List.set_cons_zero, List.set_cons_succ]
  refine detM_rel 9 (by kernel_rfl) rfl rfl (yields_rel (by rfl) newTb_lasting fun w1 hw1 => ?_) ?_
  · have hb1 := hw1.below
    have hc1 := bcellD hb1
    have HBx := Lib.hid hb1
    clear hb1 hw1
    go_simp
    exact newTb_made
  rintro v G5 w1 hw1
  have qq : newTb v G5 w1 := (hw1.ents _ List.mem_cons_self).1
  clear hw1
  unfold newTb at qq
  obtain ⟨d1, rfl, rfl, -⟩ := qq
  simp only [List.getElem_toArray, List.getElem_cons_succ, List.getElem_cons_zero, Act.put, List.setIfInBounds_toArray, List.set_cons_zero, List.set_cons_succ]
  refine detM_tail [10] [_] (by kernel_rfl) rfl fun w11 hw11 => ?_
  simp only [List.getElem_toArray, List.getElem_cons_succ, List.getElem_cons_zero]
  have y1 := hw11.ents _ List.mem_cons_self
  have ye := hw11.ents _ (List.mem_cons_of_mem _ List.mem_cons_self)
  have yc := hw11.ents _ (List.mem_cons_of_mem _ (List.mem_cons_of_mem _ List.mem_cons_self))
  have hw0' := HB0.out.1.size
  have y1' : newTb (.pointer (some ⟨d1, 0, none⟩)) [d1] w11 := y1.1
  have ye' : cpK (.agg #[.string ⟨#[60]⟩, .int .i64 0, .int .i64 0, .string ⟨#[]⟩, .string ⟨#[]⟩, .slice (some ⟨g2, 0, none⟩) 2 c2]) [g2] w11 := ye.1
  have yc' : clK (.slice (some ⟨g, 0, none⟩) 1 c1) [g] w11 := yc.1
  have Z1 := newTb_at y1'
  have m1 : w.heap.size + 1 < d1 := Nat.lt_of_lt_of_le hz0 (y1.2.2 d1 List.mem_cons_self).1
  have m2 : w.heap.size + 1 < g2 := Nat.lt_of_lt_of_le hz0 (ye.2.2 g2 List.mem_cons_self).1
  have m3 : w.heap.size + 1 < g := Nat.lt_of_lt_of_le hz0 (yc.2.2 g List.mem_cons_self).1
  have qe := (cpK_at ye').2
  have qc := (clK_at yc').2
  clear y1 ye yc y1' ye' yc'
  have hle := qe
  obtain ⟨hc1, hown, hcols⟩ := qc
  have ap := hw11.apart
  simp only [List.pairwise_cons, List.mem_cons, List.not_mem_nil, or_false, forall_eq, forall_eq_or_imp] at ap
  have HF1 : Hid (Pk w #[.string ⟨#[99, 114, 101, 97, 116, 101]⟩, .string ⟨#[116]⟩, .string ⟨#[]⟩, .slice none 0 0, .slice (some a) 1 cap, .string ⟨#[107]⟩, .slice none 0 0, .slice none 0 0, .string ⟨#[60]⟩, .int .i64 0, .int .i64 0, .string ⟨#[]⟩, .string ⟨#[]⟩, .slice (some a2) 2 cu, .slice none 0 0, .slice none 0 0, .string ⟨#[]⟩, .int .i64 0, .int .i64 0, .string ⟨#[]⟩, .string ⟨#[]⟩, .slice none 0 0, .string ⟨#[]⟩] #[.string ⟨#[]⟩, .slice none 0 0, .int .i64 0, .slice none 0 0, .slice none 0 0, .string ⟨#[]⟩, .int .i64 0, .int .i64 0, .string ⟨#[]⟩, .string ⟨#[]⟩, .slice none 0 0] d1 g g2 w11) := ⟨HB0.out.1.drew.trans (hw11.below.mono hw0'), (hw11.below.block _ (by show w.heap.size < w0.heap.size; omega)).trans HB0.out.2.1, (hw11.below.block _ hz0).trans HB0.out.2.2, Z1, m1, m3, m2, fun e => by simp [e] at ap, fun e => by simp [e] at ap, fun e => by simp [e] at ap, hown, hcols, hle⟩
  refine wpList_store_row rfl 31 (.tmp 4) (.tmp 19) rfl d1 #[.string ⟨#[116]⟩, .slice (some ⟨g, 0, none⟩) 1 c1, .int .i64 0, .slice none 0 0, .slice none 0 0, .string ⟨#[60]⟩, .int .i64 0, .int .i64 0, .string ⟨#[]⟩, .string ⟨#[]⟩, .slice (some ⟨g2, 0, none⟩) 2 c2] rfl rfl 31 _ Z1 tbSize rfl (tb_one _ _ _ _ _ _ _ _ _ _ _ _ _ _ _ _ _ _ _) ?_
  have HC1 := Lib.hid hc1
  clear qe ap hw11 Z1 hle hown hcols hc1 F2 F3 k1 k4 k5 k6 k7 k8 k9 k10 k11 k12 k13 HC HL hal m1 m2 m3 hz0 hw0' HB0
  go_upto_region 2 with (fail)
  refine wp_gen (Pk w #[.string ⟨#[99, 114, 101, 97, 116, 101]⟩, .string ⟨#[116]⟩, .string ⟨#[]⟩, .slice none 0 0, .slice (some a) 1 cap, .string ⟨#[107]⟩, .slice none 0 0, .slice none 0 0, .string ⟨#[60]⟩, .int .i64 0, .int .i64 0, .string ⟨#[]⟩, .string ⟨#[]⟩, .slice (some a2) 2 cu, .slice none 0 0, .slice none 0 0, .string ⟨#[]⟩, .int .i64 0, .int .i64 0, .string ⟨#[]⟩, .string ⟨#[]⟩, .slice none 0 0, .string ⟨#[]⟩] #[.string ⟨#[116]⟩, .slice (some ⟨g, 0, none⟩) 1 c1, .int .i64 0, .slice none 0 0, .slice none 0 0, .string ⟨#[60]⟩, .int .i64 0, .int .i64 0, .string ⟨#[]⟩, .string ⟨#[]⟩, .slice (some ⟨g2, 0, none⟩) 2 c2] d1 g g2) (HF1.out.row _) fun w1 hw1 => ?_
  have H1 := Lib.hid hw1
  clear hw1 HF1
  have hd1 := lt_of_block H1.out.box
  have hin1 := lt_of_block H1.out.inn
  go_upto_region 4 with (fail)
  refine wp_gen (fun W => Pk w #[.string ⟨#[99, 114, 101, 97, 116, 101]⟩, .string ⟨#[116]⟩, .string ⟨#[]⟩, .slice none 0 0, .slice (some a) 1 cap, .string ⟨#[107]⟩, .slice none 0 0, .slice none 0 0, .string ⟨#[60]⟩, .int .i64 0, .int .i64 0, .string ⟨#[]⟩, .string ⟨#[]⟩, .slice (some a2) 2 cu, .slice none 0 0, .slice none 0 0, .string ⟨#[]⟩, .int .i64 0, .int .i64 0, .string ⟨#[]⟩, .string ⟨#[]⟩, .slice none 0 0, .string ⟨#[]⟩] #[.string ⟨#[116]⟩, .slice (some ⟨g, 0, none⟩) 1 c1, .int .i64 0, .slice none 0 0, .slice none 0 0, .string ⟨#[60]⟩, .int .i64 0, .int .i64 0, .string ⟨#[]⟩, .string ⟨#[]⟩, .slice (some ⟨g2, 0, none⟩) 2 c2] d1 g g2 W ∧ W.heap[w1.heap.size]? = some (.cells #[.int .i64 0] 38 (0, 0))) ⟨?e1, ?e2⟩ fun w2 hw2 => ?_
  case e1 => exact H1.out.later ((Below.refl _ _).alloc (Nat.le_refl _) _)
  case e2 => exact alloc_at rfl _
  have H2 := Lib.hid hw2
  have hdx : d1 < w1.heap.size := hd1
  clear hw2 H1 hd1 hin1
  have hd1 := lt_of_block H2.out.1.box
  have hin1 := lt_of_block H2.out.1.inn
  have kx := Lib.cell_of_heap H2.out.1.inn 5
  simp only [List.getElem?_toArray, List.getElem?_cons_zero, List.getElem?_cons_succ] at kx
  have HPL := Lib.hid (placed1_k ⟨#[116]⟩ (some ⟨g, 0, none⟩) c1 0 none 0 0 none 0 0 ⟨#[60]⟩ 0 0 ⟨#[]⟩ ⟨#[]⟩ (some ⟨g2, 0, none⟩) 2 c2 d1 w1.heap.size w2 (TbAt.of_heap H2.out.1.box) H2.out.1.cols)
  go_upto_region 5 with (go_at_call 65; (with_reducible refine HPL.out.mono ?_); rintro e w3 ⟨rfl, hb3⟩; have H3 := Lib.hid (And.intro (H2.out.1.later hb3) ((hb3.block _ (lt_of_block H2.out.2)).trans H2.out.2)); clear hb3; have x2 := Lib.cell_of_heap H3.out.1.box 2; have bf := Lib.frozen_of_heap H3.out.1.box; have hd3 := lt_of_block H3.out.1.box; simp only [List.getElem?_toArray, List.getElem?_cons_zero, List.getElem?_cons_succ] at x2)
  refine wp_gen (fun W => Pk w #[.string ⟨#[99, 114, 101, 97, 116, 101]⟩, .string ⟨#[116]⟩, .string ⟨#[]⟩, .slice none 0 0, .slice (some a) 1 cap, .string ⟨#[107]⟩, .slice none 0 0, .slice none 0 0, .string ⟨#[60]⟩, .int .i64 0, .int .i64 0, .string ⟨#[]⟩, .string ⟨#[]⟩, .slice (some a2) 2 cu, .slice none 0 0, .slice none 0 0, .string ⟨#[]⟩, .int .i64 0, .int .i64 0, .string ⟨#[]⟩, .string ⟨#[]⟩, .slice none 0 0, .string ⟨#[]⟩] #[.string ⟨#[116]⟩, .slice (some ⟨g, 0, none⟩) 1 c1, .int .i64 0, .slice none 0 0, .slice none 0 0, .string ⟨#[60]⟩, .int .i64 0, .int .i64 0, .string ⟨#[]⟩, .string ⟨#[]⟩, .slice (some ⟨g2, 0, none⟩) 2 c2] d1 g g2 W ∧ W.heap[w1.heap.size]? = some (.cells #[.int .i64 0] 38 (0, 0))) ⟨H3.out.1.turn (by simp [World.setCell]) rfl rfl rfl (any_set6 H3.out.1.box 2 _) (fun b _ hb => Below.heap_setCell _ _ _ _ hb), (Below.heap_setCell _ _ _ _ (by show w1.heap.size ≠ d1; omega)).trans H3.out.2⟩ fun w4 hw4 => ?_
  have H4 := Lib.hid hw4
  clear hw4 x2 bf hd3 kx HPL H3 H2
  have k6 := Lib.cell_of_heap H4.out.1.inn 6
  have k7 := Lib.cell_of_heap H4.out.1.inn 7
  simp only [List.getElem?_toArray, List.getElem?_cons_zero, List.getElem?_cons_succ] at k6 k7
  have hin4 := lt_of_block H4.out.1.inn
  go_wp2_with (fail)
  refine wp_loop_once ?_
  go_wp2_with (fail)
  refine wp_loop_once ?_
  go_upto_region 15 with (fail)
  have hbx := H4.out.1.box
  have hrs := H4.out.1.res
  have her := lt_of_block H4.out.2
  clear k6 k7
  refine wp_region_any (by kernel_rfl) ?_
  change wpAny _ _ _ _ (3 + 1) _ _ (World.drew _)
  have hld4 := H4.out.1.ld
  have hbd : w4.drew.heap[d1]? = some (.cells #[.string ⟨#[116]⟩, .slice (some ⟨g, 0, none⟩) 1 c1, .int .i64 0, .slice none 0 0, .slice none 0 0, .string ⟨#[60]⟩, .int .i64 0, .int .i64 0, .string ⟨#[]⟩, .string ⟨#[]⟩, .slice (some ⟨g2, 0, none⟩) 2 c2] 31 (0, 0)) := hbx
  have hrd : w4.drew.heap[w.heap.size + 1]? = some (.cells #[.string ⟨#[]⟩, .slice none 0 0, .int .i64 0, .slice none 0 0, .slice none 0 0, .string ⟨#[]⟩, .int .i64 0, .int .i64 0, .string ⟨#[]⟩, .string ⟨#[]⟩, .slice none 0 0] 31 (0, 0)) := hrs
  have hed : w4.drew.heap[w1.heap.size]? = some (.cells #[.int .i64 0] 38 (0, 0)) := H4.out.2
  have er := Lib.cell_of_heap hed 0
  have b0 := Lib.cell_of_heap hbd 0
  have b1 := Lib.cell_of_heap hbd 1
  have b2 := Lib.cell_of_heap hbd 2
  have b3 := Lib.cell_of_heap hbd 3
  have b4 := Lib.cell_of_heap hbd 4
  have b5 := Lib.cell_of_heap hbd 5
  have b6 := Lib.cell_of_heap hbd 6
  have b7 := Lib.cell_of_heap hbd 7
  have b8 := Lib.cell_of_heap hbd 8
  have b9 := Lib.cell_of_heap hbd 9
  have b10 := Lib.cell_of_heap hbd 10
  simp only [List.getElem?_toArray, List.getElem?_cons_zero, List.getElem?_cons_succ] at er b0 b1 b2 b3 b4 b5 b6 b7 b8 b9 b10
  refine wpAny_all (rs := [0, 1]) (by kernel_rfl) (by simp) ?_
  intro i hi1
  simp only [List.mem_cons, List.not_mem_nil, or_false] at hi1
  rcases hi1 with rfl | rfl
  · refine wpOp_value (v := .agg #[.string ⟨#[116]⟩, .slice (some ⟨g, 0, none⟩) 1 c1, .int .i64 0, .slice none 0 0, .slice none 0 0, .string ⟨#[60]⟩, .int .i64 0, .int .i64 0, .string ⟨#[]⟩, .string ⟨#[]⟩, .slice (some ⟨g2, 0, none⟩) 2 c2]) rfl rfl (by go_simp) ?_
    simp only [List.getElem_toArray, List.getElem_cons_succ, List.getElem_cons_zero, Act.put, List.setIfInBounds_toArray, List.set_cons_zero, List.set_cons_succ]
    refine wpAny_all (rs := [1, 2]) (by kernel_rfl) (by simp) ?_
    intro i hi1
    simp only [List.mem_cons, List.not_mem_nil, or_false] at hi1
    rcases hi1 with rfl | rfl
    · refine wpOp_value (v := .int .i64 0) rfl rfl (by go_simp) ?_
      simp only [List.getElem_toArray, List.getElem_cons_succ, List.getElem_cons_zero, Act.put, List.setIfInBounds_toArray, List.set_cons_zero, List.set_cons_succ]
      refine wpAny_chain [2, 3] _ _ _ _ (by kernel_rfl) (by decide) ?_
      refine (congrFun (congrFun (wpOps_picked [2, 3] [_, _] rfl) _) _).mpr ?_
      simp only [List.getElem_toArray, List.getElem_cons_succ, List.getElem_cons_zero, Act.put, List.setIfInBounds_toArray, List.set_cons_zero, List.set_cons_succ]
      go_wp2_with (refine wpList_store_row rfl 31 (.tmp 2) (.tmp 62) rfl (w.heap.size + 1) #[.string ⟨#[116]⟩, .slice (some ⟨g, 0, none⟩) 1 c1, .int .i64 0, .slice none 0 0, .slice none 0 0, .string ⟨#[60]⟩, .int .i64 0, .int .i64 0, .string ⟨#[]⟩, .string ⟨#[]⟩, .slice (some ⟨g2, 0, none⟩) 2 c2] rfl rfl 31 _ hrd tbSize rfl (tb_one _ _ _ _ _ _ _ _ _ _ _ _ _ _ _ _ _ _ _) ?_)
      have HE := Lib.hid (H4.out.1)
      refine bodyPost_ret (results_row_tmp rfl _ _ (w.heap.size + 1) 31 #[.string ⟨#[116]⟩, .slice (some ⟨g, 0, none⟩) 1 c1, .int .i64 0, .slice none 0 0, .slice none 0 0, .string ⟨#[60]⟩, .int .i64 0, .int .i64 0, .string ⟨#[]⟩, .string ⟨#[]⟩, .slice (some ⟨g2, 0, none⟩) 2 c2] (0, 0) _ rfl (setRow_heap _ _ _ _ _ _ hrd) Tryz.underlying31 rfl tbSize _ rfl) rfl ⟨g, c1, g2, c2, rfl, HC1.out, by have := H4.out.1.lg; omega, by have := H4.out.1.lg2; omega, H4.out.1.ne3, ?_, ?_, ?_, ?_⟩
      · obtain ⟨cur, hc⟩ := H4.out.1.own
        exact ⟨cur, (setRow_other _ _ _ _ (by have := H4.out.1.lg; omega)).trans hc⟩
      · exact H4.out.1.cols.keep fun a e => by
          injection e with e
          subst e
          exact setRow_other _ _ _ _ (by have := H4.out.1.lg; show g ≠ w.heap.size + 1; omega)
      · intro j u hj
        exact (World.cell?_of_block (w := w4.drew) (a := ⟨g2, j, none⟩) (setRow_other _ _ _ _ (by have := H4.out.1.lg2; show g2 ≠ w.heap.size + 1; omega))).trans (H4.out.1.le j u hj)
      · exact below_row H4.out.1.pl.drew _ (Nat.le_succ _)
    · refine wpOp_wp rfl rfl (wp_store_row 31 (.tmp 2) (.tmp 62) rfl (w.heap.size + 1) #[.string ⟨#[116]⟩, .slice (some ⟨g, 0, none⟩) 1 c1, .int .i64 0, .slice none 0 0, .slice none 0 0, .string ⟨#[60]⟩, .int .i64 0, .int .i64 0, .string ⟨#[]⟩, .string ⟨#[]⟩, .slice (some ⟨g2, 0, none⟩) 2 c2] rfl rfl 31 _ hrd tbSize rfl (tb_one _ _ _ _ _ _ _ _ _ _ _ _ _ _ _ _ _ _ _) ?_)
      have er2 : (w4.drew.setRow (w.heap.size + 1) #[.string ⟨#[116]⟩, .slice (some ⟨g, 0, none⟩) 1 c1, .int .i64 0, .slice none 0 0, .slice none 0 0, .string ⟨#[60]⟩, .int .i64 0, .int .i64 0, .string ⟨#[]⟩, .string ⟨#[]⟩, .slice (some ⟨g2, 0, none⟩) 2 c2]).cell? ⟨w1.heap.size, 0, none⟩ = some (.int .i64 0) := Lib.cell_of_heap ((setRow_other _ _ _ _ (by omega)).trans hed) 0
      simp only [List.getElem_toArray, List.getElem_cons_succ, List.getElem_cons_zero, Act.put, List.setIfInBounds_toArray, List.set_cons_zero, List.set_cons_succ]
      refine wpAny_chain [1, 3] _ _ _ _ (by kernel_rfl) (by decide) ?_
      refine (congrFun (congrFun (wpOps_picked [1, 3] [_, _] rfl) _) _).mpr ?_
      simp only [List.getElem_toArray, List.getElem_cons_succ, List.getElem_cons_zero, Act.put, List.setIfInBounds_toArray, List.set_cons_zero, List.set_cons_succ]
      go_wp2_with (fail)
      have HE := Lib.hid (H4.out.1)
      refine bodyPost_ret (results_row_tmp rfl _ _ (w.heap.size + 1) 31 #[.string ⟨#[116]⟩, .slice (some ⟨g, 0, none⟩) 1 c1, .int .i64 0, .slice none 0 0, .slice none 0 0, .string ⟨#[60]⟩, .int .i64 0, .int .i64 0, .string ⟨#[]⟩, .string ⟨#[]⟩, .slice (some ⟨g2, 0, none⟩) 2 c2] (0, 0) _ rfl (setRow_heap _ _ _ _ _ _ hrd) Tryz.underlying31 rfl tbSize _ rfl) rfl ⟨g, c1, g2, c2, rfl, HC1.out, by have := H4.out.1.lg; omega, by have := H4.out.1.lg2; omega, H4.out.1.ne3, ?_, ?_, ?_, ?_⟩
      · obtain ⟨cur, hc⟩ := H4.out.1.own
        exact ⟨cur, (setRow_other _ _ _ _ (by have := H4.out.1.lg; omega)).trans hc⟩
      · exact H4.out.1.cols.keep fun a e => by
          injection e with e
          subst e
          exact setRow_other _ _ _ _ (by have := H4.out.1.lg; show g ≠ w.heap.size + 1; omega)
      · intro j u hj
        exact (World.cell?_of_block (w := w4.drew) (a := ⟨g2, j, none⟩) (setRow_other _ _ _ _ (by have := H4.out.1.lg2; show g2 ≠ w.heap.size + 1; omega))).trans (H4.out.1.le j u hj)
      · exact below_row H4.out.1.pl.drew _ (Nat.le_succ _)
  · refine wpOp_value (v := .int .i64 0) rfl rfl (by go_simp) ?_
    simp only [List.getElem_toArray, List.getElem_cons_succ, List.getElem_cons_zero, Act.put, List.setIfInBounds_toArray, List.set_cons_zero, List.set_cons_succ]
    refine wpAny_chain [0, 2, 3] _ _ _ _ (by kernel_rfl) (by decide) ?_
    refine (congrFun (congrFun (wpOps_picked [0, 2, 3] [_, _, _] rfl) _) _).mpr ?_
    simp only [List.getElem_toArray, List.getElem_cons_succ, List.getElem_cons_zero, Act.put, List.setIfInBounds_toArray, List.set_cons_zero, List.set_cons_succ]
    go_wp2_with (refine wpList_store_row rfl 31 (.tmp 2) (.tmp 62) rfl (w.heap.size + 1) #[.string ⟨#[116]⟩, .slice (some ⟨g, 0, none⟩) 1 c1, .int .i64 0, .slice none 0 0, .slice none 0 0, .string ⟨#[60]⟩, .int .i64 0, .int .i64 0, .string ⟨#[]⟩, .string ⟨#[]⟩, .slice (some ⟨g2, 0, none⟩) 2 c2] rfl rfl 31 _ hrd tbSize rfl (tb_one _ _ _ _ _ _ _ _ _ _ _ _ _ _ _ _ _ _ _) ?_)
    have HE := Lib.hid (H4.out.1)
    refine bodyPost_ret (results_row_tmp rfl _ _ (w.heap.size + 1) 31 #[.string ⟨#[116]⟩, .slice (some ⟨g, 0, none⟩) 1 c1, .int .i64 0, .slice none 0 0, .slice none 0 0, .string ⟨#[60]⟩, .int .i64 0, .int .i64 0, .string ⟨#[]⟩, .string ⟨#[]⟩, .slice (some ⟨g2, 0, none⟩) 2 c2] (0, 0) _ rfl (setRow_heap _ _ _ _ _ _ hrd) Tryz.underlying31 rfl tbSize _ rfl) rfl ⟨g, c1, g2, c2, rfl, HC1.out, by have := H4.out.1.lg; omega, by have := H4.out.1.lg2; omega, H4.out.1.ne3, ?_, ?_, ?_, ?_⟩
    · obtain ⟨cur, hc⟩ := H4.out.1.own
      exact ⟨cur, (setRow_other _ _ _ _ (by have := H4.out.1.lg; omega)).trans hc⟩
    · exact H4.out.1.cols.keep fun a e => by
        injection e with e
        subst e
        exact setRow_other _ _ _ _ (by have := H4.out.1.lg; show g ≠ w.heap.size + 1; omega)
    · intro j u hj
      exact (World.cell?_of_block (w := w4.drew) (a := ⟨g2, j, none⟩) (setRow_other _ _ _ _ (by have := H4.out.1.lg2; show g2 ≠ w.heap.size + 1; omega))).trans (H4.out.1.le j u hj)
    · exact below_row H4.out.1.pl.drew _ (Nat.le_succ _)
end Go.Proofs.YtchebhdndkaheaaGreatDoor

/- The chapter's example of layer 6: schema.Of. -/
namespace Go.Proofs.YtchebhdndkaheaaGreatDoor
open Go.RowKit Go.Lib

theorem le_tr {W : World} {g c N : Nat} {P : Nat → Prop} (hp : P g) (h : ∀ j u, leCells[j]? = some u → W.cell? ⟨g, j, none⟩ = some u) : Tr W P (N + 1) (.mk ⟨#[60]⟩ ⟨0, 0, ⟨#[]⟩⟩ ⟨#[]⟩ [colT ⟨#[107]⟩, litT ⟨1, 5, ⟨#[]⟩⟩]) (.slice (some ⟨g, 0, none⟩) 2 c) := by
  refine ⟨by show (0 : Nat) ≤ 100000; omega, some ⟨g, 0, none⟩, c, rfl, by show (2 : Nat) ≤ maxLen; unfold maxLen; omega, fun j hj => ?_⟩
  have hj' : j < 2 := hj
  match j, hj' with
  | 0, _ =>
    refine ⟨⟨g, 0, none⟩, .slice none 0 0, rfl, hp, ?_, by show (1 : Nat) ≤ 100000; omega, (leaf_tr W P N ⟨#[99, 111, 108]⟩ ⟨0, 0, ⟨#[]⟩⟩ ⟨#[107]⟩ (by show (1 : Nat) ≤ 100000; omega)).2⟩
    rw [show (⟨g, 0, none⟩ : Addr).add (0 * 6) = ⟨g, 0, none⟩ by simp [Addr.add]]
    exact ⟨h 0 _ rfl, h 1 _ rfl, h 2 _ rfl, h 3 _ rfl, h 4 _ rfl, h 5 _ rfl⟩
  | 1, _ =>
    refine ⟨⟨g, 0, none⟩, .slice none 0 0, rfl, hp, ?_, by show (0 : Nat) ≤ 100000; omega, (leaf_tr W P N ⟨#[108, 105, 116]⟩ ⟨1, 5, ⟨#[]⟩⟩ ⟨#[]⟩ (by show (0 : Nat) ≤ 100000; omega)).2⟩
    rw [show (⟨g, 0, none⟩ : Addr).add (1 * 6) = ⟨g, 6, none⟩ by simp [Addr.add]]
    exact ⟨h 6 _ rfl, h 7 _ rfl, h 8 _ rfl, h 9 _ rfl, h 10 _ rfl, h 11 _ rfl⟩
theorem col_set {W : World} {g : Nat} {cur : Array Value} {ty : TypeId} (hc : W.heap[g]? = some (.cells cur ty (0, 0))) (h : ColS W (some ⟨g, 0, none⟩) 1 [kC]) : ColS (W.setCell ⟨g, 2, none⟩ (.bool true)) (some ⟨g, 0, none⟩) 1 [kN] := by
  obtain ⟨a, e, hA⟩ := h.2.2 0 (by decide)
  injection e with e
  subst e
  rw [show (⟨g, 0, none⟩ : Addr).add (0 * 3) = ⟨g, 0, none⟩ by simp [Addr.add]] at hA
  have h0 := (Lib.cell_of_heap hc 0).symm.trans hA.c0
  have h1 := (Lib.cell_of_heap hc 1).symm.trans hA.c1
  have h2 := (Lib.cell_of_heap hc 2).symm.trans hA.c2
  have hsz : 2 < cur.size := (Array.getElem?_eq_some_iff.1 h2).1
  have hs := any_set6 hc 2 (.bool true)
  refine ⟨rfl, by unfold maxLen; omega, fun j hj => ⟨_, rfl, ?_⟩⟩
  obtain rfl : j = 0 := by simp at hj; omega
  rw [show (⟨g, 0, none⟩ : Addr).add (0 * 3) = ⟨g, 0, none⟩ by simp [Addr.add]]
  refine ⟨(Lib.cell_of_heap hs 0).trans ?_, (Lib.cell_of_heap hs 1).trans ?_, (Lib.cell_of_heap hs 2).trans ?_⟩
  · rw [Array.getElem?_setIfInBounds_ne (by decide)]; exact h0
  · rw [Array.getElem?_setIfInBounds_ne (by decide)]; exact h1
  · rw [Array.getElem?_setIfInBounds_self_of_lt hsz]; rfl
/-- Behind Of: the table's cells as they were, its column not NULL. -/
structure Pn (w : World) (CE X : Array Value) (d g g2 : Nat) (W : World) : Prop where
  pl : Below w.heap.size w W
  res : W.heap[w.heap.size + 1]? = some (.cells #[.string ⟨#[]⟩, .slice none 0 0, .int .i64 0, .slice none 0 0, .slice none 0 0, .string ⟨#[]⟩, .int .i64 0, .int .i64 0, .string ⟨#[]⟩, .string ⟨#[]⟩, .slice none 0 0] 31 (0, 0))
  box : W.heap[d]? = some (.cells X 31 (0, 0))
  lg : w.heap.size + 1 < g
  lg2 : w.heap.size + 1 < g2
  cols : ColS W (some ⟨g, 0, none⟩) 1 [kN]
  le : ∀ j u, leCells[j]? = some u → W.cell? ⟨g2, j, none⟩ = some u
theorem Pk.notNull {w W : World} {CE X : Array Value} {d g g2 : Nat} (h : Pk w CE X d g g2 W) : Pn w CE X d g g2 (W.setCell ⟨g, 2, none⟩ (.bool true)) := by
  have h1 := h.lg
  have h2 := h.ld
  have f : ∀ b, b ≠ g → (W.setCell ⟨g, 2, none⟩ (.bool true)).heap[b]? = W.heap[b]? := fun b hb => Below.heap_setCell _ _ _ _ hb
  obtain ⟨cur, hc⟩ := h.own
  exact ⟨h.pl.setCell (by show w.heap.size ≤ g; omega) _, (f _ (by omega)).trans h.res, (f _ (Ne.symm h.ne1)).trans h.box, h1, h.lg2, col_set hc h.cols, fun j u hj => (World.cell?_of_block (w := W) (a := ⟨g2, j, none⟩) (f _ (Ne.symm h.ne3))).trans (h.le j u hj)⟩

set_option maxRecDepth 100000 in
set_option maxHeartbeats 4000000 in
theorem of_k (Q : Nat → Prop) (a : Addr) (cap : Nat) (a2 : Addr) (cu : Nat) (w : World) (hh : CrH Q (.slice (some a2) 2 cu) (some a) w) (hcap : 1 ≤ cap) (hl : ∀ j u, leCells[j]? = some u → w.cell? (a2.add j) = some u) :
    Calls Tryz.prog 21 #[.agg #[.string ⟨#[99, 114, 101, 97, 116, 101]⟩, .string ⟨#[116]⟩, .string ⟨#[]⟩, .slice none 0 0, .slice (some a) 1 cap, .string ⟨#[107]⟩, .slice none 0 0, .slice none 0 0, .string ⟨#[60]⟩, .int .i64 0, .int .i64 0, .string ⟨#[]⟩, .string ⟨#[]⟩, .slice (some a2) 2 cu, .slice none 0 0, .slice none 0 0, .string ⟨#[]⟩, .int .i64 0, .int .i64 0, .string ⟨#[]⟩, .string ⟨#[]⟩, .slice none 0 0, .string ⟨#[]⟩]] w fun e w' => ∃ g c1 g2 c2, e = .returned (.tuple #[.agg #[.string ⟨#[116]⟩, .slice (some ⟨g, 0, none⟩) 1 c1, .int .i64 0, .slice none 0 0, .slice none 0 0, .string ⟨#[60]⟩, .int .i64 0, .int .i64 0, .string ⟨#[]⟩, .string ⟨#[]⟩, .slice (some ⟨g2, 0, none⟩) 2 c2], .int .i64 0]) ∧ TbS w' ⟨#[116]⟩ (some ⟨g, 0, none⟩) 1 c1 0 none 0 0 none 0 0 ⟨#[60]⟩ 0 0 ⟨#[]⟩ ⟨#[]⟩ (some ⟨g2, 0, none⟩) 2 c2 [kN] [] [] [colT ⟨#[107]⟩, litT ⟨1, 5, ⟨#[]⟩⟩] (fun _ => True) 2 ∧ Below w.heap.size w w' := by
  have HH := Lib.hid hh
  have HL := Lib.hid hl
  have hal := World.block_lt_of_cell? w _ (hl 0 _ rfl)
  rw [add_block] at hal
  clear hh hl
  have STEP : Hid (∀ W W' : World, (Below w.heap.size w W ∧ W.heap[w.heap.size]? = some (.cells #[.string ⟨#[99, 114, 101, 97, 116, 101]⟩, .string ⟨#[116]⟩, .string ⟨#[]⟩, .slice none 0 0, .slice (some a) 1 cap, .string ⟨#[107]⟩, .slice none 0 0, .slice none 0 0, .string ⟨#[60]⟩, .int .i64 0, .int .i64 0, .string ⟨#[]⟩, .string ⟨#[]⟩, .slice (some a2) 2 cu, .slice none 0 0, .slice none 0 0, .string ⟨#[]⟩, .int .i64 0, .int .i64 0, .string ⟨#[]⟩, .string ⟨#[]⟩, .slice none 0 0, .string ⟨#[]⟩] 61 (0, 0)) ∧ W.heap[w.heap.size + 1]? = some (.cells #[.string ⟨#[]⟩, .slice none 0 0, .int .i64 0, .slice none 0 0, .slice none 0 0, .string ⟨#[]⟩, .int .i64 0, .int .i64 0, .string ⟨#[]⟩, .string ⟨#[]⟩, .slice none 0 0] 31 (0, 0))) → Below W.heap.size W W' → (Below w.heap.size w W' ∧ W'.heap[w.heap.size]? = some (.cells #[.string ⟨#[99, 114, 101, 97, 116, 101]⟩, .string ⟨#[116]⟩, .string ⟨#[]⟩, .slice none 0 0, .slice (some a) 1 cap, .string ⟨#[107]⟩, .slice none 0 0, .slice none 0 0, .string ⟨#[60]⟩, .int .i64 0, .int .i64 0, .string ⟨#[]⟩, .string ⟨#[]⟩, .slice (some a2) 2 cu, .slice none 0 0, .slice none 0 0, .string ⟨#[]⟩, .int .i64 0, .int .i64 0, .string ⟨#[]⟩, .string ⟨#[]⟩, .slice none 0 0, .string ⟨#[]⟩] 61 (0, 0)) ∧ W'.heap[w.heap.size + 1]? = some (.cells #[.string ⟨#[]⟩, .slice none 0 0, .int .i64 0, .slice none 0 0, .slice none 0 0, .string ⟨#[]⟩, .int .i64 0, .int .i64 0, .string ⟨#[]⟩, .string ⟨#[]⟩, .slice none 0 0] 31 (0, 0)))) := Lib.hid fun W W' h hb => ⟨h.1.trans (hb.mono h.1.size), (hb.block _ (lt_of_block h.2.1)).trans h.2.1, (hb.block _ (lt_of_block h.2.2)).trans h.2.2⟩
  go_enter Tryz.func21, Tryz.ntmps21
  go_upto_region 1 with (fail)
  refine wp_gen (fun W => Below w.heap.size w W ∧ W.heap[w.heap.size]? = some (.cells #[.string ⟨#[99, 114, 101, 97, 116, 101]⟩, .string ⟨#[116]⟩, .string ⟨#[]⟩, .slice none 0 0, .slice (some a) 1 cap, .string ⟨#[107]⟩, .slice none 0 0, .slice none 0 0, .string ⟨#[60]⟩, .int .i64 0, .int .i64 0, .string ⟨#[]⟩, .string ⟨#[]⟩, .slice (some a2) 2 cu, .slice none 0 0, .slice none 0 0, .string ⟨#[]⟩, .int .i64 0, .int .i64 0, .string ⟨#[]⟩, .string ⟨#[]⟩, .slice none 0 0, .string ⟨#[]⟩] 61 (0, 0)) ∧ W.heap[w.heap.size + 1]? = some (.cells #[.string ⟨#[]⟩, .slice none 0 0, .int .i64 0, .slice none 0 0, .slice none 0 0, .string ⟨#[]⟩, .int .i64 0, .int .i64 0, .string ⟨#[]⟩, .string ⟨#[]⟩, .slice none 0 0] 31 (0, 0))) ⟨((Below.refl _ _).alloc (Nat.le_refl _) _).alloc (by simp) _, (Below.heap_alloc _ _ _ (by simp)).trans (alloc_at rfl _), alloc_at (by simp) _⟩ fun w0 hw0 => ?_
  have H0 := Lib.hid hw0
  clear hw0
  have k0 := Lib.cell_of_heap H0.out.2.1 0
  have k4 := Lib.cell_of_heap H0.out.2.1 4
  simp only [List.getElem?_toArray, List.getElem?_cons_zero, List.getElem?_cons_succ] at k0 k4
  have hz0 := lt_of_block H0.out.2.1
  have hbx := H0.out.2.1
  go_upto_region 3 with (first
    | (go_at_call 39; (with_reducible refine (may_cr Q (.slice (some a2) 2 cu) (some a) cap _ (HH.out.below H0.out.1)).mono ?_); rintro e w1 ⟨rfl, hb1⟩; have H1 := Lib.hid (STEP.out _ _ H0.out hb1); clear hb1 hbx k0 k4; have k4 := Lib.cell_of_heap H1.out.2.1 4; simp only [List.getElem?_toArray, List.getElem?_cons_zero, List.getElem?_cons_succ] at k4; have hz1 := lt_of_block H1.out.2.1)
    | (refine wpList_load_row_on rfl 61 (.tmp 1) rfl w.heap.size rfl 61 #[.string ⟨#[99, 114, 101, 97, 116, 101]⟩, .string ⟨#[116]⟩, .string ⟨#[]⟩, .slice none 0 0, .slice (some a) 1 cap, .string ⟨#[107]⟩, .slice none 0 0, .slice none 0 0, .string ⟨#[60]⟩, .int .i64 0, .int .i64 0, .string ⟨#[]⟩, .string ⟨#[]⟩, .slice (some a2) 2 cu, .slice none 0 0, .slice none 0 0, .string ⟨#[]⟩, .int .i64 0, .int .i64 0, .string ⟨#[]⟩, .string ⟨#[]⟩, .slice none 0 0, .string ⟨#[]⟩] (0, 0) _ hbx Tryz.underlying61 rfl stSize ?_))
  go_upto_region 5 with (go_at_call 31; (with_reducible refine (twice_any (some a) 1 cap [kC] hcap _ (HH.out.col.below H1.out.1)).mono ?_); rintro e w2 ⟨rfl, hb2⟩; rw [twice_k]; have H2 := Lib.hid (STEP.out _ _ H1.out hb2); clear hb2 k4 hz1; have hbx := H2.out.2.1)
  have hz2 := lt_of_block hbx
  have HPC := Lib.hid (placed_k a cap a2 cu w2 (HH.out.col.below H2.out.1) (fun j u hj => (H2.out.1.cell (by rw [add_block]; exact hal)).trans (HL.out j u hj)))
  go_upto_region 6 with (first
    | (refine wpList_load_row rfl 61 (.tmp 1) rfl w.heap.size rfl 61 #[.string ⟨#[99, 114, 101, 97, 116, 101]⟩, .string ⟨#[116]⟩, .string ⟨#[]⟩, .slice none 0 0, .slice (some a) 1 cap, .string ⟨#[107]⟩, .slice none 0 0, .slice none 0 0, .string ⟨#[60]⟩, .int .i64 0, .int .i64 0, .string ⟨#[]⟩, .string ⟨#[]⟩, .slice (some a2) 2 cu, .slice none 0 0, .slice none 0 0, .string ⟨#[]⟩, .int .i64 0, .int .i64 0, .string ⟨#[]⟩, .string ⟨#[]⟩, .slice none 0 0, .string ⟨#[]⟩] (0, 0) _ hbx Tryz.underlying61 rfl stSize ?_)
    | (go_at_call 40; (with_reducible refine HPC.out.mono ?_); rintro e w3 ⟨g, c1, g2, c2, rfl, hc1, hg, hg2, hgg, hown, hcols, hle, hb3⟩; have H3 := Lib.hid (STEP.out _ _ H2.out hb3); have hst : (w3.alloc (.cells #[.string ⟨#[]⟩, .slice none 0 0, .int .i64 0, .slice none 0 0, .slice none 0 0, .string ⟨#[]⟩, .int .i64 0, .int .i64 0, .string ⟨#[]⟩, .string ⟨#[]⟩, .slice none 0 0] 31)).heap[w3.heap.size]? = some (.cells #[.string ⟨#[]⟩, .slice none 0 0, .int .i64 0, .slice none 0 0, .slice none 0 0, .string ⟨#[]⟩, .int .i64 0, .int .i64 0, .string ⟨#[]⟩, .string ⟨#[]⟩, .slice none 0 0] 31 (0, 0)) := alloc_at rfl _)
    | (refine wpList_store_row rfl 31 (.tmp 4) (.tmp 22) rfl w3.heap.size #[.string ⟨#[116]⟩, .slice (some ⟨g, 0, none⟩) 1 c1, .int .i64 0, .slice none 0 0, .slice none 0 0, .string ⟨#[60]⟩, .int .i64 0, .int .i64 0, .string ⟨#[]⟩, .string ⟨#[]⟩, .slice (some ⟨g2, 0, none⟩) 2 c2] rfl rfl 31 _ hst tbSize rfl (tb_one _ _ _ _ _ _ _ _ _ _ _ _ _ _ _ _ _ _ _) ?_))
  have hr2 := lt_of_block H2.out.2.2
  have hlg2 := le_lt hle
  have HPK : Hid (Pk w #[.string ⟨#[99, 114, 101, 97, 116, 101]⟩, .string ⟨#[116]⟩, .string ⟨#[]⟩, .slice none 0 0, .slice (some a) 1 cap, .string ⟨#[107]⟩, .slice none 0 0, .slice none 0 0, .string ⟨#[60]⟩, .int .i64 0, .int .i64 0, .string ⟨#[]⟩, .string ⟨#[]⟩, .slice (some a2) 2 cu, .slice none 0 0, .slice none 0 0, .string ⟨#[]⟩, .int .i64 0, .int .i64 0, .string ⟨#[]⟩, .string ⟨#[]⟩, .slice none 0 0, .string ⟨#[]⟩] #[.string ⟨#[116]⟩, .slice (some ⟨g, 0, none⟩) 1 c1, .int .i64 0, .slice none 0 0, .slice none 0 0, .string ⟨#[60]⟩, .int .i64 0, .int .i64 0, .string ⟨#[]⟩, .string ⟨#[]⟩, .slice (some ⟨g2, 0, none⟩) 2 c2] w3.heap.size g g2 ((w3.alloc (.cells #[.string ⟨#[]⟩, .slice none 0 0, .int .i64 0, .slice none 0 0, .slice none 0 0, .string ⟨#[]⟩, .int .i64 0, .int .i64 0, .string ⟨#[]⟩, .string ⟨#[]⟩, .slice none 0 0] 31)).setRow w3.heap.size #[.string ⟨#[116]⟩, .slice (some ⟨g, 0, none⟩) 1 c1, .int .i64 0, .slice none 0 0, .slice none 0 0, .string ⟨#[60]⟩, .int .i64 0, .int .i64 0, .string ⟨#[]⟩, .string ⟨#[]⟩, .slice (some ⟨g2, 0, none⟩) 2 c2])) := by
    have hb := hb3.size
    obtain ⟨cur, hcc⟩ := hown
    have hgl := lt_of_block hcc
    have AB : Below w3.heap.size w3 (w3.alloc (.cells #[.string ⟨#[]⟩, .slice none 0 0, .int .i64 0, .slice none 0 0, .slice none 0 0, .string ⟨#[]⟩, .int .i64 0, .int .i64 0, .string ⟨#[]⟩, .string ⟨#[]⟩, .slice none 0 0] 31)) := (Below.refl _ _).alloc (Nat.le_refl _) _
    have H0 : Pk w #[.string ⟨#[99, 114, 101, 97, 116, 101]⟩, .string ⟨#[116]⟩, .string ⟨#[]⟩, .slice none 0 0, .slice (some a) 1 cap, .string ⟨#[107]⟩, .slice none 0 0, .slice none 0 0, .string ⟨#[60]⟩, .int .i64 0, .int .i64 0, .string ⟨#[]⟩, .string ⟨#[]⟩, .slice (some a2) 2 cu, .slice none 0 0, .slice none 0 0, .string ⟨#[]⟩, .int .i64 0, .int .i64 0, .string ⟨#[]⟩, .string ⟨#[]⟩, .slice none 0 0, .string ⟨#[]⟩] #[.string ⟨#[]⟩, .slice none 0 0, .int .i64 0, .slice none 0 0, .slice none 0 0, .string ⟨#[]⟩, .int .i64 0, .int .i64 0, .string ⟨#[]⟩, .string ⟨#[]⟩, .slice none 0 0] w3.heap.size g g2 (w3.alloc (.cells #[.string ⟨#[]⟩, .slice none 0 0, .int .i64 0, .slice none 0 0, .slice none 0 0, .string ⟨#[]⟩, .int .i64 0, .int .i64 0, .string ⟨#[]⟩, .string ⟨#[]⟩, .slice none 0 0] 31)) :=
      ⟨H3.out.1.trans (AB.mono H3.out.1.size), (AB.block _ (lt_of_block H3.out.2.1)).trans H3.out.2.1, (AB.block _ (lt_of_block H3.out.2.2)).trans H3.out.2.2, hst, by omega, by omega, by omega, by omega, by omega, hgg, ⟨cur, (AB.block _ hgl).trans hcc⟩, hcols.below AB, fun j u hj => (AB.cell (p := ⟨g2, j, none⟩) (le_lt hle)).trans (hle j u hj)⟩
    exact H0.row _
  refine wp_gen (Pk w #[.string ⟨#[99, 114, 101, 97, 116, 101]⟩, .string ⟨#[116]⟩, .string ⟨#[]⟩, .slice none 0 0, .slice (some a) 1 cap, .string ⟨#[107]⟩, .slice none 0 0, .slice none 0 0, .string ⟨#[60]⟩, .int .i64 0, .int .i64 0, .string ⟨#[]⟩, .string ⟨#[]⟩, .slice (some a2) 2 cu, .slice none 0 0, .slice none 0 0, .string ⟨#[]⟩, .int .i64 0, .int .i64 0, .string ⟨#[]⟩, .string ⟨#[]⟩, .slice none 0 0, .string ⟨#[]⟩] #[.string ⟨#[116]⟩, .slice (some ⟨g, 0, none⟩) 1 c1, .int .i64 0, .slice none 0 0, .slice none 0 0, .string ⟨#[60]⟩, .int .i64 0, .int .i64 0, .string ⟨#[]⟩, .string ⟨#[]⟩, .slice (some ⟨g2, 0, none⟩) 2 c2] w3.heap.size g g2) HPK.out fun w4 hw4 => ?_
  have H4 := Lib.hid hw4
  have HC1 := Lib.hid hc1
  obtain ⟨d1, hd1⟩ : ∃ d, d = w3.heap.size := ⟨_, rfl⟩
  rw [← hd1] at H4 ⊢
  clear hw4 hc1 HPK hr2 hlg2 hst hle hcols hown hgg hg hg2 hb3 H3 H2 H1 H0 hbx hz2 HPC hd1
  have hbx := H4.out.box
  go_upto_region 7 with (fail)
  have HCK := Lib.hid (fun (W : World) (hW : Below w4.heap.size w4 W) => checked_any ⟨#[116]⟩ (some ⟨g, 0, none⟩) 1 c1 0 none 0 0 none 0 0 ⟨#[60]⟩ 0 0 ⟨#[]⟩ ⟨#[]⟩ (some ⟨g2, 0, none⟩) 2 c2 [colT ⟨#[107]⟩, litT ⟨1, 5, ⟨#[]⟩⟩] rfl [kC] (fun _ => True) 2 W ((H4.out.later hW).cols) (le_tr trivial (H4.out.later hW).le))
  go_upto_region 8 with (first
    | (refine wpList_load_row rfl 31 (.tmp 4) rfl d1 rfl 31 #[.string ⟨#[116]⟩, .slice (some ⟨g, 0, none⟩) 1 c1, .int .i64 0, .slice none 0 0, .slice none 0 0, .string ⟨#[60]⟩, .int .i64 0, .int .i64 0, .string ⟨#[]⟩, .string ⟨#[]⟩, .slice (some ⟨g2, 0, none⟩) 2 c2] (0, 0) _ hbx Tryz.underlying31 rfl tbSize ?_)
    | (go_at_call 20; (with_reducible refine (HCK.out _ (Below.refl _ _)).mono ?_); rintro e w5 ⟨rfl, hb5⟩; rw [show checkedI [kC] (.mk ⟨#[60]⟩ ⟨0, 0, ⟨#[]⟩⟩ ⟨#[]⟩ [colT ⟨#[107]⟩, litT ⟨1, 5, ⟨#[]⟩⟩]) = 0 from checked_k]; have H5 := Lib.hid (H4.out.later hb5); clear hb5 hbx))
  go_upto_region 10 with (fail)
  have b1 := Lib.cell_of_heap H5.out.box 1
  have b2 := Lib.cell_of_heap H5.out.box 2
  simp only [List.getElem?_toArray, List.getElem?_cons_zero, List.getElem?_cons_succ] at b1 b2
  have hl5 := lt_of_block H5.out.box
  have gf : w5.frozen? ⟨g, 2, none⟩ = false := by
    obtain ⟨cur, hc⟩ := H5.out.own
    exact Lib.frozen_of_heap hc 2
  have gl : g < w5.heap.size := by
    obtain ⟨cur, hc⟩ := H5.out.own
    exact lt_of_block hc
  have gcl : w5.cell? ⟨g, 2, none⟩ = some (.bool false) := by
    obtain ⟨a', e, hA⟩ := H5.out.cols.2.2 0 (by decide)
    injection e with e
    subst e
    rw [show (⟨g, 0, none⟩ : Addr).add (0 * 3) = ⟨g, 0, none⟩ by simp [Addr.add]] at hA
    exact hA.c2
  go_upto_region 11 with (fail)
  refine wp_gen (Pn w #[.string ⟨#[99, 114, 101, 97, 116, 101]⟩, .string ⟨#[116]⟩, .string ⟨#[]⟩, .slice none 0 0, .slice (some a) 1 cap, .string ⟨#[107]⟩, .slice none 0 0, .slice none 0 0, .string ⟨#[60]⟩, .int .i64 0, .int .i64 0, .string ⟨#[]⟩, .string ⟨#[]⟩, .slice (some a2) 2 cu, .slice none 0 0, .slice none 0 0, .string ⟨#[]⟩, .int .i64 0, .int .i64 0, .string ⟨#[]⟩, .string ⟨#[]⟩, .slice none 0 0, .string ⟨#[]⟩] #[.string ⟨#[116]⟩, .slice (some ⟨g, 0, none⟩) 1 c1, .int .i64 0, .slice none 0 0, .slice none 0 0, .string ⟨#[60]⟩, .int .i64 0, .int .i64 0, .string ⟨#[]⟩, .string ⟨#[]⟩, .slice (some ⟨g2, 0, none⟩) 2 c2] d1 g g2) H5.out.notNull fun w6 hw6 => ?_
  have H6 := Lib.hid hw6
  clear hw6 b1 b2 hl5 gf gl gcl H5 H4 HCK
  have hbx := H6.out.box
  have hrs := H6.out.res
  go_wp2_with (first
    | (refine wpList_load_row rfl 31 (.tmp 4) rfl d1 rfl 31 #[.string ⟨#[116]⟩, .slice (some ⟨g, 0, none⟩) 1 c1, .int .i64 0, .slice none 0 0, .slice none 0 0, .string ⟨#[60]⟩, .int .i64 0, .int .i64 0, .string ⟨#[]⟩, .string ⟨#[]⟩, .slice (some ⟨g2, 0, none⟩) 2 c2] (0, 0) _ hbx Tryz.underlying31 rfl tbSize ?_)
    | (refine wpList_store_row rfl 31 (.tmp 2) (.tmp 38) rfl (w.heap.size + 1) #[.string ⟨#[116]⟩, .slice (some ⟨g, 0, none⟩) 1 c1, .int .i64 0, .slice none 0 0, .slice none 0 0, .string ⟨#[60]⟩, .int .i64 0, .int .i64 0, .string ⟨#[]⟩, .string ⟨#[]⟩, .slice (some ⟨g2, 0, none⟩) 2 c2] rfl rfl 31 _ hrs tbSize rfl (tb_one _ _ _ _ _ _ _ _ _ _ _ _ _ _ _ _ _ _ _) ?_))
  have hg1 := H6.out.lg
  have hg2 := H6.out.lg2
  refine bodyPost_ret (results_row_tmp rfl _ _ (w.heap.size + 1) 31 #[.string ⟨#[116]⟩, .slice (some ⟨g, 0, none⟩) 1 c1, .int .i64 0, .slice none 0 0, .slice none 0 0, .string ⟨#[60]⟩, .int .i64 0, .int .i64 0, .string ⟨#[]⟩, .string ⟨#[]⟩, .slice (some ⟨g2, 0, none⟩) 2 c2] (0, 0) _ rfl (setRow_heap _ _ _ _ _ _ hrs) Tryz.underlying31 rfl tbSize _ rfl) rfl ⟨g, c1, g2, c2, rfl, ⟨?_, HC1.out, ⟨rfl, by unfold maxLen; omega, fun j hj => absurd hj (by simp)⟩, ⟨rfl, by unfold maxLen; omega, fun j hj => absurd hj (by simp)⟩, ?_, rfl, by show (1 : Nat) ≤ 100000; omega, fun y hy => ?_, fun y hy => by cases hy⟩, below_row H6.out.pl _ (Nat.le_succ _)⟩
  · exact H6.out.cols.keep fun a e => by
      injection e with e
      subst e
      exact setRow_other _ _ _ _ (by show g ≠ w.heap.size + 1; omega)
  · exact le_tr trivial fun j u hj => (World.cell?_of_block (w := w6) (a := ⟨g2, j, none⟩) (setRow_other _ _ _ _ (by show g2 ≠ w.heap.size + 1; omega))).trans (H6.out.le j u hj)
  · simp only [List.mem_singleton] at hy
    subst hy
    show (1 : Nat) ≤ 100000
    omega
end Go.Proofs.YtchebhdndkaheaaGreatDoor
