import Derived.Test.YtmhkmliebhbkdaaGreatX14
import Derived.Test.YtmhkmliebhbkdaaGreatX15

/- The law's Few of a table: its walk. -/
namespace Go.Proofs.YtmhkmliebhbkdaaGreat
open Go.RowKit Go.Lib

/-- A value that is a table, and what it reads as; its blocks lie from B on. -/
def TbR (W : World) (B : Nat) (v : Value) : Prop := ∃ (nm : ByteArray) (A : Option Addr) (n c : Nat) (key : Int) (U : Option Addr) (m cu : Nat) (R : Option Addr) (p cr : Nat) (op : ByteArray) (k i : Int) (vs s : ByteArray) (B9 : Option Addr) (q d : Nat) (cols : List Cl) (us : List Int) (rs : List Rf) (l : List Ex), v = .agg #[.string nm, .slice A n c, .int .i64 key, .slice U m cu, .slice R p cr, .string op, .int .i64 k, .int .i64 i, .string vs, .string s, .slice B9 q d] ∧ TbS W nm A n c key U m cu R p cr op k i vs s B9 q d cols us rs l (fun b => B ≤ b) 14 ∧ (∀ a, A = some a → n = 0 ∨ B ≤ a.block) ∧ (∀ a, U = some a → m = 0 ∨ B ≤ a.block) ∧ (∀ a, R = some a → p = 0 ∨ B ≤ a.block) ∧ okT (.mk op ⟨k, i, vs⟩ s l)
/-- What holds behind the first row of Few. -/
structure Fw (w : World) (CE X : Array Value) (d : Nat) (A2 : Option Addr) (n2 c2 : Nat) (cs : List Cl) (t : Ex) (u : Value) (W : World) : Prop where
  pl : Below w.heap.size w W
  inn : W.heap[w.heap.size]? = some (.cells CE 31 (0, 0))
  res : W.heap[w.heap.size + 1]? = some (.cells #[.string ⟨#[]⟩, .slice none 0 0, .int .i64 0, .slice none 0 0, .slice none 0 0, .string ⟨#[]⟩, .int .i64 0, .int .i64 0, .string ⟨#[]⟩, .string ⟨#[]⟩, .slice none 0 0] 31 (0, 0))
  box : W.heap[d]? = some (.cells X 31 (0, 0))
  ld : w.heap.size + 1 < d
  cols : ColS W A2 n2 cs
  far : ∀ a, A2 = some a → n2 = 0 ∨ (w.heap.size + 1 < a.block ∧ a.block ≠ d)
  cap : n2 ≤ c2
  nc : ∀ x ∈ cs, x.n.size ≤ 20
  tr : Tr W (fun b => w.heap.size + 1 < b ∧ b ≠ d) 14 t u
  okt : okT t
theorem IntS.same2 {W W' : World} {A : Option Addr} {n : Nat} {l : List Int} (h : IntS W A n l) (hk : ∀ a, A = some a → n = 0 ∨ W'.heap[a.block]? = W.heap[a.block]?) : IntS W' A n l :=
  ⟨h.1, h.2.1, fun j hj => by
    obtain ⟨a, e, hc⟩ := h.2.2 j hj
    rcases hk a e with h0 | h0
    · have := h.1; omega
    · exact ⟨a, e, (World.cell?_of_block (w := W) (a := a.add (j * 1)) (by rw [add_block]; exact h0)).trans hc⟩⟩
theorem Fw.row {w : World} {CE X : Array Value} {d : Nat} {A2 : Option Addr} {n2 c2 : Nat} {cs : List Cl} {t : Ex} {u : Value} {W : World} (h : Fw w CE X d A2 n2 c2 cs t u W) (X' : Array Value) : Fw w CE X' d A2 n2 c2 cs t u (W.setRow d X') := by
  have hld := h.ld
  exact ⟨⟨h.pl.os, h.pl.tape, h.pl.output, by rw [setRow_size]; exact h.pl.size, fun q hq => (setRow_other _ _ _ _ (by omega)).trans (h.pl.block q hq)⟩, (setRow_other _ _ _ _ (by omega)).trans h.inn, (setRow_other _ _ _ _ (by omega)).trans h.res, setRow_heap _ _ _ _ _ _ h.box, hld, h.cols.same fun a e => (h.far a e).imp id fun k => setRow_other _ _ _ _ k.2, h.far, h.cap, h.nc, h.tr.keep (fun b hb _ => setRow_other _ _ _ _ hb.2) (fun _ hb _ => hb), h.okt⟩
/-- Where a loop begins anew. -/
structure Fl (w1 : World) (X : Array Value) (d : Nat) (ty : TypeId) (sz : Nat) (v : Value) (j : Nat) (xs : List Value) (W : World) : Prop where
  gr : w1.grownBy W (some d)
  box : W.heap[d]? = some (.cells X 31 (0, 0))
  own : W.ownsRow w1.heap.size ty sz v j xs
set_option maxRecDepth 100000 in
set_option maxHeartbeats 4000000 in
theorem few6_any (nm : ByteArray) (A : Option Addr) (n c : Nat) (key : Int) (U : Option Addr) (m cu : Nat) (R : Option Addr) (p cr : Nat) (op : ByteArray) (k i : Int) (vs s : ByteArray) (B : Option Addr) (q d : Nat) (cols : List Cl) (us : List Int) (rs : List Rf) (w : World) (ht : TbIn w nm A n c key U m cu R p cr op k i vs s B q d cols us rs) :
    Calls Tryz.prog 22 #[.agg #[.string nm, .slice A n c, .int .i64 key, .slice U m cu, .slice R p cr, .string op, .int .i64 k, .int .i64 i, .string vs, .string s, .slice B q d]] w fun e w' => (∃ v, e = .returned v ∧ TbR w' w.heap.size v) ∧ Below w.heap.size w w' := by
  have HT := Lib.hid ht
  have hml := ht.hus.2.1
  have hpl := ht.hrs.2.1
  unfold maxLen at hml hpl
  clear ht
  go_enter Tryz.func22, Tryz.ntmps22
  go_upto_region 1 with (fail)
  refine wp_gen (fun W => Below w.heap.size w W ∧ W.heap[w.heap.size]? = some (.cells #[.string nm, .slice A n c, .int .i64 key, .slice U m cu, .slice R p cr, .string op, .int .i64 k, .int .i64 i, .string vs, .string s, .slice B q d] 31 (0, 0)) ∧ W.heap[w.heap.size + 1]? = some (.cells #[.string ⟨#[]⟩, .slice none 0 0, .int .i64 0, .slice none 0 0, .slice none 0 0, .string ⟨#[]⟩, .int .i64 0, .int .i64 0, .string ⟨#[]⟩, .string ⟨#[]⟩, .slice none 0 0] 31 (0, 0))) ⟨((Below.refl _ _).alloc (Nat.le_refl _) _).alloc (by simp) _, (Below.heap_alloc _ _ _ (by simp)).trans (alloc_at rfl _), alloc_at (by simp) _⟩ fun w0 hw0 => ?_
  have HB0 := Lib.hid hw0
  have g0 := Lib.cell_of_heap hw0.2.1 0
  have g1 := Lib.cell_of_heap hw0.2.1 1
  have g2 := Lib.cell_of_heap hw0.2.1 2
  have g3 := Lib.cell_of_heap hw0.2.1 3
  have g4 := Lib.cell_of_heap hw0.2.1 4
  have g5 := Lib.cell_of_heap hw0.2.1 5
  have g6 := Lib.cell_of_heap hw0.2.1 6
  have g7 := Lib.cell_of_heap hw0.2.1 7
  have g8 := Lib.cell_of_heap hw0.2.1 8
  have g9 := Lib.cell_of_heap hw0.2.1 9
  have g10 := Lib.cell_of_heap hw0.2.1 10
  simp only [List.getElem?_toArray, List.getElem?_cons_zero, List.getElem?_cons_succ] at g0 g1 g2 g3 g4 g5 g6 g7 g8 g9 g10
  have hz0 : w.heap.size + 1 < w0.heap.size := lt_of_block hw0.2.2
  have hzA : w.heap.size < w0.heap.size := by omega
  clear hw0
  have F1 : Hid (∀ W, Calls Tryz.prog 47 #[.string nm] W fun e w' => e = .returned (.string (cut20 nm)) ∧ Below W.heap.size W w') := fun W => text6_any nm HT.out.hnm W
  have F2 : Hid (∀ W, Below w0.heap.size w0 W → Calls Tryz.prog 48 #[.slice A n c] W fun e w' => (∃ A' n' c' cs, e = .returned (.slice A' n' c') ∧ ColS w' A' n' cs ∧ (∀ a, A' = some a → W.heap.size ≤ a.block) ∧ n' ≤ c' ∧ ∀ x ∈ cs, x.n.size ≤ 20) ∧ Below W.heap.size W w') := fun W hb =>
    have hb' := HB0.out.1.trans (hb.mono HB0.out.1.size)
    cols2_any A n c cols W (HT.out.hcols.below hb') HT.out.nc
  have F3 : Hid (∀ W, Below w0.heap.size w0 W → Calls Tryz.prog 10 #[.agg #[.string op, .int .i64 k, .int .i64 i, .string vs, .string s, .slice B q d]] W fun e w' => (∃ t u, e = .returned (EVt t u) ∧ okT t ∧ Tr w' (fun b => W.heap.size ≤ b) 14 t u) ∧ Below W.heap.size W w') := fun W hb =>
    have hb' := HB0.out.1.trans (hb.mono HB0.out.1.size)
    few4_any op k i vs s _ W HT.out.hop HT.out.hvs HT.out.hs HT.out.hi (InL.more hb'.size (InL.keep hb' HT.out.chk))
  refine detM_begin [.val (.pointer (some ⟨w.heap.size, 0, none⟩)), .val (.string nm), .val (.string (cut20 nm)), .val (.pointer (some ⟨w.heap.size, 2, none⟩)), .val (.int .i64 key), .val (.pointer (some ⟨w.heap.size, 1, none⟩)), .val (.slice A n c), .rel cols2Rl, .val (.pointer (some ⟨w.heap.size, 5, none⟩)), .val (.agg #[.string op, .int .i64 k, .int .i64 i, .string vs, .string s, .slice B q d]), .rel fewRl, .pure, .rel newTb] 13 14 (by kernel_rfl) (by kernel_rfl) ?_
  refine detM_val 0 (by kernel_rfl) rfl rfl (yields_of rfl fun w1 hb1 => ?_) ?_
  · have hc1 := bcellD hb1
    have HBx := Lib.hid hb1
    clear hb1
    go_simp
    exact Det1_same
  simp only [List.getElem_toArray, List.getElem_cons_succ, List.getElem_cons_zero, Act.put, List.setIfInBounds_toArray, List.set_cons_zero, List.set_cons_succ]
  refine detM_val 1 (by kernel_rfl) rfl rfl (yields_of rfl fun w1 hb1 => ?_) ?_
  · have hc1 := bcellD hb1
    have HBx := Lib.hid hb1
    clear hb1
    go_simp
    exact Det1_same
  simp only [List.getElem_toArray, List.getElem_cons_succ, List.getElem_cons_zero, Act.put, List.setIfInBounds_toArray, List.set_cons_zero, List.set_cons_succ]
  refine detM_val 2 (by kernel_rfl) rfl rfl (yields_of rfl fun w1 hb1 => ?_) ?_
  · have hc1 := bcellD hb1
    have HBx := Lib.hid hb1
    clear hb1
    go_simp
    exact Det1_enter (F1.out _)
  simp only [List.getElem_toArray, List.getElem_cons_succ, List.getElem_cons_zero, Act.put, List.setIfInBounds_toArray, List.set_cons_zero, List.set_cons_succ]
  refine detM_val 3 (by kernel_rfl) rfl rfl (yields_of rfl fun w1 hb1 => ?_) ?_
  · have hc1 := bcellD hb1
    have HBx := Lib.hid hb1
    clear hb1
    go_simp
    exact Det1_same
  simp only [List.getElem_toArray, List.getElem_cons_succ, List.getElem_cons_zero, Act.put, List.setIfInBounds_toArray, List.set_cons_zero, List.set_cons_succ]
  refine detM_val 4 (by kernel_rfl) rfl rfl (yields_of rfl fun w1 hb1 => ?_) ?_
  · have hc1 := bcellD hb1
    have HBx := Lib.hid hb1
    clear hb1
    go_simp
    exact Det1_same
  simp only [List.getElem_toArray, List.getElem_cons_succ, List.getElem_cons_zero, Act.put, List.setIfInBounds_toArray, List.set_cons_zero, List.set_cons_succ]
  refine detM_val 5 (by kernel_rfl) rfl rfl (yields_of rfl fun w1 hb1 => ?_) ?_
  · have hc1 := bcellD hb1
    have HBx := Lib.hid hb1
    clear hb1
    go_simp
    exact Det1_same
  simp only [List.getElem_toArray, List.getElem_cons_succ, List.getElem_cons_zero, Act.put, List.setIfInBounds_toArray, List.set_cons_zero, List.set_cons_succ]
  refine detM_val 6 (by kernel_rfl) rfl rfl (yields_of rfl fun w1 hb1 => ?_) ?_
  · have hc1 := bcellD hb1
    have HBx := Lib.hid hb1
    clear hb1
    go_simp
    exact Det1_same
  simp only [List.getElem_toArray, List.getElem_cons_succ, List.getElem_cons_zero, Act.put, List.setIfInBounds_toArray, List.set_cons_zero, List.set_cons_succ]
  refine detM_rel 7 (by kernel_rfl) rfl rfl (yields_rel (by rfl) cols2Rl_lasting fun w1 hw1 => ?_) ?_
  · have hb1 := hw1.below
    have hc1 := bcellD hb1
    have HBx := Lib.hid hb1
    clear hb1 hw1
    go_simp
    exact cols2Rl_enter (F2.out _ ((Below.refl _ _).drew.trans HBx.out))
  rintro v G3 w1 hw1
  have qq : cols2Rl v G3 w1 := (hw1.ents _ List.mem_cons_self).1
  clear hw1
  unfold cols2Rl at qq
  obtain ⟨A2, n2, c2, cs, rfl, -⟩ := qq
  simp only [List.getElem_toArray, List.getElem_cons_succ, List.getElem_cons_zero, Act.put, List.setIfInBounds_toArray, List.set_cons_zero, List.set_cons_succ]
  refine detM_val 8 (by kernel_rfl) rfl rfl (yields_of rfl fun w1 hb1 => ?_) ?_
  · have hc1 := bcellD hb1
    have HBx := Lib.hid hb1
    clear hb1
    go_simp
    exact Det1_same
  simp only [List.getElem_toArray, List.getElem_cons_succ, List.getElem_cons_zero, Act.put, List.setIfInBounds_toArray, List.set_cons_zero, List.set_cons_succ]
  refine detM_val 9 (by kernel_rfl) rfl rfl (yields_of rfl fun w1 hb1 => ?_) ?_
  · have hc1 := bcellD hb1
    have HBx := Lib.hid hb1
    clear hb1
    go_simp
    exact Det1_same
  simp only [List.getElem_toArray, List.getElem_cons_succ, List.getElem_cons_zero, Act.put, List.setIfInBounds_toArray, List.set_cons_zero, List.set_cons_succ]
  refine detM_rel 10 (by kernel_rfl) rfl rfl (yields_rel (by rfl) fewRl_lasting fun w1 hw1 => ?_) ?_
  · have hb1 := hw1.below
    have hc1 := bcellD hb1
    have HBx := Lib.hid hb1
    clear hb1 hw1
    go_simp
    exact fewRl_enter (F3.out _ ((Below.refl _ _).drew.trans HBx.out))
  rintro v G1 w1 hw1
  have qq : fewRl v G1 w1 := (hw1.ents _ List.mem_cons_self).1
  clear hw1
  unfold fewRl at qq
  obtain ⟨t1, B1, q1, p1, rfl, -⟩ := qq
  simp only [List.getElem_toArray, List.getElem_cons_succ, List.getElem_cons_zero, Act.put, List.setIfInBounds_toArray, List.set_cons_zero, List.set_cons_succ]
  refine detM_pure 11 (.agg #[.string (cut20 nm), .slice A2 n2 c2, .int .i64 key, .slice none 0 0, .slice none 0 0, .string t1.op, .int .i64 t1.x.k, .int .i64 t1.x.i, .string t1.x.s, .string t1.s, .slice B1 p1 q1]) (by kernel_rfl) rfl rfl rfl (fun w1 => ?_) ?_
  · go_simp
  simp only [List.getElem_toArray, List.getElem_cons_succ, List.getElem_cons_zero, Act.put, List.setIfInBounds_toArray, List.set_cons_zero, List.set_cons_succ]
  refine detM_rel 12 (by kernel_rfl) rfl rfl (yields_rel (by rfl) newTb_lasting fun w1 hw1 => ?_) ?_
  · have hb1 := hw1.below
    have hc1 := bcellD hb1
    have HBx := Lib.hid hb1
    clear hb1 hw1
    go_simp
    exact newTb_made
  rintro v G5 w1 hw1
  have qq : newTb v G5 w1 := (hw1.ents _ List.mem_cons_self).1
  clear hw1
  unfold newTb at qq
  obtain ⟨d1, rfl, rfl, -⟩ := qq
  simp only [List.getElem_toArray, List.getElem_cons_succ, List.getElem_cons_zero, Act.put, List.setIfInBounds_toArray, List.set_cons_zero, List.set_cons_succ]
  refine detM_tail [13] [_] (by kernel_rfl) rfl fun w11 hw11 => ?_
  simp only [List.getElem_toArray, List.getElem_cons_succ, List.getElem_cons_zero]
  have y1 := hw11.ents _ List.mem_cons_self
  have ye := hw11.ents _ (List.mem_cons_of_mem _ List.mem_cons_self)
  have yc := hw11.ents _ (List.mem_cons_of_mem _ (List.mem_cons_of_mem _ List.mem_cons_self))
  have hw0' := HB0.out.1.size
  have y1' : newTb (.pointer (some ⟨d1, 0, none⟩)) [d1] w11 := y1.1
  have ye' : fewRl (.agg #[.string t1.op, .int .i64 t1.x.k, .int .i64 t1.x.i, .string t1.x.s, .string t1.s, .slice B1 p1 q1]) G1 w11 := ye.1
  have yc' : cols2Rl (.slice A2 n2 c2) G3 w11 := yc.1
  have Z1 := newTb_at y1'
  have m1 : w.heap.size + 1 < d1 := Nat.lt_of_lt_of_le hz0 (y1.2.2 d1 List.mem_cons_self).1
  have m2 : ∀ b, b ∈ G1 → w.heap.size + 1 < b := fun b hb => Nat.lt_of_lt_of_le hz0 (ye.2.2 b hb).1
  have m3 : ∀ b, b ∈ G3 → w.heap.size + 1 < b := fun b hb => Nat.lt_of_lt_of_le hz0 (yc.2.2 b hb).1
  have qe := fewRl_at ye'
  have qc := cols2Rl_at yc'
  clear y1 ye yc y1' ye' yc'
  obtain ⟨l1, hk1, ht1⟩ := qe
  obtain ⟨cs, hcs, hca, hcap, hnc⟩ := qc
  have ap := hw11.apart
  simp only [List.pairwise_cons, List.mem_cons, List.not_mem_nil, or_false, forall_eq, forall_eq_or_imp] at ap
  have HB11 : Hid (Below w.heap.size w w11) := HB0.out.1.drew.trans (hw11.below.mono hw0')
  have HF1 : Hid (Fw w #[.string nm, .slice A n c, .int .i64 key, .slice U m cu, .slice R p cr, .string op, .int .i64 k, .int .i64 i, .string vs, .string s, .slice B q d] #[.string ⟨#[]⟩, .slice none 0 0, .int .i64 0, .slice none 0 0, .slice none 0 0, .string ⟨#[]⟩, .int .i64 0, .int .i64 0, .string ⟨#[]⟩, .string ⟨#[]⟩, .slice none 0 0] d1 A2 n2 c2 cs (.mk t1.op ⟨t1.x.k, t1.x.i, t1.x.s⟩ t1.s l1) (.slice B1 p1 q1) w11) := ⟨HB11.out, (hw11.below.block _ (by show w.heap.size < w0.heap.size; omega)).trans HB0.out.2.1, (hw11.below.block _ hz0).trans HB0.out.2.2, Z1, m1, hcs, fun a e => (hca a e).imp id fun h => ⟨m3 _ h, fun e => by rw [e] at h; exact ap.1.2 h⟩, hcap, hnc, ht1.keep (fun _ _ _ => rfl) (fun b hb _ => ⟨m2 _ hb, fun e => by subst e; exact ap.1.1 hb⟩), hk1⟩
  refine wpList_store_row rfl 31 (.tmp 3) (.tmp 17) rfl d1 #[.string (cut20 nm), .slice A2 n2 c2, .int .i64 key, .slice none 0 0, .slice none 0 0, .string t1.op, .int .i64 t1.x.k, .int .i64 t1.x.i, .string t1.x.s, .string t1.s, .slice B1 p1 q1] rfl rfl 31 _ Z1 tbSize rfl (tb_one _ _ _ _ _ _ _ _ _ _ _ _ _ _ _ _ _ _ _) ?_
  clear ap hw11 m2 m3 Z1 ht1 hcs hca hk1 HB11 g0 g1 g2 g3 g4 g5 g6 g7 g8 g9 g10 F1 F2 F3
  go_upto_region 2 with (fail)
  refine wp_gen (Fw w #[.string nm, .slice A n c, .int .i64 key, .slice U m cu, .slice R p cr, .string op, .int .i64 k, .int .i64 i, .string vs, .string s, .slice B q d] #[.string (cut20 nm), .slice A2 n2 c2, .int .i64 key, .slice none 0 0, .slice none 0 0, .string t1.op, .int .i64 t1.x.k, .int .i64 t1.x.i, .string t1.x.s, .string t1.s, .slice B1 p1 q1] d1 A2 n2 c2 cs (.mk t1.op ⟨t1.x.k, t1.x.i, t1.x.s⟩ t1.s l1) (.slice B1 p1 q1)) (HF1.out.row _) fun w1 hw1 => ?_
  have H1 := Lib.hid hw1
  have hld := H1.out.ld
  have hd1w : d1 < w1.heap.size := lt_of_block H1.out.box
  have hpl1 := H1.out.pl.size
  clear hw1 HF1 hz0 HB0 m1 hw0' hcap hnc
  go_wp2_with (fail)
  go_loopw [4] (fun iv w2 => ∃ (j : Nat) (us' : List Int) (UA : Option Addr) (uc : Nat), iv = .int .i64 j ∧ j ≤ m ∧ j ≤ 10 ∧ Hid (Fl w1 #[.string (cut20 nm), .slice A2 n2 c2, .int .i64 key, .slice UA j uc, .slice none 0 0, .string t1.op, .int .i64 t1.x.k, .int .i64 t1.x.i, .string t1.x.s, .string t1.s, .slice B1 p1 q1] d1 3 1 (.slice UA j uc) j (icells us') w2)) (fun iv _ => m - (intOf iv).toNat)
  case atStart => exact ⟨0, [], none, 0, rfl, by omega, by omega, Lib.hid ⟨grow_refl _ _, H1.out.box, World.ownsRow_nil _ _ _ _⟩⟩
  case round =>
    rename World => w2
    obtain ⟨j, us', UA, uc, rfl, hj, hj10, HL⟩ := hrel
    have hsz1 := HL.out.gr.size
    have inn1 : w2.heap[w.heap.size]? = some (.cells #[.string nm, .slice A n c, .int .i64 key, .slice U m cu, .slice R p cr, .string op, .int .i64 k, .int .i64 i, .string vs, .string s, .slice B q d] 31 (0, 0)) := (HL.out.gr.block _ (by omega) (fun e => by injection e with e; omega)).trans H1.out.inn
    have g0 := Lib.cell_of_heap inn1 0
    have g1 := Lib.cell_of_heap inn1 1
    have g2 := Lib.cell_of_heap inn1 2
    have g3 := Lib.cell_of_heap inn1 3
    have g4 := Lib.cell_of_heap inn1 4
    have g5 := Lib.cell_of_heap inn1 5
    have g6 := Lib.cell_of_heap inn1 6
    have g7 := Lib.cell_of_heap inn1 7
    have g8 := Lib.cell_of_heap inn1 8
    have g9 := Lib.cell_of_heap inn1 9
    have g10 := Lib.cell_of_heap inn1 10
    simp only [List.getElem?_toArray, List.getElem?_cons_zero, List.getElem?_cons_succ] at g0 g1 g2 g3 g4 g5 g6 g7 g8 g9 g10
    have x0 := Lib.cell_of_heap HL.out.box 0
    have x1 := Lib.cell_of_heap HL.out.box 1
    have x2 := Lib.cell_of_heap HL.out.box 2
    have x3 := Lib.cell_of_heap HL.out.box 3
    have x4 := Lib.cell_of_heap HL.out.box 4
    have x5 := Lib.cell_of_heap HL.out.box 5
    have x6 := Lib.cell_of_heap HL.out.box 6
    have x7 := Lib.cell_of_heap HL.out.box 7
    have x8 := Lib.cell_of_heap HL.out.box 8
    have x9 := Lib.cell_of_heap HL.out.box 9
    have x10 := Lib.cell_of_heap HL.out.box 10
    simp only [List.getElem?_toArray, List.getElem?_cons_zero, List.getElem?_cons_succ] at x0 x1 x2 x3 x4 x5 x6 x7 x8 x9 x10
    have hzd := lt_of_block HL.out.box
    have hzi := lt_of_block inn1
    clear inn1
    by_cases hlt : j < m
    · by_cases h10 : j < 10
      · have d2 : decide ((j : Int) < 10) = true := decide_eq_true (by omega)
        have hjl : j < us.length := by rw [HT.out.hus.1]; exact hlt
        obtain ⟨a, rfl, hE⟩ := HT.out.hus.2.2 j hjl
        have hab := World.block_lt_of_cell? w _ hE
        rw [Nat.mul_one] at hE hab
        have hE' := (World.cell?_of_block (w := w) (w' := w2) (a := a.add j) ((HL.out.gr.block _ (by omega) (fun e => by injection e with e; omega)).trans (H1.out.pl.block _ hab))).trans hE
        have hel : (a.add j).block < w2.heap.size := by omega
        have HE := Lib.hid hE'
        clear hE hE'
        generalize us[j] = y at HE
        go_upto_region 5 with (fail)
        refine detL_begin [.val (.pointer (some ⟨d1, 3, none⟩)), .val (.slice UA j uc), .val (.pointer (some ⟨w.heap.size, 3, none⟩)), .val (.slice (some a) m cu), .val (.int .i64 j), .val (.pointer (some (a.add j))), .val (.int .i64 y), .rel (newSl 3 #[.int .i64 y])] 8 (by kernel_rfl) ?_
        refine detL_val (by kernel_rfl) (yields_of rfl fun w5 hb5 => ?_) ?_
        · have hc5 := bcellD hb5
          clear hb5
          go_simp
          exact Det1_same
        simp only [Act.put, List.setIfInBounds_toArray, List.set_cons_zero, List.set_cons_succ]
        refine detL_val (by kernel_rfl) (yields_of rfl fun w5 hb5 => ?_) ?_
        · have hc5 := bcellD hb5
          clear hb5
          go_simp
          exact Det1_same
        simp only [Act.put, List.setIfInBounds_toArray, List.set_cons_zero, List.set_cons_succ]
        refine detL_val (by kernel_rfl) (yields_of rfl fun w5 hb5 => ?_) ?_
        · have hc5 := bcellD hb5
          clear hb5
          go_simp
          exact Det1_same
        simp only [Act.put, List.setIfInBounds_toArray, List.set_cons_zero, List.set_cons_succ]
        refine detL_val (by kernel_rfl) (yields_of rfl fun w5 hb5 => ?_) ?_
        · have hc5 := bcellD hb5
          clear hb5
          go_simp
          exact Det1_same
        simp only [Act.put, List.setIfInBounds_toArray, List.set_cons_zero, List.set_cons_succ]
        refine detL_val (by kernel_rfl) (yields_of rfl fun w5 hb5 => ?_) ?_
        · have hc5 := bcellD hb5
          clear hb5
          go_simp
          exact Det1_same
        simp only [Act.put, List.setIfInBounds_toArray, List.set_cons_zero, List.set_cons_succ]
        refine detL_val (by kernel_rfl) (yields_of rfl fun w5 hb5 => ?_) ?_
        · have hc5 := bcellD hb5
          clear hb5
          go_simp
          exact Det1_same
        simp only [Act.put, List.setIfInBounds_toArray, List.set_cons_zero, List.set_cons_succ]
        refine detL_val (by kernel_rfl) (yields_of rfl fun w5 hb5 => ?_) ?_
        · have hc5 := bcellD hb5
          have m1 := (hb5.cell (p := a.add j) hel).trans HE.out
          clear hb5
          go_simp
          exact Det1_same
        simp only [Act.put, List.setIfInBounds_toArray, List.set_cons_zero, List.set_cons_succ]
        refine detL_rel (by kernel_rfl) (yields_rel (by rfl) newSl_lasting fun w5 hw5 => ?_) ?_
        · have hb5 := hw5.below
          have hc5 := bcellD hb5
          clear hb5 hw5
          go_simp
          exact newSl_made
        rintro v G5 w5 hw5
        obtain ⟨b5, rfl, rfl, -⟩ := (hw5.ents _ List.mem_cons_self).1
        clear hw5
        simp only [Act.put, List.setIfInBounds_toArray, List.set_cons_zero, List.set_cons_succ]
        refine detL_tail rfl (by kernel_rfl) fun w11 hw11 => ?_
        have Z5 := newSl_at (hw11.ents _ List.mem_cons_self).1
        have hbel : Below w2.heap.size w2 w11 := (Below.refl _ _).drew.trans hw11.below
        have hs11 := hbel.size
        have hb11 := (hbel.block _ hzd).trans HL.out.box
        have hl5 := lt_of_block Z5
        have HO1 := Lib.hid (HL.out.own.kept (row := none) (grow_below hbel none) (by cases h : (Value.slice UA j uc).ownBlock with | none => exact .inl rfl | some _ => exact .inr (by simp)))
        have HB1 := Lib.hid hbel
        have HX1 := Lib.hid hb11
        have HZ5 := Lib.hid Z5
        clear hw11 hbel hb11 Z5 g0 g1 g2 g3 g4 g5 g6 g7 g8 g9 g10 x0 x1 x2 x3 x4 x5 x6 x7 x8 x9 x10 hel
        obtain ⟨i1, hi, hz0, hz1, hz2⟩ := info_parts infoInt6
        go_wp2_with (at_builtin; refine wpList_append_own _ rfl _ _ 23 rfl w1.heap.size 3 i1 _ 1 8 Tryz.underlying23 hi hz0 hz1 hz2 rfl (by decide) (.slice UA j uc) j (icells us') rfl HO1.out ⟨b5, 0, none⟩ 1 1 [.int .i64 y] rfl rfl ?c1 ?c2 ?c3 ?c4 ?c5 ?_)
        case c1 => exact newSl_cells HZ5.out
        case c2 => intro u hu; simp at hu; subst hu; rfl
        case c3 => unfold maxLen; omega
        case c4 => omega
        case c5 => omega
        intro v' w6 hown' hgrow _
        obtain ⟨UA', uc', rfl⟩ := own_form hown'
        have hb6 := (hgrow.block d1 (by omega) (fun e => by have := own_geN HO1.out d1 e.symm; omega)).trans HX1.out
        have HG2 : Hid (w1.grownBy w6 (some d1)) := grow_own (grow_trans HL.out.gr (grow_below HB1.out _)) hgrow (own_geN HO1.out)
        have bf := Lib.frozen_of_heap hb6
        have x3 := Lib.cell_of_heap hb6 3
        simp only [List.getElem?_toArray, List.getElem?_cons_zero, List.getElem?_cons_succ] at x3
        have hd6 := lt_of_block hb6
        have HX6 := Lib.hid hb6
        have HO6 := Lib.hid hown'
        clear hown' hgrow hb6
        go_wp2_with (fail)
        go_roundw
        case rel => exact ⟨j + 1, us' ++ [y], UA', uc', by go_num, by omega, by omega, Lib.hid ⟨grow_setd HG2.out, any_set6 HX6.out 3 _, ownsRow_setCell_other (by rw [show icells (us' ++ [y]) = icells us' ++ [.int .i64 y] by simp [icells]]; exact HO6.out) (fun e => by have := own_geN HO6.out d1 e; omega) _⟩⟩
        case measure => simp [intOf]; omega
      · have d2 : decide ((j : Int) < 10) = false := decide_eq_false (by omega)
        have hsz1 := HL.out.gr.size
        have hd1w : d1 < w1.heap.size := lt_of_block H1.out.box
        have hld := H1.out.ld
        have HU : Hid (IntS w2 UA j us' ∧ ∀ a, UA = some a → w1.heap.size ≤ a.block ∧ (j = 0 ∨ a.block < w2.heap.size)) := by
          obtain ⟨A', c', e, h1, _, h2⟩ := IntS.of_own HL.out.own
          injection e with e1 _ _
          subst e1
          refine ⟨h1, fun a e => ⟨h2 a e, ?_⟩⟩
          rcases Nat.eq_zero_or_pos j with h0 | h0
          · exact .inl h0
          · obtain ⟨a', e', hc⟩ := h1.2.2 0 (by rw [h1.1]; exact h0)
            rw [e] at e'
            injection e' with e'
            subst e'
            have := World.block_lt_of_cell? w2 _ hc
            rw [add_block] at this
            exact .inr this
        go_wp2_with (fail)
        clear g0 g1 g2 g3 g4 g5 g6 g7 g8 g9 g10 x0 x1 x2 x3 x4 x5 x6 x7 x8 x9 x10
        go_loopw [5] (fun iv2 wz => ∃ (z : Nat) (rs' : List Rf) (RA : Option Addr) (rc : Nat), iv2 = .int .i64 z ∧ z ≤ p ∧ z ≤ 10 ∧ Hid (∀ y ∈ rs', y.t.size ≤ 20) ∧ Hid (Fl w2 #[.string (cut20 nm), .slice A2 n2 c2, .int .i64 key, .slice UA j uc, .slice RA z rc, .string t1.op, .int .i64 t1.x.k, .int .i64 t1.x.i, .string t1.x.s, .string t1.s, .slice B1 p1 q1] d1 80 2 (.slice RA z rc) z (rcells rs') wz)) (fun iv2 _ => p - (intOf iv2).toNat)
        case atStart => exact ⟨0, [], none, 0, rfl, by omega, by omega, Lib.hid (fun y hy => by cases hy), Lib.hid ⟨grow_refl _ _, HL.out.box, World.ownsRow_nil _ _ _ _⟩⟩
        case round =>
          rename World => wz
          obtain ⟨z, rs', RA, rc, rfl, hz, hz10, HRS, HZ⟩ := hrel
          have hsz2 := HZ.out.gr.size
          have inn2 : wz.heap[w.heap.size]? = some (.cells #[.string nm, .slice A n c, .int .i64 key, .slice U m cu, .slice R p cr, .string op, .int .i64 k, .int .i64 i, .string vs, .string s, .slice B q d] 31 (0, 0)) := (HZ.out.gr.block _ (by omega) (fun e => by injection e with e; omega)).trans ((HL.out.gr.block _ (by omega) (fun e => by injection e with e; omega)).trans H1.out.inn)
          have g0 := Lib.cell_of_heap inn2 0
          have g1 := Lib.cell_of_heap inn2 1
          have g2 := Lib.cell_of_heap inn2 2
          have g3 := Lib.cell_of_heap inn2 3
          have g4 := Lib.cell_of_heap inn2 4
          have g5 := Lib.cell_of_heap inn2 5
          have g6 := Lib.cell_of_heap inn2 6
          have g7 := Lib.cell_of_heap inn2 7
          have g8 := Lib.cell_of_heap inn2 8
          have g9 := Lib.cell_of_heap inn2 9
          have g10 := Lib.cell_of_heap inn2 10
          simp only [List.getElem?_toArray, List.getElem?_cons_zero, List.getElem?_cons_succ] at g0 g1 g2 g3 g4 g5 g6 g7 g8 g9 g10
          have x0 := Lib.cell_of_heap HZ.out.box 0
          have x1 := Lib.cell_of_heap HZ.out.box 1
          have x2 := Lib.cell_of_heap HZ.out.box 2
          have x3 := Lib.cell_of_heap HZ.out.box 3
          have x4 := Lib.cell_of_heap HZ.out.box 4
          have x5 := Lib.cell_of_heap HZ.out.box 5
          have x6 := Lib.cell_of_heap HZ.out.box 6
          have x7 := Lib.cell_of_heap HZ.out.box 7
          have x8 := Lib.cell_of_heap HZ.out.box 8
          have x9 := Lib.cell_of_heap HZ.out.box 9
          have x10 := Lib.cell_of_heap HZ.out.box 10
          simp only [List.getElem?_toArray, List.getElem?_cons_zero, List.getElem?_cons_succ] at x0 x1 x2 x3 x4 x5 x6 x7 x8 x9 x10
          have hzd := lt_of_block HZ.out.box
          have hzi := lt_of_block inn2
          clear inn2
          have HB : Hid (Below w.heap.size w wz) := ⟨HZ.out.gr.os.trans (HL.out.gr.os.trans H1.out.pl.os), HZ.out.gr.tape.trans (HL.out.gr.tape.trans H1.out.pl.tape), HZ.out.gr.output.trans (HL.out.gr.output.trans H1.out.pl.output), by have := H1.out.pl.size; omega, fun q hq => (HZ.out.gr.block _ (by omega) (fun e => by injection e with e; omega)).trans ((HL.out.gr.block _ (by omega) (fun e => by injection e with e; omega)).trans (H1.out.pl.block _ hq))⟩
          by_cases hlt2 : z < p
          · by_cases h102 : z < 10
            · have d2 : decide ((z : Int) < 10) = true := decide_eq_true (by omega)
              have hzl : z < rs.length := by rw [HT.out.hrs.1]; exact hlt2
              obtain ⟨b, rfl, hE⟩ := HT.out.hrs.2.2 z hzl
              have hts := HT.out.nr rs[z] (List.getElem_mem _)
              have hE' := hE.keep (HB.out.block _ hE.lt)
              have hel : (b.add (z * 2)).block < wz.heap.size := by have := hE.lt; omega
              have HE := Lib.hid hE'
              have FT := Lib.hid (fun W => text6_any rs[z].t hts W)
              clear hE hE' hts
              generalize rs[z] = y at HE FT
              go_upto_region 9 with (fail)
              refine D2.detL_begin [.val (.pointer (some ⟨d1, 4, none⟩)), .val (.slice RA z rc), .val (.pointer (some ⟨w.heap.size, 4, none⟩)), .val (.slice (some b) p cr), .val (.int .i64 z), .val (.pointer (some (b.add (z * 2)))), .val (.pointer (some (b.add (z * 2)))), .val (.int .i64 y.c), .val (.pointer (some ⟨w.heap.size, 4, none⟩)), .val (.slice (some b) p cr), .val (.int .i64 z), .val (.pointer (some (b.add (z * 2)))), .val (.pointer (some ⟨(b.add (z * 2)).block, (b.add (z * 2)).off + 1, none⟩)), .val (.string y.t), .val (.string (cut20 y.t)), .val (.agg #[.int .i64 y.c, .string (cut20 y.t)]), .rel (newSl 80 #[.int .i64 y.c, .string (cut20 y.t)])] 17 (by kernel_rfl) ?_
              refine D2.detL_val (by kernel_rfl) (D2.yields_of rfl fun w5 hb5 => ?_) ?_
              · have hc5 := bcellD hb5
                clear hb5
                go_simp
                exact D2.Det1_same
              simp only [Act.put, List.setIfInBounds_toArray, List.set_cons_zero, List.set_cons_succ]
              refine D2.detL_val (by kernel_rfl) (D2.yields_of rfl fun w5 hb5 => ?_) ?_
              · have hc5 := bcellD hb5
                clear hb5
                go_simp
                exact D2.Det1_same
              simp only [Act.put, List.setIfInBounds_toArray, List.set_cons_zero, List.set_cons_succ]
              refine D2.detL_val (by kernel_rfl) (D2.yields_of rfl fun w5 hb5 => ?_) ?_
              · have hc5 := bcellD hb5
                clear hb5
                go_simp
                exact D2.Det1_same
              simp only [Act.put, List.setIfInBounds_toArray, List.set_cons_zero, List.set_cons_succ]
              refine D2.detL_val (by kernel_rfl) (D2.yields_of rfl fun w5 hb5 => ?_) ?_
              · have hc5 := bcellD hb5
                clear hb5
                go_simp
                exact D2.Det1_same
              simp only [Act.put, List.setIfInBounds_toArray, List.set_cons_zero, List.set_cons_succ]
              refine D2.detL_val (by kernel_rfl) (D2.yields_of rfl fun w5 hb5 => ?_) ?_
              · have hc5 := bcellD hb5
                clear hb5
                go_simp
                exact D2.Det1_same
              simp only [Act.put, List.setIfInBounds_toArray, List.set_cons_zero, List.set_cons_succ]
              refine D2.detL_val (by kernel_rfl) (D2.yields_of rfl fun w5 hb5 => ?_) ?_
              · have hc5 := bcellD hb5
                clear hb5
                go_simp
                exact D2.Det1_same
              simp only [Act.put, List.setIfInBounds_toArray, List.set_cons_zero, List.set_cons_succ]
              refine D2.detL_val (by kernel_rfl) (D2.yields_of rfl fun w5 hb5 => ?_) ?_
              · have hc5 := bcellD hb5
                clear hb5
                go_simp
                exact D2.Det1_same
              simp only [Act.put, List.setIfInBounds_toArray, List.set_cons_zero, List.set_cons_succ]
              refine D2.detL_val (by kernel_rfl) (D2.yields_of rfl fun w5 hb5 => ?_) ?_
              · have hc5 := bcellD hb5
                have m1 := HE.out.keep (hb5.block _ hel); have m2 := m1.c0; have m3 := m1.c1; clear m1
                clear hb5
                go_simp
                exact D2.Det1_same
              simp only [Act.put, List.setIfInBounds_toArray, List.set_cons_zero, List.set_cons_succ]
              refine D2.detL_val (by kernel_rfl) (D2.yields_of rfl fun w5 hb5 => ?_) ?_
              · have hc5 := bcellD hb5
                clear hb5
                go_simp
                exact D2.Det1_same
              simp only [Act.put, List.setIfInBounds_toArray, List.set_cons_zero, List.set_cons_succ]
              refine D2.detL_val (by kernel_rfl) (D2.yields_of rfl fun w5 hb5 => ?_) ?_
              · have hc5 := bcellD hb5
                clear hb5
                go_simp
                exact D2.Det1_same
              simp only [Act.put, List.setIfInBounds_toArray, List.set_cons_zero, List.set_cons_succ]
              refine D2.detL_val (by kernel_rfl) (D2.yields_of rfl fun w5 hb5 => ?_) ?_
              · have hc5 := bcellD hb5
                clear hb5
                go_simp
                exact D2.Det1_same
              simp only [Act.put, List.setIfInBounds_toArray, List.set_cons_zero, List.set_cons_succ]
              refine D2.detL_val (by kernel_rfl) (D2.yields_of rfl fun w5 hb5 => ?_) ?_
              · have hc5 := bcellD hb5
                clear hb5
                go_simp
                exact D2.Det1_same
              simp only [Act.put, List.setIfInBounds_toArray, List.set_cons_zero, List.set_cons_succ]
              refine D2.detL_val (by kernel_rfl) (D2.yields_of rfl fun w5 hb5 => ?_) ?_
              · have hc5 := bcellD hb5
                clear hb5
                go_simp
                exact D2.Det1_same
              simp only [Act.put, List.setIfInBounds_toArray, List.set_cons_zero, List.set_cons_succ]
              refine D2.detL_val (by kernel_rfl) (D2.yields_of rfl fun w5 hb5 => ?_) ?_
              · have hc5 := bcellD hb5
                have m3 := HE.out.c1
                clear hb5
                go_simp
                exact D2.Det1_same
              simp only [Act.put, List.setIfInBounds_toArray, List.set_cons_zero, List.set_cons_succ]
              refine D2.detL_val (by kernel_rfl) (D2.yields_of rfl fun w5 hb5 => ?_) ?_
              · have hc5 := bcellD hb5
                clear hb5
                go_simp
                exact D2.Det1_enter (FT.out _)
              simp only [Act.put, List.setIfInBounds_toArray, List.set_cons_zero, List.set_cons_succ]
              refine D2.detL_val (by kernel_rfl) (D2.yields_of rfl fun w5 hb5 => ?_) ?_
              · have hc5 := bcellD hb5
                clear hb5
                go_simp
                exact D2.Det1_same
              simp only [Act.put, List.setIfInBounds_toArray, List.set_cons_zero, List.set_cons_succ]
              refine D2.detL_rel (by kernel_rfl) (D2.yields_rel (by rfl) (fun u F w w' hb h => newSl_lasting u F w w' hb h) fun w5 hw5 => ?_) ?_
              · have hb5 := hw5.below
                have hc5 := bcellD hb5
                clear hb5 hw5
                go_simp
                exact ⟨[_], ⟨_, rfl, rfl, alloc_at rfl _⟩, by simp, (Below.refl _ _).alloc (Nat.le_refl _) _⟩
              rintro v G5 w5 hw5
              obtain ⟨b5, rfl, rfl, -⟩ := (hw5.ents _ List.mem_cons_self).1
              clear hw5
              simp only [Act.put, List.setIfInBounds_toArray, List.set_cons_zero, List.set_cons_succ]
              refine D2.detL_tail rfl (by kernel_rfl) fun w11 hw11 => ?_
              have Z5 := newSl_at (hw11.ents _ List.mem_cons_self).1
              have hbel : Below wz.heap.size wz w11 := (Below.refl _ _).drew.trans hw11.below
              have hs11 := hbel.size
              have hb11 := (hbel.block _ hzd).trans HZ.out.box
              have hl5 := lt_of_block Z5
              have HO1 := Lib.hid (HZ.out.own.kept (row := none) (grow_below hbel none) (by cases h : (Value.slice RA z rc).ownBlock with | none => exact .inl rfl | some _ => exact .inr (by simp)))
              have HB1 := Lib.hid hbel
              have HX1 := Lib.hid hb11
              have HZ5 := Lib.hid Z5
              clear hw11 hbel hb11 Z5 g0 g1 g2 g3 g4 g5 g6 g7 g8 g9 g10 x0 x1 x2 x3 x4 x5 x6 x7 x8 x9 x10 hel
              obtain ⟨i1, hi, hz0, hz1, hz2⟩ := info_parts infoRf6
              go_wp2_with (at_builtin; refine wpList_append_own _ rfl _ _ 24 rfl w2.heap.size 80 i1 _ 2 24 Tryz.underlying24 hi hz0 hz1 hz2 rfl (by decide) (.slice RA z rc) z (rcells rs') rfl HO1.out ⟨b5, 0, none⟩ 1 1 [.int .i64 y.c, .string (cut20 y.t)] rfl rfl ?c1 ?c2 ?c3 ?c4 ?c5 ?_)
              case c1 => exact newSl_cells HZ5.out
              case c2 => intro u hu; simp at hu; rcases hu with rfl | rfl <;> rfl
              case c3 => unfold maxLen; omega
              case c4 => omega
              case c5 => omega
              intro v' w6 hown' hgrow _
              obtain ⟨RA', rc', rfl⟩ := own_form hown'
              have hb6 := (hgrow.block d1 (by omega) (fun e => by have := own_geN HO1.out d1 e.symm; omega)).trans HX1.out
              have HG2 : Hid (w2.grownBy w6 (some d1)) := grow_own (grow_trans HZ.out.gr (grow_below HB1.out _)) hgrow (own_geN HO1.out)
              have bf := Lib.frozen_of_heap hb6
              have x4 := Lib.cell_of_heap hb6 4
              simp only [List.getElem?_toArray, List.getElem?_cons_zero, List.getElem?_cons_succ] at x4
              have hd6 := lt_of_block hb6
              have HX6 := Lib.hid hb6
              have HO6 := Lib.hid hown'
              clear hown' hgrow hb6
              go_wp2_with (fail)
              go_roundw
              case rel => exact ⟨z + 1, rs' ++ [⟨y.c, cut20 y.t⟩], RA', rc', by go_num, by omega, by omega, Lib.hid (fun x hx => by
                rcases List.mem_append.1 hx with hx | hx
                · exact HRS.out x hx
                · simp only [List.mem_singleton] at hx
                  subst hx
                  exact cut20_size y.t), Lib.hid ⟨grow_setd HG2.out, any_set6 HX6.out 4 _, ownsRow_setCell_other (by rw [rcells_snoc]; exact HO6.out) (fun e => by have := own_geN HO6.out d1 e; omega) _⟩⟩
              case measure => simp [intOf]; omega
            · have d2 : decide ((z : Int) < 10) = false := decide_eq_false (by omega)
              go_upto_region 10 with (fail)
              have hbx := HZ.out.box
              have hres : wz.heap[w.heap.size + 1]? = some (.cells #[.string ⟨#[]⟩, .slice none 0 0, .int .i64 0, .slice none 0 0, .slice none 0 0, .string ⟨#[]⟩, .int .i64 0, .int .i64 0, .string ⟨#[]⟩, .string ⟨#[]⟩, .slice none 0 0] 31 (0, 0)) := (HZ.out.gr.block _ (by omega) (fun e => by injection e with e; omega)).trans ((HL.out.gr.block _ (by omega) (fun e => by injection e with e; omega)).trans H1.out.res)
              have hbl := hbx
              clear g0 g1 g2 g3 g4 g5 g6 g7 g8 g9 g10 x0 x1 x2 x3 x4 x5 x6 x7 x8 x9 x10
              have x2 := Lib.cell_of_heap HZ.out.box 2
              go_wp2_with (first
                | (refine wpList_load_row rfl 31 (.tmp 3) rfl d1 rfl 31 #[.string (cut20 nm), .slice A2 n2 c2, .int .i64 key, .slice UA j uc, .slice RA z rc, .string t1.op, .int .i64 t1.x.k, .int .i64 t1.x.i, .string t1.x.s, .string t1.s, .slice B1 p1 q1] (0, 0) _ hbx Tryz.underlying31 rfl tbSize ?_)
                | (refine wpList_store_row rfl 31 (.tmp 2) (.tmp 69) rfl (w.heap.size + 1) #[.string (cut20 nm), .slice A2 n2 c2, .int .i64 key, .slice UA j uc, .slice RA z rc, .string t1.op, .int .i64 t1.x.k, .int .i64 t1.x.i, .string t1.x.s, .string t1.s, .slice B1 p1 q1] rfl rfl 31 _ hres tbSize rfl (tb_one _ _ _ _ _ _ _ _ _ _ _ _ _ _ _ _ _ _ _) ?_))
              have HR2 : Hid (RfS wz RA z rs' ∧ ∀ a, RA = some a → w2.heap.size ≤ a.block) := by
                obtain ⟨A', c', e, h1, _, h2⟩ := RfS.of_own HZ.out.own
                injection e with e1 _ _
                subst e1
                exact ⟨h1, h2⟩
              have hsz2 := HZ.out.gr.size
              have hsz1 := HL.out.gr.size
              have K : ∀ b, b < w1.heap.size → b ≠ d1 → w.heap.size + 1 ≠ b → (wz.setRow (w.heap.size + 1) #[.string (cut20 nm), .slice A2 n2 c2, .int .i64 key, .slice UA j uc, .slice RA z rc, .string t1.op, .int .i64 t1.x.k, .int .i64 t1.x.i, .string t1.x.s, .string t1.s, .slice B1 p1 q1]).heap[b]? = w1.heap[b]? := fun b h1 h2 h3 =>
                (setRow_other _ _ _ _ (by omega)).trans ((HZ.out.gr.block b (by omega) (fun e => h2 (by injection e))).trans (HL.out.gr.block b h1 (fun e => h2 (by injection e))))
              obtain ⟨B9, q9, e9, _⟩ := H1.out.tr.form
              injection e9 with e91 e92 e93
              refine bodyPost_ret (results_cell_row rfl _ _ (w.heap.size + 1) 31 #[.string (cut20 nm), .slice A2 n2 c2, .int .i64 key, .slice UA j uc, .slice RA z rc, .string t1.op, .int .i64 t1.x.k, .int .i64 t1.x.i, .string t1.x.s, .string t1.s, .slice B1 p1 q1] (0, 0) _ rfl (setRow_heap _ _ _ _ _ _ hres) Tryz.underlying31 rfl tbSize) rfl ⟨⟨_, rfl, (cut20 nm), A2, n2, c2, key, UA, j, uc, RA, z, rc, t1.op, t1.x.k, t1.x.i, t1.x.s, t1.s, B1, p1, q1, cs, us', rs', l1, rfl, ?_, fun a e => (H1.out.far a e).imp id fun h => by omega, fun a e => .inr (by have := (HU.out.2 a e).1; omega), fun a e => .inr (by have := HR2.out.2 a e; omega), H1.out.okt⟩, ?_⟩
              · refine ⟨?_, H1.out.cap, ?_, ?_, ?_, e92.symm, by have := cut20_size nm; omega, fun y hy => by have := H1.out.nc y hy; omega, fun y hy => by have := HRS.out y hy; omega⟩
                · exact H1.out.cols.same fun a e => by
                    rcases H1.out.far a e with h | h
                    · exact .inl h
                    · rcases H1.out.cols.in_ e with h' | h'
                      · exact .inl h'
                      · exact .inr (K _ h' h.2 (by omega))
                · exact HU.out.1.same2 fun a e => by
                    have h1 := (HU.out.2 a e).1
                    rcases (HU.out.2 a e).2 with h | h
                    · exact .inl h
                    · exact .inr ((setRow_other _ _ _ _ (by omega)).trans (HZ.out.gr.block _ h (fun e2 => by injection e2 with e2; omega)))
                · exact HR2.out.1.same fun a e => setRow_other _ _ _ _ (by have := HR2.out.2 a e; omega)
                · exact H1.out.tr.keep (fun b hb hl => K b hl hb.2 (by omega)) (fun b hb _ => by have := hb.1; omega)
              · exact ⟨HB.out.os, HB.out.tape, HB.out.output, by rw [setRow_size]; exact HB.out.size, fun q hq => (setRow_other _ _ _ _ (by omega)).trans (HB.out.block q hq)⟩
          · skip
            go_upto_region 10 with (fail)
            have hbx := HZ.out.box
            have hres : wz.heap[w.heap.size + 1]? = some (.cells #[.string ⟨#[]⟩, .slice none 0 0, .int .i64 0, .slice none 0 0, .slice none 0 0, .string ⟨#[]⟩, .int .i64 0, .int .i64 0, .string ⟨#[]⟩, .string ⟨#[]⟩, .slice none 0 0] 31 (0, 0)) := (HZ.out.gr.block _ (by omega) (fun e => by injection e with e; omega)).trans ((HL.out.gr.block _ (by omega) (fun e => by injection e with e; omega)).trans H1.out.res)
            have hbl := hbx
            clear g0 g1 g2 g3 g4 g5 g6 g7 g8 g9 g10 x0 x1 x2 x3 x4 x5 x6 x7 x8 x9 x10
            have x2 := Lib.cell_of_heap HZ.out.box 2
            go_wp2_with (first
              | (refine wpList_load_row rfl 31 (.tmp 3) rfl d1 rfl 31 #[.string (cut20 nm), .slice A2 n2 c2, .int .i64 key, .slice UA j uc, .slice RA z rc, .string t1.op, .int .i64 t1.x.k, .int .i64 t1.x.i, .string t1.x.s, .string t1.s, .slice B1 p1 q1] (0, 0) _ hbx Tryz.underlying31 rfl tbSize ?_)
              | (refine wpList_store_row rfl 31 (.tmp 2) (.tmp 69) rfl (w.heap.size + 1) #[.string (cut20 nm), .slice A2 n2 c2, .int .i64 key, .slice UA j uc, .slice RA z rc, .string t1.op, .int .i64 t1.x.k, .int .i64 t1.x.i, .string t1.x.s, .string t1.s, .slice B1 p1 q1] rfl rfl 31 _ hres tbSize rfl (tb_one _ _ _ _ _ _ _ _ _ _ _ _ _ _ _ _ _ _ _) ?_))
            have HR2 : Hid (RfS wz RA z rs' ∧ ∀ a, RA = some a → w2.heap.size ≤ a.block) := by
              obtain ⟨A', c', e, h1, _, h2⟩ := RfS.of_own HZ.out.own
              injection e with e1 _ _
              subst e1
              exact ⟨h1, h2⟩
            have hsz2 := HZ.out.gr.size
            have hsz1 := HL.out.gr.size
            have K : ∀ b, b < w1.heap.size → b ≠ d1 → w.heap.size + 1 ≠ b → (wz.setRow (w.heap.size + 1) #[.string (cut20 nm), .slice A2 n2 c2, .int .i64 key, .slice UA j uc, .slice RA z rc, .string t1.op, .int .i64 t1.x.k, .int .i64 t1.x.i, .string t1.x.s, .string t1.s, .slice B1 p1 q1]).heap[b]? = w1.heap[b]? := fun b h1 h2 h3 =>
              (setRow_other _ _ _ _ (by omega)).trans ((HZ.out.gr.block b (by omega) (fun e => h2 (by injection e))).trans (HL.out.gr.block b h1 (fun e => h2 (by injection e))))
            obtain ⟨B9, q9, e9, _⟩ := H1.out.tr.form
            injection e9 with e91 e92 e93
            refine bodyPost_ret (results_cell_row rfl _ _ (w.heap.size + 1) 31 #[.string (cut20 nm), .slice A2 n2 c2, .int .i64 key, .slice UA j uc, .slice RA z rc, .string t1.op, .int .i64 t1.x.k, .int .i64 t1.x.i, .string t1.x.s, .string t1.s, .slice B1 p1 q1] (0, 0) _ rfl (setRow_heap _ _ _ _ _ _ hres) Tryz.underlying31 rfl tbSize) rfl ⟨⟨_, rfl, (cut20 nm), A2, n2, c2, key, UA, j, uc, RA, z, rc, t1.op, t1.x.k, t1.x.i, t1.x.s, t1.s, B1, p1, q1, cs, us', rs', l1, rfl, ?_, fun a e => (H1.out.far a e).imp id fun h => by omega, fun a e => .inr (by have := (HU.out.2 a e).1; omega), fun a e => .inr (by have := HR2.out.2 a e; omega), H1.out.okt⟩, ?_⟩
            · refine ⟨?_, H1.out.cap, ?_, ?_, ?_, e92.symm, by have := cut20_size nm; omega, fun y hy => by have := H1.out.nc y hy; omega, fun y hy => by have := HRS.out y hy; omega⟩
              · exact H1.out.cols.same fun a e => by
                  rcases H1.out.far a e with h | h
                  · exact .inl h
                  · rcases H1.out.cols.in_ e with h' | h'
                    · exact .inl h'
                    · exact .inr (K _ h' h.2 (by omega))
              · exact HU.out.1.same2 fun a e => by
                  have h1 := (HU.out.2 a e).1
                  rcases (HU.out.2 a e).2 with h | h
                  · exact .inl h
                  · exact .inr ((setRow_other _ _ _ _ (by omega)).trans (HZ.out.gr.block _ h (fun e2 => by injection e2 with e2; omega)))
              · exact HR2.out.1.same fun a e => setRow_other _ _ _ _ (by have := HR2.out.2 a e; omega)
              · exact H1.out.tr.keep (fun b hb hl => K b hl hb.2 (by omega)) (fun b hb _ => by have := hb.1; omega)
            · exact ⟨HB.out.os, HB.out.tape, HB.out.output, by rw [setRow_size]; exact HB.out.size, fun q hq => (setRow_other _ _ _ _ (by omega)).trans (HB.out.block q hq)⟩
    · skip
      have hsz1 := HL.out.gr.size
      have hd1w : d1 < w1.heap.size := lt_of_block H1.out.box
      have hld := H1.out.ld
      have HU : Hid (IntS w2 UA j us' ∧ ∀ a, UA = some a → w1.heap.size ≤ a.block ∧ (j = 0 ∨ a.block < w2.heap.size)) := by
        obtain ⟨A', c', e, h1, _, h2⟩ := IntS.of_own HL.out.own
        injection e with e1 _ _
        subst e1
        refine ⟨h1, fun a e => ⟨h2 a e, ?_⟩⟩
        rcases Nat.eq_zero_or_pos j with h0 | h0
        · exact .inl h0
        · obtain ⟨a', e', hc⟩ := h1.2.2 0 (by rw [h1.1]; exact h0)
          rw [e] at e'
          injection e' with e'
          subst e'
          have := World.block_lt_of_cell? w2 _ hc
          rw [add_block] at this
          exact .inr this
      go_wp2_with (fail)
      clear g0 g1 g2 g3 g4 g5 g6 g7 g8 g9 g10 x0 x1 x2 x3 x4 x5 x6 x7 x8 x9 x10
      go_loopw [5] (fun iv2 wz => ∃ (z : Nat) (rs' : List Rf) (RA : Option Addr) (rc : Nat), iv2 = .int .i64 z ∧ z ≤ p ∧ z ≤ 10 ∧ Hid (∀ y ∈ rs', y.t.size ≤ 20) ∧ Hid (Fl w2 #[.string (cut20 nm), .slice A2 n2 c2, .int .i64 key, .slice UA j uc, .slice RA z rc, .string t1.op, .int .i64 t1.x.k, .int .i64 t1.x.i, .string t1.x.s, .string t1.s, .slice B1 p1 q1] d1 80 2 (.slice RA z rc) z (rcells rs') wz)) (fun iv2 _ => p - (intOf iv2).toNat)
      case atStart => exact ⟨0, [], none, 0, rfl, by omega, by omega, Lib.hid (fun y hy => by cases hy), Lib.hid ⟨grow_refl _ _, HL.out.box, World.ownsRow_nil _ _ _ _⟩⟩
      case round =>
        rename World => wz
        obtain ⟨z, rs', RA, rc, rfl, hz, hz10, HRS, HZ⟩ := hrel
        have hsz2 := HZ.out.gr.size
        have inn2 : wz.heap[w.heap.size]? = some (.cells #[.string nm, .slice A n c, .int .i64 key, .slice U m cu, .slice R p cr, .string op, .int .i64 k, .int .i64 i, .string vs, .string s, .slice B q d] 31 (0, 0)) := (HZ.out.gr.block _ (by omega) (fun e => by injection e with e; omega)).trans ((HL.out.gr.block _ (by omega) (fun e => by injection e with e; omega)).trans H1.out.inn)
        have g0 := Lib.cell_of_heap inn2 0
        have g1 := Lib.cell_of_heap inn2 1
        have g2 := Lib.cell_of_heap inn2 2
        have g3 := Lib.cell_of_heap inn2 3
        have g4 := Lib.cell_of_heap inn2 4
        have g5 := Lib.cell_of_heap inn2 5
        have g6 := Lib.cell_of_heap inn2 6
        have g7 := Lib.cell_of_heap inn2 7
        have g8 := Lib.cell_of_heap inn2 8
        have g9 := Lib.cell_of_heap inn2 9
        have g10 := Lib.cell_of_heap inn2 10
        simp only [List.getElem?_toArray, List.getElem?_cons_zero, List.getElem?_cons_succ] at g0 g1 g2 g3 g4 g5 g6 g7 g8 g9 g10
        have x0 := Lib.cell_of_heap HZ.out.box 0
        have x1 := Lib.cell_of_heap HZ.out.box 1
        have x2 := Lib.cell_of_heap HZ.out.box 2
        have x3 := Lib.cell_of_heap HZ.out.box 3
        have x4 := Lib.cell_of_heap HZ.out.box 4
        have x5 := Lib.cell_of_heap HZ.out.box 5
        have x6 := Lib.cell_of_heap HZ.out.box 6
        have x7 := Lib.cell_of_heap HZ.out.box 7
        have x8 := Lib.cell_of_heap HZ.out.box 8
        have x9 := Lib.cell_of_heap HZ.out.box 9
        have x10 := Lib.cell_of_heap HZ.out.box 10
        simp only [List.getElem?_toArray, List.getElem?_cons_zero, List.getElem?_cons_succ] at x0 x1 x2 x3 x4 x5 x6 x7 x8 x9 x10
        have hzd := lt_of_block HZ.out.box
        have hzi := lt_of_block inn2
        clear inn2
        have HB : Hid (Below w.heap.size w wz) := ⟨HZ.out.gr.os.trans (HL.out.gr.os.trans H1.out.pl.os), HZ.out.gr.tape.trans (HL.out.gr.tape.trans H1.out.pl.tape), HZ.out.gr.output.trans (HL.out.gr.output.trans H1.out.pl.output), by have := H1.out.pl.size; omega, fun q hq => (HZ.out.gr.block _ (by omega) (fun e => by injection e with e; omega)).trans ((HL.out.gr.block _ (by omega) (fun e => by injection e with e; omega)).trans (H1.out.pl.block _ hq))⟩
        by_cases hlt2 : z < p
        · by_cases h102 : z < 10
          · have d2 : decide ((z : Int) < 10) = true := decide_eq_true (by omega)
            have hzl : z < rs.length := by rw [HT.out.hrs.1]; exact hlt2
            obtain ⟨b, rfl, hE⟩ := HT.out.hrs.2.2 z hzl
            have hts := HT.out.nr rs[z] (List.getElem_mem _)
            have hE' := hE.keep (HB.out.block _ hE.lt)
            have hel : (b.add (z * 2)).block < wz.heap.size := by have := hE.lt; omega
            have HE := Lib.hid hE'
            have FT := Lib.hid (fun W => text6_any rs[z].t hts W)
            clear hE hE' hts
            generalize rs[z] = y at HE FT
            go_upto_region 9 with (fail)
            refine D2.detL_begin [.val (.pointer (some ⟨d1, 4, none⟩)), .val (.slice RA z rc), .val (.pointer (some ⟨w.heap.size, 4, none⟩)), .val (.slice (some b) p cr), .val (.int .i64 z), .val (.pointer (some (b.add (z * 2)))), .val (.pointer (some (b.add (z * 2)))), .val (.int .i64 y.c), .val (.pointer (some ⟨w.heap.size, 4, none⟩)), .val (.slice (some b) p cr), .val (.int .i64 z), .val (.pointer (some (b.add (z * 2)))), .val (.pointer (some ⟨(b.add (z * 2)).block, (b.add (z * 2)).off + 1, none⟩)), .val (.string y.t), .val (.string (cut20 y.t)), .val (.agg #[.int .i64 y.c, .string (cut20 y.t)]), .rel (newSl 80 #[.int .i64 y.c, .string (cut20 y.t)])] 17 (by kernel_rfl) ?_
            refine D2.detL_val (by kernel_rfl) (D2.yields_of rfl fun w5 hb5 => ?_) ?_
            · have hc5 := bcellD hb5
              clear hb5
              go_simp
              exact D2.Det1_same
            simp only [Act.put, List.setIfInBounds_toArray, List.set_cons_zero, List.set_cons_succ]
            refine D2.detL_val (by kernel_rfl) (D2.yields_of rfl fun w5 hb5 => ?_) ?_
            · have hc5 := bcellD hb5
              clear hb5
              go_simp
              exact D2.Det1_same
            simp only [Act.put, List.setIfInBounds_toArray, List.set_cons_zero, List.set_cons_succ]
            refine D2.detL_val (by kernel_rfl) (D2.yields_of rfl fun w5 hb5 => ?_) ?_
            · have hc5 := bcellD hb5
              clear hb5
              go_simp
              exact D2.Det1_same
            simp only [Act.put, List.setIfInBounds_toArray, List.set_cons_zero, List.set_cons_succ]
            refine D2.detL_val (by kernel_rfl) (D2.yields_of rfl fun w5 hb5 => ?_) ?_
            · have hc5 := bcellD hb5
              clear hb5
              go_simp
              exact D2.Det1_same
            simp only [Act.put, List.setIfInBounds_toArray, List.set_cons_zero, List.set_cons_succ]
            refine D2.detL_val (by kernel_rfl) (D2.yields_of rfl fun w5 hb5 => ?_) ?_
            · have hc5 := bcellD hb5
              clear hb5
              go_simp
              exact D2.Det1_same
            simp only [Act.put, List.setIfInBounds_toArray, List.set_cons_zero, List.set_cons_succ]
            refine D2.detL_val (by kernel_rfl) (D2.yields_of rfl fun w5 hb5 => ?_) ?_
            · have hc5 := bcellD hb5
              clear hb5
              go_simp
              exact D2.Det1_same
            simp only [Act.put, List.setIfInBounds_toArray, List.set_cons_zero, List.set_cons_succ]
            refine D2.detL_val (by kernel_rfl) (D2.yields_of rfl fun w5 hb5 => ?_) ?_
            · have hc5 := bcellD hb5
              clear hb5
              go_simp
              exact D2.Det1_same
            simp only [Act.put, List.setIfInBounds_toArray, List.set_cons_zero, List.set_cons_succ]
            refine D2.detL_val (by kernel_rfl) (D2.yields_of rfl fun w5 hb5 => ?_) ?_
            · have hc5 := bcellD hb5
              have m1 := HE.out.keep (hb5.block _ hel); have m2 := m1.c0; have m3 := m1.c1; clear m1
              clear hb5
              go_simp
              exact D2.Det1_same
            simp only [Act.put, List.setIfInBounds_toArray, List.set_cons_zero, List.set_cons_succ]
            refine D2.detL_val (by kernel_rfl) (D2.yields_of rfl fun w5 hb5 => ?_) ?_
            · have hc5 := bcellD hb5
              clear hb5
              go_simp
              exact D2.Det1_same
            simp only [Act.put, List.setIfInBounds_toArray, List.set_cons_zero, List.set_cons_succ]
            refine D2.detL_val (by kernel_rfl) (D2.yields_of rfl fun w5 hb5 => ?_) ?_
            · have hc5 := bcellD hb5
              clear hb5
              go_simp
              exact D2.Det1_same
            simp only [Act.put, List.setIfInBounds_toArray, List.set_cons_zero, List.set_cons_succ]
            refine D2.detL_val (by kernel_rfl) (D2.yields_of rfl fun w5 hb5 => ?_) ?_
            · have hc5 := bcellD hb5
              clear hb5
              go_simp
              exact D2.Det1_same
            simp only [Act.put, List.setIfInBounds_toArray, List.set_cons_zero, List.set_cons_succ]
            refine D2.detL_val (by kernel_rfl) (D2.yields_of rfl fun w5 hb5 => ?_) ?_
            · have hc5 := bcellD hb5
              clear hb5
              go_simp
              exact D2.Det1_same
            simp only [Act.put, List.setIfInBounds_toArray, List.set_cons_zero, List.set_cons_succ]
            refine D2.detL_val (by kernel_rfl) (D2.yields_of rfl fun w5 hb5 => ?_) ?_
            · have hc5 := bcellD hb5
              clear hb5
              go_simp
              exact D2.Det1_same
            simp only [Act.put, List.setIfInBounds_toArray, List.set_cons_zero, List.set_cons_succ]
            refine D2.detL_val (by kernel_rfl) (D2.yields_of rfl fun w5 hb5 => ?_) ?_
            · have hc5 := bcellD hb5
              have m3 := HE.out.c1
              clear hb5
              go_simp
              exact D2.Det1_same
            simp only [Act.put, List.setIfInBounds_toArray, List.set_cons_zero, List.set_cons_succ]
            refine D2.detL_val (by kernel_rfl) (D2.yields_of rfl fun w5 hb5 => ?_) ?_
            · have hc5 := bcellD hb5
              clear hb5
              go_simp
              exact D2.Det1_enter (FT.out _)
            simp only [Act.put, List.setIfInBounds_toArray, List.set_cons_zero, List.set_cons_succ]
            refine D2.detL_val (by kernel_rfl) (D2.yields_of rfl fun w5 hb5 => ?_) ?_
            · have hc5 := bcellD hb5
              clear hb5
              go_simp
              exact D2.Det1_same
            simp only [Act.put, List.setIfInBounds_toArray, List.set_cons_zero, List.set_cons_succ]
            refine D2.detL_rel (by kernel_rfl) (D2.yields_rel (by rfl) (fun u F w w' hb h => newSl_lasting u F w w' hb h) fun w5 hw5 => ?_) ?_
            · have hb5 := hw5.below
              have hc5 := bcellD hb5
              clear hb5 hw5
              go_simp
              exact ⟨[_], ⟨_, rfl, rfl, alloc_at rfl _⟩, by simp, (Below.refl _ _).alloc (Nat.le_refl _) _⟩
            rintro v G5 w5 hw5
            obtain ⟨b5, rfl, rfl, -⟩ := (hw5.ents _ List.mem_cons_self).1
            clear hw5
            simp only [Act.put, List.setIfInBounds_toArray, List.set_cons_zero, List.set_cons_succ]
            refine D2.detL_tail rfl (by kernel_rfl) fun w11 hw11 => ?_
            have Z5 := newSl_at (hw11.ents _ List.mem_cons_self).1
            have hbel : Below wz.heap.size wz w11 := (Below.refl _ _).drew.trans hw11.below
            have hs11 := hbel.size
            have hb11 := (hbel.block _ hzd).trans HZ.out.box
            have hl5 := lt_of_block Z5
            have HO1 := Lib.hid (HZ.out.own.kept (row := none) (grow_below hbel none) (by cases h : (Value.slice RA z rc).ownBlock with | none => exact .inl rfl | some _ => exact .inr (by simp)))
            have HB1 := Lib.hid hbel
            have HX1 := Lib.hid hb11
            have HZ5 := Lib.hid Z5
            clear hw11 hbel hb11 Z5 g0 g1 g2 g3 g4 g5 g6 g7 g8 g9 g10 x0 x1 x2 x3 x4 x5 x6 x7 x8 x9 x10 hel
            obtain ⟨i1, hi, hz0, hz1, hz2⟩ := info_parts infoRf6
            go_wp2_with (at_builtin; refine wpList_append_own _ rfl _ _ 24 rfl w2.heap.size 80 i1 _ 2 24 Tryz.underlying24 hi hz0 hz1 hz2 rfl (by decide) (.slice RA z rc) z (rcells rs') rfl HO1.out ⟨b5, 0, none⟩ 1 1 [.int .i64 y.c, .string (cut20 y.t)] rfl rfl ?c1 ?c2 ?c3 ?c4 ?c5 ?_)
            case c1 => exact newSl_cells HZ5.out
            case c2 => intro u hu; simp at hu; rcases hu with rfl | rfl <;> rfl
            case c3 => unfold maxLen; omega
            case c4 => omega
            case c5 => omega
            intro v' w6 hown' hgrow _
            obtain ⟨RA', rc', rfl⟩ := own_form hown'
            have hb6 := (hgrow.block d1 (by omega) (fun e => by have := own_geN HO1.out d1 e.symm; omega)).trans HX1.out
            have HG2 : Hid (w2.grownBy w6 (some d1)) := grow_own (grow_trans HZ.out.gr (grow_below HB1.out _)) hgrow (own_geN HO1.out)
            have bf := Lib.frozen_of_heap hb6
            have x4 := Lib.cell_of_heap hb6 4
            simp only [List.getElem?_toArray, List.getElem?_cons_zero, List.getElem?_cons_succ] at x4
            have hd6 := lt_of_block hb6
            have HX6 := Lib.hid hb6
            have HO6 := Lib.hid hown'
            clear hown' hgrow hb6
            go_wp2_with (fail)
            go_roundw
            case rel => exact ⟨z + 1, rs' ++ [⟨y.c, cut20 y.t⟩], RA', rc', by go_num, by omega, by omega, Lib.hid (fun x hx => by
              rcases List.mem_append.1 hx with hx | hx
              · exact HRS.out x hx
              · simp only [List.mem_singleton] at hx
                subst hx
                exact cut20_size y.t), Lib.hid ⟨grow_setd HG2.out, any_set6 HX6.out 4 _, ownsRow_setCell_other (by rw [rcells_snoc]; exact HO6.out) (fun e => by have := own_geN HO6.out d1 e; omega) _⟩⟩
            case measure => simp [intOf]; omega
          · have d2 : decide ((z : Int) < 10) = false := decide_eq_false (by omega)
            go_upto_region 10 with (fail)
            have hbx := HZ.out.box
            have hres : wz.heap[w.heap.size + 1]? = some (.cells #[.string ⟨#[]⟩, .slice none 0 0, .int .i64 0, .slice none 0 0, .slice none 0 0, .string ⟨#[]⟩, .int .i64 0, .int .i64 0, .string ⟨#[]⟩, .string ⟨#[]⟩, .slice none 0 0] 31 (0, 0)) := (HZ.out.gr.block _ (by omega) (fun e => by injection e with e; omega)).trans ((HL.out.gr.block _ (by omega) (fun e => by injection e with e; omega)).trans H1.out.res)
            have hbl := hbx
            clear g0 g1 g2 g3 g4 g5 g6 g7 g8 g9 g10 x0 x1 x2 x3 x4 x5 x6 x7 x8 x9 x10
            have x2 := Lib.cell_of_heap HZ.out.box 2
            go_wp2_with (first
              | (refine wpList_load_row rfl 31 (.tmp 3) rfl d1 rfl 31 #[.string (cut20 nm), .slice A2 n2 c2, .int .i64 key, .slice UA j uc, .slice RA z rc, .string t1.op, .int .i64 t1.x.k, .int .i64 t1.x.i, .string t1.x.s, .string t1.s, .slice B1 p1 q1] (0, 0) _ hbx Tryz.underlying31 rfl tbSize ?_)
              | (refine wpList_store_row rfl 31 (.tmp 2) (.tmp 69) rfl (w.heap.size + 1) #[.string (cut20 nm), .slice A2 n2 c2, .int .i64 key, .slice UA j uc, .slice RA z rc, .string t1.op, .int .i64 t1.x.k, .int .i64 t1.x.i, .string t1.x.s, .string t1.s, .slice B1 p1 q1] rfl rfl 31 _ hres tbSize rfl (tb_one _ _ _ _ _ _ _ _ _ _ _ _ _ _ _ _ _ _ _) ?_))
            have HR2 : Hid (RfS wz RA z rs' ∧ ∀ a, RA = some a → w2.heap.size ≤ a.block) := by
              obtain ⟨A', c', e, h1, _, h2⟩ := RfS.of_own HZ.out.own
              injection e with e1 _ _
              subst e1
              exact ⟨h1, h2⟩
            have hsz2 := HZ.out.gr.size
            have hsz1 := HL.out.gr.size
            have K : ∀ b, b < w1.heap.size → b ≠ d1 → w.heap.size + 1 ≠ b → (wz.setRow (w.heap.size + 1) #[.string (cut20 nm), .slice A2 n2 c2, .int .i64 key, .slice UA j uc, .slice RA z rc, .string t1.op, .int .i64 t1.x.k, .int .i64 t1.x.i, .string t1.x.s, .string t1.s, .slice B1 p1 q1]).heap[b]? = w1.heap[b]? := fun b h1 h2 h3 =>
              (setRow_other _ _ _ _ (by omega)).trans ((HZ.out.gr.block b (by omega) (fun e => h2 (by injection e))).trans (HL.out.gr.block b h1 (fun e => h2 (by injection e))))
            obtain ⟨B9, q9, e9, _⟩ := H1.out.tr.form
            injection e9 with e91 e92 e93
            refine bodyPost_ret (results_cell_row rfl _ _ (w.heap.size + 1) 31 #[.string (cut20 nm), .slice A2 n2 c2, .int .i64 key, .slice UA j uc, .slice RA z rc, .string t1.op, .int .i64 t1.x.k, .int .i64 t1.x.i, .string t1.x.s, .string t1.s, .slice B1 p1 q1] (0, 0) _ rfl (setRow_heap _ _ _ _ _ _ hres) Tryz.underlying31 rfl tbSize) rfl ⟨⟨_, rfl, (cut20 nm), A2, n2, c2, key, UA, j, uc, RA, z, rc, t1.op, t1.x.k, t1.x.i, t1.x.s, t1.s, B1, p1, q1, cs, us', rs', l1, rfl, ?_, fun a e => (H1.out.far a e).imp id fun h => by omega, fun a e => .inr (by have := (HU.out.2 a e).1; omega), fun a e => .inr (by have := HR2.out.2 a e; omega), H1.out.okt⟩, ?_⟩
            · refine ⟨?_, H1.out.cap, ?_, ?_, ?_, e92.symm, by have := cut20_size nm; omega, fun y hy => by have := H1.out.nc y hy; omega, fun y hy => by have := HRS.out y hy; omega⟩
              · exact H1.out.cols.same fun a e => by
                  rcases H1.out.far a e with h | h
                  · exact .inl h
                  · rcases H1.out.cols.in_ e with h' | h'
                    · exact .inl h'
                    · exact .inr (K _ h' h.2 (by omega))
              · exact HU.out.1.same2 fun a e => by
                  have h1 := (HU.out.2 a e).1
                  rcases (HU.out.2 a e).2 with h | h
                  · exact .inl h
                  · exact .inr ((setRow_other _ _ _ _ (by omega)).trans (HZ.out.gr.block _ h (fun e2 => by injection e2 with e2; omega)))
              · exact HR2.out.1.same fun a e => setRow_other _ _ _ _ (by have := HR2.out.2 a e; omega)
              · exact H1.out.tr.keep (fun b hb hl => K b hl hb.2 (by omega)) (fun b hb _ => by have := hb.1; omega)
            · exact ⟨HB.out.os, HB.out.tape, HB.out.output, by rw [setRow_size]; exact HB.out.size, fun q hq => (setRow_other _ _ _ _ (by omega)).trans (HB.out.block q hq)⟩
        · skip
          go_upto_region 10 with (fail)
          have hbx := HZ.out.box
          have hres : wz.heap[w.heap.size + 1]? = some (.cells #[.string ⟨#[]⟩, .slice none 0 0, .int .i64 0, .slice none 0 0, .slice none 0 0, .string ⟨#[]⟩, .int .i64 0, .int .i64 0, .string ⟨#[]⟩, .string ⟨#[]⟩, .slice none 0 0] 31 (0, 0)) := (HZ.out.gr.block _ (by omega) (fun e => by injection e with e; omega)).trans ((HL.out.gr.block _ (by omega) (fun e => by injection e with e; omega)).trans H1.out.res)
          have hbl := hbx
          clear g0 g1 g2 g3 g4 g5 g6 g7 g8 g9 g10 x0 x1 x2 x3 x4 x5 x6 x7 x8 x9 x10
          have x2 := Lib.cell_of_heap HZ.out.box 2
          go_wp2_with (first
            | (refine wpList_load_row rfl 31 (.tmp 3) rfl d1 rfl 31 #[.string (cut20 nm), .slice A2 n2 c2, .int .i64 key, .slice UA j uc, .slice RA z rc, .string t1.op, .int .i64 t1.x.k, .int .i64 t1.x.i, .string t1.x.s, .string t1.s, .slice B1 p1 q1] (0, 0) _ hbx Tryz.underlying31 rfl tbSize ?_)
            | (refine wpList_store_row rfl 31 (.tmp 2) (.tmp 69) rfl (w.heap.size + 1) #[.string (cut20 nm), .slice A2 n2 c2, .int .i64 key, .slice UA j uc, .slice RA z rc, .string t1.op, .int .i64 t1.x.k, .int .i64 t1.x.i, .string t1.x.s, .string t1.s, .slice B1 p1 q1] rfl rfl 31 _ hres tbSize rfl (tb_one _ _ _ _ _ _ _ _ _ _ _ _ _ _ _ _ _ _ _) ?_))
          have HR2 : Hid (RfS wz RA z rs' ∧ ∀ a, RA = some a → w2.heap.size ≤ a.block) := by
            obtain ⟨A', c', e, h1, _, h2⟩ := RfS.of_own HZ.out.own
            injection e with e1 _ _
            subst e1
            exact ⟨h1, h2⟩
          have hsz2 := HZ.out.gr.size
          have hsz1 := HL.out.gr.size
          have K : ∀ b, b < w1.heap.size → b ≠ d1 → w.heap.size + 1 ≠ b → (wz.setRow (w.heap.size + 1) #[.string (cut20 nm), .slice A2 n2 c2, .int .i64 key, .slice UA j uc, .slice RA z rc, .string t1.op, .int .i64 t1.x.k, .int .i64 t1.x.i, .string t1.x.s, .string t1.s, .slice B1 p1 q1]).heap[b]? = w1.heap[b]? := fun b h1 h2 h3 =>
            (setRow_other _ _ _ _ (by omega)).trans ((HZ.out.gr.block b (by omega) (fun e => h2 (by injection e))).trans (HL.out.gr.block b h1 (fun e => h2 (by injection e))))
          obtain ⟨B9, q9, e9, _⟩ := H1.out.tr.form
          injection e9 with e91 e92 e93
          refine bodyPost_ret (results_cell_row rfl _ _ (w.heap.size + 1) 31 #[.string (cut20 nm), .slice A2 n2 c2, .int .i64 key, .slice UA j uc, .slice RA z rc, .string t1.op, .int .i64 t1.x.k, .int .i64 t1.x.i, .string t1.x.s, .string t1.s, .slice B1 p1 q1] (0, 0) _ rfl (setRow_heap _ _ _ _ _ _ hres) Tryz.underlying31 rfl tbSize) rfl ⟨⟨_, rfl, (cut20 nm), A2, n2, c2, key, UA, j, uc, RA, z, rc, t1.op, t1.x.k, t1.x.i, t1.x.s, t1.s, B1, p1, q1, cs, us', rs', l1, rfl, ?_, fun a e => (H1.out.far a e).imp id fun h => by omega, fun a e => .inr (by have := (HU.out.2 a e).1; omega), fun a e => .inr (by have := HR2.out.2 a e; omega), H1.out.okt⟩, ?_⟩
          · refine ⟨?_, H1.out.cap, ?_, ?_, ?_, e92.symm, by have := cut20_size nm; omega, fun y hy => by have := H1.out.nc y hy; omega, fun y hy => by have := HRS.out y hy; omega⟩
            · exact H1.out.cols.same fun a e => by
                rcases H1.out.far a e with h | h
                · exact .inl h
                · rcases H1.out.cols.in_ e with h' | h'
                  · exact .inl h'
                  · exact .inr (K _ h' h.2 (by omega))
            · exact HU.out.1.same2 fun a e => by
                have h1 := (HU.out.2 a e).1
                rcases (HU.out.2 a e).2 with h | h
                · exact .inl h
                · exact .inr ((setRow_other _ _ _ _ (by omega)).trans (HZ.out.gr.block _ h (fun e2 => by injection e2 with e2; omega)))
            · exact HR2.out.1.same fun a e => setRow_other _ _ _ _ (by have := HR2.out.2 a e; omega)
            · exact H1.out.tr.keep (fun b hb hl => K b hl hb.2 (by omega)) (fun b hb _ => by have := hb.1; omega)
          · exact ⟨HB.out.os, HB.out.tape, HB.out.output, by rw [setRow_size]; exact HB.out.size, fun q hq => (setRow_other _ _ _ _ (by omega)).trans (HB.out.block q hq)⟩
end Go.Proofs.YtmhkmliebhbkdaaGreat
