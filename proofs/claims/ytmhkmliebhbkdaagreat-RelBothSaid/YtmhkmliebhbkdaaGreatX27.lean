import Derived.Test.YtmhkmliebhbkdaaGreatX26
import Derived.Test.YtmhkmliebhbkdaaGreatX20
import Derived.Test.YtmhkmliebhbkdaaGreatX19

/- The document's word on what is wrong with a table with rows: as far as is wanted here. -/
namespace Go.Proofs.YtmhkmliebhbkdaaGreat
open Go.RowKit Go.Lib

def intP (p : Prop) (u : Value) (F : List Nat) (w : World) : Prop := F = [] ∧ ∃ z : Int, u = .int .i64 z ∧ (z = 0 → p)
def boolR (u : Value) (F : List Nat) (w : World) : Prop := F = [] ∧ ∃ b : Bool, u = .bool b
def valR (u : Value) (F : List Nat) (w : World) : Prop := F = [] ∧ ∃ x : Vl, okV x ∧ u = .agg #[.int .i64 x.k, .int .i64 x.i, .string x.s]
theorem intP_lasting {p : Prop} : ∀ u F, Lasting (intP p u F) := fun _ _ _ _ _ h => h
theorem boolR_lasting : ∀ u F, Lasting (boolR u F) := fun _ _ _ _ _ h => h
theorem valR_lasting : ∀ u F, Lasting (valR u F) := fun _ _ _ _ _ h => h
theorem intP_enter {P : Program} {w : World} {f : FuncId} {args : Array Value} {p : Prop} (h : Calls P f args w fun e w' => RetIP e p ∧ Below w.heap.size w w') : Rel1 P (intP p) w (.ok (.enter f args) w) :=
  Calls.mono h fun e w' ⟨⟨z, h1, h2⟩, hb⟩ => ⟨_, [], h1, ⟨rfl, z, rfl, h2⟩, (fun b hb' => by cases hb'), hb⟩
theorem intP_int {P : Program} {w : World} {f : FuncId} {args : Array Value} (h : Calls P f args w fun e w' => RetI e ∧ Below w.heap.size w w') : Rel1 P (intP True) w (.ok (.enter f args) w) :=
  Calls.mono h fun e w' ⟨⟨z, h1⟩, hb⟩ => ⟨_, [], h1, ⟨rfl, z, rfl, fun _ => trivial⟩, (fun b hb' => by cases hb'), hb⟩
theorem boolR_enter {P : Program} {w : World} {f : FuncId} {args : Array Value} (h : Calls P f args w fun e w' => RetB e ∧ Below w.heap.size w w') : Rel1 P boolR w (.ok (.enter f args) w) :=
  Calls.mono h fun e w' ⟨⟨z, h1⟩, hb⟩ => ⟨_, [], h1, ⟨rfl, z, rfl⟩, (fun b hb' => by cases hb'), hb⟩
theorem valR_enter {P : Program} {w : World} {f : FuncId} {args : Array Value} (h : Calls P f args w fun e w' => RetV e ∧ Below w.heap.size w w') : Rel1 P valR w (.ok (.enter f args) w) :=
  Calls.mono h fun e w' ⟨⟨x, h0, h1⟩, hb⟩ => ⟨_, [], h1, ⟨rfl, x, h0, rfl⟩, (fun b hb' => by cases hb'), hb⟩
theorem intP_same {P : Program} {w : World} {p : Prop} {v : Value} (h : intP p v [] w) : Rel1 P (intP p) w (.ok (.value v) w) := ⟨[], h, by simp, Below.refl _ _⟩
theorem boolR_is {P : Program} {w : World} {b : Bool} : Rel1 P boolR w (.ok (.value (.bool b)) w) := ⟨[], ⟨rfl, b, rfl⟩, by simp, Below.refl _ _⟩
theorem rorder_int (x y : Vl) (w : World) (hx : okV x) (hy : okV y) : Calls Tryz.prog 20 #[.agg #[.int .i64 x.k, .int .i64 x.i, .string x.s], .agg #[.int .i64 y.k, .int .i64 y.i, .string y.s]] w fun e w' => RetI e ∧ Below w.heap.size w w' :=
  Calls.mono (rorder_any x.k x.i x.s y.k y.i y.s w (by have := hx.2; unfold maxLen; omega) (by have := hy.2; unfold maxLen; omega)) fun e w' h => ⟨⟨_, h.1⟩, h.2⟩
set_option maxRecDepth 100000 in
set_option maxHeartbeats 4000000 in
theorem rcheck7_any (nm : ByteArray) (A : Option Addr) (n c : Nat) (key : Int) (U : Option Addr) (m cu : Nat) (R : Option Addr) (p cr : Nat) (op : ByteArray) (k i : Int) (vs s : ByteArray) (B : Option Addr) (q d : Nat) (Ar : Option Addr) (nr ca : Nat) (cols : List Cl) (us : List Int) (rs : List Rf) (l : List Ex) (P : Nat → Prop) (N : Nat) (rows : List (List Vl)) (X : Nat → Prop) (w : World) (ht : TbS w nm A n c key U m cu R p cr op k i vs s B q d cols us rs l P N) (hk : okT (.mk op ⟨k, i, vs⟩ s l)) (hr : RowsAt w X Ar nr rows) (hok : ∀ r ∈ rows, ∀ x ∈ r, okV x) :
    Calls Tryz.prog 18 #[.agg #[.string nm, .slice A n c, .int .i64 key, .slice U m cu, .slice R p cr, .string op, .int .i64 k, .int .i64 i, .string vs, .string s, .slice B q d, .slice Ar nr ca]] w fun e w' => RetIP e (∀ r ∈ rows, FitF n cols key us (.mk op ⟨k, i, vs⟩ s l) r) ∧ Below w.heap.size w w' := by
  have HR := Lib.hid hr
  have HL := Lib.hid hr.1
  have HOK := Lib.hid hok
  have hn1 := hr.2.1
  have HMY : Hid (∀ W, Below w.heap.size w W → Calls Tryz.prog 19 #[.agg #[.string nm, .slice A n c, .int .i64 key, .slice U m cu, .slice R p cr, .string op, .int .i64 k, .int .i64 i, .string vs, .string s, .slice B q d]] W fun e w' => RetP e (MayF n key us (.mk op ⟨k, i, vs⟩ s l)) ∧ Below W.heap.size W w') := Lib.hid fun W hW => rmay6_any nm A n c key U m cu R p cr op k i vs s B q d cols us rs l P N W (ht.below hW) hk
  have HFT : Hid (∀ W (r : List Vl) (D : Option Addr) (m2 cv : Nat), Below w.heap.size w W → m2 ≤ 1000 → Vals W W.heap.size D m2 r → (∀ x ∈ r, okV x) → Calls Tryz.prog 41 #[.agg #[.string nm, .slice A n c, .int .i64 key, .slice U m cu, .slice R p cr, .string op, .int .i64 k, .int .i64 i, .string vs, .string s, .slice B q d], .slice D m2 cv] W fun e w' => RetIP e (FitF n cols key us (.mk op ⟨k, i, vs⟩ s l) r) ∧ Below W.heap.size W w') := Lib.hid fun W r D m2 cv hW hm hv ho => rfits6_any nm A n c key U m cu R p cr op k i vs s B q d cols us rs l P N D m2 cv r W (ht.below hW) hk hm hv ho
  have HKY : Hid (∀ W (r : List Vl) (D : Option Addr) (m2 cv : Nat), Below w.heap.size w W → m2 ≤ 1000 → Vals W W.heap.size D m2 r → (∀ x ∈ r, okV x) → Calls Tryz.prog 30 #[.agg #[.string nm, .slice A n c, .int .i64 key, .slice U m cu, .slice R p cr, .string op, .int .i64 k, .int .i64 i, .string vs, .string s, .slice B q d], .slice D m2 cv] W fun e w' => RetV e ∧ Below W.heap.size W w') := Lib.hid fun W r D m2 cv hW hm hv ho => rkey_any nm A n c key U m cu R p cr op k i vs s B q d cols us rs l P N D m2 cv r W (ht.below hW) hk hm hv ho
  have HTW : Hid (∀ W (q : Nat), Below w.heap.size w W → (∀ r ∈ rows, q < r.length) → Calls Tryz.prog 42 #[.slice Ar nr ca, .int .i64 q] W fun e w' => RetB e ∧ Below W.heap.size W w') := Lib.hid fun W q hW hq => rtwice_any q X Ar nr ca rows W (hr.below hW) hq
  have HU := Lib.hid ht.hus
  have hm : m ≤ maxLen := ht.hus.2.1
  unfold maxLen at hm
  clear ht hk hr hok
  go_enter Tryz.func18, Tryz.ntmps18
  go_upto_region 1 with (fail)
  refine wp_gen (fun W => Below w.heap.size w W ∧ W.heap[w.heap.size]? = some (.cells #[.string nm, .slice A n c, .int .i64 key, .slice U m cu, .slice R p cr, .string op, .int .i64 k, .int .i64 i, .string vs, .string s, .slice B q d, .slice Ar nr ca] 34 (0, 0))) ⟨(Below.refl _ _).alloc (Nat.le_refl _) _, alloc_at rfl _⟩ fun w0 hw0 => ?_
  have H0 := Lib.hid hw0
  have g0 := Lib.cell_of_heap hw0.2 0
  have g1 := Lib.cell_of_heap hw0.2 1
  have g2 := Lib.cell_of_heap hw0.2 2
  have g3 := Lib.cell_of_heap hw0.2 3
  have g4 := Lib.cell_of_heap hw0.2 4
  have g5 := Lib.cell_of_heap hw0.2 5
  have g6 := Lib.cell_of_heap hw0.2 6
  have g7 := Lib.cell_of_heap hw0.2 7
  have g8 := Lib.cell_of_heap hw0.2 8
  have g9 := Lib.cell_of_heap hw0.2 9
  have g10 := Lib.cell_of_heap hw0.2 10
  have g11 := Lib.cell_of_heap hw0.2 11
  simp only [List.getElem?_toArray, List.getElem?_cons_zero, List.getElem?_cons_succ] at g0 g1 g2 g3 g4 g5 g6 g7 g8 g9 g10 g11
  have hz0 := lt_of_block hw0.2
  clear hw0
  go_upto_region 3 with (go_at_call 19; (with_reducible refine (HMY.out _ H0.out.1).mono ?_); rintro e w1 ⟨⟨z, rfl, hz⟩, hb1⟩; have HB1 := Lib.hid (And.intro (And.intro (H0.out.1.trans (hb1.mono H0.out.1.size)) ((hb1.block _ hz0).trans H0.out.2)) hz); have hc1 := (bcell hb1).1; have hy1 := hb1.size; have hz1 : w.heap.size < w1.heap.size := (by omega); clear hb1 hz; cases z)
  · go_wp2_with (fail)
    go_ret
    exact ⟨⟨_, rfl, fun h => by first | (cases h; done) | (simp at h; done) | (omega)⟩, HB1.out.1.1⟩
  have HMT := Lib.hid (HB1.out.2 (by first | exact rfl | trivial))
  refine wp_gen (fun W => Below w.heap.size w W ∧ W.heap[w.heap.size]? = some (.cells #[.string nm, .slice A n c, .int .i64 key, .slice U m cu, .slice R p cr, .string op, .int .i64 k, .int .i64 i, .string vs, .string s, .slice B q d, .slice Ar nr ca] 34 (0, 0))) HB1.out.1 fun w2 hw2 => ?_
  have H2 := Lib.hid hw2
  clear g0 g1 g2 g3 g4 g5 g6 g7 g8 g9 g10 g11 hz0
  have g0 := Lib.cell_of_heap hw2.2 0
  have g1 := Lib.cell_of_heap hw2.2 1
  have g2 := Lib.cell_of_heap hw2.2 2
  have g3 := Lib.cell_of_heap hw2.2 3
  have g4 := Lib.cell_of_heap hw2.2 4
  have g5 := Lib.cell_of_heap hw2.2 5
  have g6 := Lib.cell_of_heap hw2.2 6
  have g7 := Lib.cell_of_heap hw2.2 7
  have g8 := Lib.cell_of_heap hw2.2 8
  have g9 := Lib.cell_of_heap hw2.2 9
  have g10 := Lib.cell_of_heap hw2.2 10
  have g11 := Lib.cell_of_heap hw2.2 11
  simp only [List.getElem?_toArray, List.getElem?_cons_zero, List.getElem?_cons_succ] at g0 g1 g2 g3 g4 g5 g6 g7 g8 g9 g10 g11
  have hz0 := lt_of_block hw2.2
  clear hw2 HB1
  by_cases h200 : (200 : Int) < nr
  · have dq : decide ((200 : Int) < nr) = true := decide_eq_true h200
    go_wp2_with (fail)
    go_ret
    exact ⟨⟨_, rfl, fun h => by first | (cases h; done) | (simp at h; done) | (omega)⟩, H2.out.1⟩
  have dq : decide ((200 : Int) < nr) = false := decide_eq_false h200
  go_wp2_with (fail)
  go_loopw [3] (fun iv wr => ∃ j : Nat, iv = .int .i64 j ∧ j ≤ nr ∧ Hid ((Below w.heap.size w wr ∧ wr.heap[w.heap.size]? = some (.cells #[.string nm, .slice A n c, .int .i64 key, .slice U m cu, .slice R p cr, .string op, .int .i64 k, .int .i64 i, .string vs, .string s, .slice B q d, .slice Ar nr ca] 34 (0, 0))) ∧ ∀ q (h : q < rows.length), q < j → FitF n cols key us (.mk op ⟨k, i, vs⟩ s l) rows[q])) (fun iv _ => nr - (intOf iv).toNat)
  case atStart => exact ⟨0, rfl, by omega, Lib.hid ⟨H2.out, fun q _ h => absurd h (by omega)⟩⟩
  case round =>
    obtain ⟨j, rfl, hj, HS⟩ := hrel
    have hbx := HS.out.1.2
    clear g0 g1 g2 g3 g4 g5 g6 g7 g8 g9 g10 g11 hz0
    have g0 := Lib.cell_of_heap hbx 0
    have g1 := Lib.cell_of_heap hbx 1
    have g2 := Lib.cell_of_heap hbx 2
    have g3 := Lib.cell_of_heap hbx 3
    have g4 := Lib.cell_of_heap hbx 4
    have g5 := Lib.cell_of_heap hbx 5
    have g6 := Lib.cell_of_heap hbx 6
    have g7 := Lib.cell_of_heap hbx 7
    have g8 := Lib.cell_of_heap hbx 8
    have g9 := Lib.cell_of_heap hbx 9
    have g10 := Lib.cell_of_heap hbx 10
    have g11 := Lib.cell_of_heap hbx 11
    simp only [List.getElem?_toArray, List.getElem?_cons_zero, List.getElem?_cons_succ] at g0 g1 g2 g3 g4 g5 g6 g7 g8 g9 g10 g11
    have hz0 := lt_of_block hbx
    clear hbx
    by_cases hlt : j < nr
    · have hjl : j < rows.length := by have := HL.out; omega
      obtain ⟨a, D, md, cd, e, hce, _, q2, q3, _⟩ := (HR.out.below HS.out.1.1).2.2 j hjl
      subst e
      have hel := World.block_lt_of_cell? wr _ hce
      have HFJ : Hid (∀ W, Below wr.heap.size wr W → Calls Tryz.prog 41 #[.agg #[.string nm, .slice A n c, .int .i64 key, .slice U m cu, .slice R p cr, .string op, .int .i64 k, .int .i64 i, .string vs, .string s, .slice B q d], .slice D md cd] W fun e w' => RetIP e (FitF n cols key us (.mk op ⟨k, i, vs⟩ s l) rows[j]) ∧ Below W.heap.size W w') := Lib.hid fun W hW => HFT.out W rows[j] D md cd (HS.out.1.1.trans (hW.mono HS.out.1.1.size)) q2 (q3.below hW) (HOK.out _ (List.getElem_mem hjl))
      have HROW : Hid (FitF n cols key us (.mk op ⟨k, i, vs⟩ s l) rows[j] → ∀ q (h : q < rows.length), q < j + 1 → FitF n cols key us (.mk op ⟨k, i, vs⟩ s l) rows[q]) := Lib.hid fun h q hq hlt => by
        by_cases e : q = j
        · subst e
          exact h
        · exact HS.out.2 q hq (by omega)
      generalize FitF n cols key us (.mk op ⟨k, i, vs⟩ s l) rows[j] = fj at HFJ HROW
      clear q3
      go_upto_region 8 with (fail)
      refine detL_begin [.val (.pointer (some ⟨w.heap.size, 0, none⟩)), .val (.agg #[.string nm, .slice A n c, .int .i64 key, .slice U m cu, .slice R p cr, .string op, .int .i64 k, .int .i64 i, .string vs, .string s, .slice B q d]), .val (.pointer (some ⟨w.heap.size, 11, none⟩)), .val (.slice (some a) nr ca), .val (.int .i64 j), .val (.pointer (some (a.add j))), .val (.slice D md cd), .rel (intP fj), .rel (intP fj)] 9 (by kernel_rfl) ?_
      refine detL_val (by kernel_rfl) (yields_of rfl fun w5 hb5 => ?_) ?_
      · have HBx := Lib.hid hb5
        clear hb5
        go_simp
        exact Det1_same
      simp only [Act.put, List.setIfInBounds_toArray, List.set_cons_zero, List.set_cons_succ]
      refine detL_val (by kernel_rfl) (yields_of rfl fun w5 hb5 => ?_) ?_
      · have HBx := Lib.hid hb5
        have m0 := (hb5.cell (p := ⟨w.heap.size, 0, none⟩) hz0).trans g0; have m1 := (hb5.cell (p := ⟨w.heap.size, 1, none⟩) hz0).trans g1; have m2 := (hb5.cell (p := ⟨w.heap.size, 2, none⟩) hz0).trans g2; have m3 := (hb5.cell (p := ⟨w.heap.size, 3, none⟩) hz0).trans g3; have m4 := (hb5.cell (p := ⟨w.heap.size, 4, none⟩) hz0).trans g4; have m5 := (hb5.cell (p := ⟨w.heap.size, 5, none⟩) hz0).trans g5; have m6 := (hb5.cell (p := ⟨w.heap.size, 6, none⟩) hz0).trans g6; have m7 := (hb5.cell (p := ⟨w.heap.size, 7, none⟩) hz0).trans g7; have m8 := (hb5.cell (p := ⟨w.heap.size, 8, none⟩) hz0).trans g8; have m9 := (hb5.cell (p := ⟨w.heap.size, 9, none⟩) hz0).trans g9; have m10 := (hb5.cell (p := ⟨w.heap.size, 10, none⟩) hz0).trans g10
        clear hb5
        go_simp
        exact Det1_same
      simp only [Act.put, List.setIfInBounds_toArray, List.set_cons_zero, List.set_cons_succ]
      refine detL_val (by kernel_rfl) (yields_of rfl fun w5 hb5 => ?_) ?_
      · have HBx := Lib.hid hb5
        clear hb5
        go_simp
        exact Det1_same
      simp only [Act.put, List.setIfInBounds_toArray, List.set_cons_zero, List.set_cons_succ]
      refine detL_val (by kernel_rfl) (yields_of rfl fun w5 hb5 => ?_) ?_
      · have HBx := Lib.hid hb5
        have m11 := (hb5.cell (p := ⟨w.heap.size, 11, none⟩) hz0).trans g11
        clear hb5
        go_simp
        exact Det1_same
      simp only [Act.put, List.setIfInBounds_toArray, List.set_cons_zero, List.set_cons_succ]
      refine detL_val (by kernel_rfl) (yields_of rfl fun w5 hb5 => ?_) ?_
      · have HBx := Lib.hid hb5
        clear hb5
        go_simp
        exact Det1_same
      simp only [Act.put, List.setIfInBounds_toArray, List.set_cons_zero, List.set_cons_succ]
      refine detL_val (by kernel_rfl) (yields_of rfl fun w5 hb5 => ?_) ?_
      · have HBx := Lib.hid hb5
        clear hb5
        go_simp
        exact Det1_same
      simp only [Act.put, List.setIfInBounds_toArray, List.set_cons_zero, List.set_cons_succ]
      refine detL_val (by kernel_rfl) (yields_of rfl fun w5 hb5 => ?_) ?_
      · have HBx := Lib.hid hb5
        have m0 := (hb5.cell (p := a.add j) hel).trans hce
        clear hb5
        go_simp
        exact Det1_same
      simp only [Act.put, List.setIfInBounds_toArray, List.set_cons_zero, List.set_cons_succ]
      refine detL_rel (by kernel_rfl) (yields_rel (by rfl) intP_lasting fun w5 hw5 => ?_) ?_
      · have hb5 := hw5.below
        have HBx := Lib.hid hb5
        clear hb5 hw5
        go_simp
        exact intP_enter (HFJ.out w5 ((Below.refl _ _).drew.trans HBx.out))
      rintro v G9 w5 hw5
      have qq : intP fj v G9 w5 := (hw5.ents _ List.mem_cons_self).1
      clear hw5
      unfold intP at qq
      obtain ⟨rfl, z1, rfl, -⟩ := qq
      simp only [Act.put, List.setIfInBounds_toArray, List.set_cons_zero, List.set_cons_succ]
      refine detL_rel (by kernel_rfl) (yields_rel (by rfl) intP_lasting fun w5 hw5 => ?_) ?_
      · have hb5 := hw5.below
        have HBx := Lib.hid hb5
        have q7 : intP fj (.int .i64 z1) [] w5 := (hw5.ents _ (List.mem_filter.2 ⟨List.mem_cons_self, (by first | kernel_rfl | simp [depB, Region.binds] | decide)⟩)).1
        clear hb5 hw5
        go_simp
        exact intP_same q7
      rintro v G9 w5 hw5
      have qq : intP fj v G9 w5 := (hw5.ents _ List.mem_cons_self).1
      clear hw5
      unfold intP at qq
      obtain ⟨rfl, z2, rfl, -⟩ := qq
      simp only [Act.put, List.setIfInBounds_toArray, List.set_cons_zero, List.set_cons_succ]
      refine detL_done (by kernel_rfl) fun w6 hw6 => ?_
      have q9 : intP fj (.int .i64 z2) [] w6 := (hw6.ents _ List.mem_cons_self).1
      have hb6 : Below wr.heap.size wr w6 := (Below.refl _ _).drew.trans hw6.below
      have H6 := Lib.hid (show Below w.heap.size w w6 ∧ w6.heap[w.heap.size]? = some (.cells #[.string nm, .slice A n c, .int .i64 key, .slice U m cu, .slice R p cr, .string op, .int .i64 k, .int .i64 i, .string vs, .string s, .slice B q d, .slice (some a) nr ca] 34 (0, 0)) from ⟨HS.out.1.1.trans (hb6.mono HS.out.1.1.size), (hb6.block _ hz0).trans HS.out.1.2⟩)
      obtain ⟨_, z3, e3, hz3⟩ := q9
      injection e3 with _ e3
      subst e3
      have HZ3 := Lib.hid hz3
      clear hw6 hb6 hz3
      obtain ⟨b, hb⟩ : ∃ b, (z2 != 0) = b := ⟨_, rfl⟩
      cases b
      · have HZ4 := Lib.hid (HROW.out (HZ3.out (by simpa using hb)))
        go_wp2_with (fail)
        go_roundw
        case rel => exact ⟨j + 1, by go_num, by omega, Lib.hid ⟨H6.out, HZ4.out⟩⟩
        case measure => simp [intOf]; omega
      · have HZ4 : Hid (¬ z2 = 0) := Lib.hid (by simpa using hb)
        go_wp2_with (fail)
        go_ret
        exact ⟨⟨_, rfl, fun h => absurd h HZ4.out⟩, H6.out.1⟩
    have HGOOD : Hid (∀ r ∈ rows, FitF n cols key us (.mk op ⟨k, i, vs⟩ s l) r) := Lib.hid fun r hr => by
      obtain ⟨q, hq, rfl⟩ := List.getElem_of_mem hr
      exact HS.out.2 q hq (by have := HL.out; omega)
    obtain ⟨k', hkk⟩ := Int.eq_ofNat_of_zero_le HMT.out.1
    have HKL : Hid (∀ r ∈ rows, k' < r.length) := Lib.hid fun r hr => by
      have h1 := (HGOOD.out r hr).2.1
      have h2 := HMT.out.2.1
      omega
    have HUL : Hid (∀ y ∈ us, 0 ≤ y ∧ ∀ r ∈ rows, y < r.length) := Lib.hid fun y hy => ⟨(HMT.out.2.2.2.1 y hy).1, fun r hr => by
      have h1 := (HGOOD.out r hr).2.1
      have h2 := (HMT.out.2.2.2.1 y hy).2
      omega⟩
    clear HMT HFT
    subst hkk
    go_upto_region 13 with (go_at_call 42; (with_reducible refine (HTW.out _ k' HS.out.1.1 HKL.out).mono ?_); rintro e w3 ⟨⟨z, rfl⟩, hb3⟩; have HB3 := Lib.hid (And.intro (HS.out.1.1.trans (hb3.mono HS.out.1.1.size)) ((hb3.block _ hz0).trans HS.out.1.2)); clear hb3; cases z)
    rotate_left
    · go_wp2_with (fail)
      go_ret
      exact ⟨⟨_, rfl, fun h => by first | (cases h; done) | (simp at h; done) | (omega)⟩, HB3.out.1⟩
    refine wp_gen (fun W => Below w.heap.size w W ∧ W.heap[w.heap.size]? = some (.cells #[.string nm, .slice A n c, .int .i64 k', .slice U m cu, .slice R p cr, .string op, .int .i64 k, .int .i64 i, .string vs, .string s, .slice B q d, .slice Ar nr ca] 34 (0, 0))) HB3.out fun w4 hw4 => ?_
    have H4 := Lib.hid hw4
    clear g0 g1 g2 g3 g4 g5 g6 g7 g8 g9 g10 g11 hz0
    clear hw4 HB3
    have g0 := Lib.cell_of_heap H4.out.2 0
    have g1 := Lib.cell_of_heap H4.out.2 1
    have g2 := Lib.cell_of_heap H4.out.2 2
    have g3 := Lib.cell_of_heap H4.out.2 3
    have g4 := Lib.cell_of_heap H4.out.2 4
    have g5 := Lib.cell_of_heap H4.out.2 5
    have g6 := Lib.cell_of_heap H4.out.2 6
    have g7 := Lib.cell_of_heap H4.out.2 7
    have g8 := Lib.cell_of_heap H4.out.2 8
    have g9 := Lib.cell_of_heap H4.out.2 9
    have g10 := Lib.cell_of_heap H4.out.2 10
    have g11 := Lib.cell_of_heap H4.out.2 11
    simp only [List.getElem?_toArray, List.getElem?_cons_zero, List.getElem?_cons_succ] at g0 g1 g2 g3 g4 g5 g6 g7 g8 g9 g10 g11
    have hz0 := lt_of_block H4.out.2
    go_wp2_with (fail)
    go_loopw [5] (fun iv wr => ∃ j : Nat, iv = .int .i64 j ∧ j ≤ m ∧ Hid (Below w.heap.size w wr ∧ wr.heap[w.heap.size]? = some (.cells #[.string nm, .slice A n c, .int .i64 k', .slice U m cu, .slice R p cr, .string op, .int .i64 k, .int .i64 i, .string vs, .string s, .slice B q d, .slice Ar nr ca] 34 (0, 0)))) (fun iv _ => m - (intOf iv).toNat)
    case atStart => exact ⟨0, rfl, by omega, H4⟩
    case round =>
      rename World => wz
      obtain ⟨j2, rfl, hj2, HZ⟩ := hrel
      clear g0 g1 g2 g3 g4 g5 g6 g7 g8 g9 g10 g11 hz0
      have hbz := HZ.out.2
      have g0 := Lib.cell_of_heap hbz 0
      have g1 := Lib.cell_of_heap hbz 1
      have g2 := Lib.cell_of_heap hbz 2
      have g3 := Lib.cell_of_heap hbz 3
      have g4 := Lib.cell_of_heap hbz 4
      have g5 := Lib.cell_of_heap hbz 5
      have g6 := Lib.cell_of_heap hbz 6
      have g7 := Lib.cell_of_heap hbz 7
      have g8 := Lib.cell_of_heap hbz 8
      have g9 := Lib.cell_of_heap hbz 9
      have g10 := Lib.cell_of_heap hbz 10
      have g11 := Lib.cell_of_heap hbz 11
      simp only [List.getElem?_toArray, List.getElem?_cons_zero, List.getElem?_cons_succ] at g0 g1 g2 g3 g4 g5 g6 g7 g8 g9 g10 g11
      have hz0 := lt_of_block hbz
      clear hbz
      by_cases hlt2 : j2 < m
      · have hjl : j2 < us.length := by have := HU.out.1; omega
        obtain ⟨a, rfl, hE⟩ := (HU.out.below HZ.out.1).2.2 j2 hjl
        simp only [Nat.mul_one] at hE
        have hel := World.block_lt_of_cell? _ _ hE
        obtain ⟨x, hxq⟩ := Int.eq_ofNat_of_zero_le (HUL.out us[j2] (List.getElem_mem hjl)).1
        have HXL : Hid (∀ r ∈ rows, x < r.length) := Lib.hid fun r hr => by
          have h := (HUL.out us[j2] (List.getElem_mem hjl)).2 r hr
          omega
        rw [hxq] at hE
        clear hxq
        have HTJ : Hid (∀ W, Below wz.heap.size wz W → Calls Tryz.prog 42 #[.slice Ar nr ca, .int .i64 x] W fun e w' => RetB e ∧ Below W.heap.size W w') := Lib.hid fun W hW => HTW.out W x (HZ.out.1.trans (hW.mono HZ.out.1.size)) HXL.out
        go_upto_region 16 with (fail)
        refine detL_begin [.val (.pointer (some ⟨w.heap.size, 11, none⟩)), .val (.slice Ar nr ca), .val (.pointer (some ⟨w.heap.size, 0, none⟩)), .val (.pointer (some ⟨w.heap.size, 3, none⟩)), .val (.slice (some a) m cu), .val (.int .i64 j2), .val (.pointer (some (a.add j2))), .val (.int .i64 x), .rel boolR] 9 (by kernel_rfl) ?_
        refine detL_val (by kernel_rfl) (yields_of rfl fun w5 hb5 => ?_) ?_
        · have HBx := Lib.hid hb5
          clear hb5
          go_simp
          exact Det1_same
        simp only [Act.put, List.setIfInBounds_toArray, List.set_cons_zero, List.set_cons_succ]
        refine detL_val (by kernel_rfl) (yields_of rfl fun w5 hb5 => ?_) ?_
        · have HBx := Lib.hid hb5
          have m11 := (hb5.cell (p := ⟨w.heap.size, 11, none⟩) hz0).trans g11
          clear hb5
          go_simp
          exact Det1_same
        simp only [Act.put, List.setIfInBounds_toArray, List.set_cons_zero, List.set_cons_succ]
        refine detL_val (by kernel_rfl) (yields_of rfl fun w5 hb5 => ?_) ?_
        · have HBx := Lib.hid hb5
          clear hb5
          go_simp
          exact Det1_same
        simp only [Act.put, List.setIfInBounds_toArray, List.set_cons_zero, List.set_cons_succ]
        refine detL_val (by kernel_rfl) (yields_of rfl fun w5 hb5 => ?_) ?_
        · have HBx := Lib.hid hb5
          clear hb5
          go_simp
          exact Det1_same
        simp only [Act.put, List.setIfInBounds_toArray, List.set_cons_zero, List.set_cons_succ]
        refine detL_val (by kernel_rfl) (yields_of rfl fun w5 hb5 => ?_) ?_
        · have HBx := Lib.hid hb5
          have m3 := (hb5.cell (p := ⟨w.heap.size, 3, none⟩) hz0).trans g3
          clear hb5
          go_simp
          exact Det1_same
        simp only [Act.put, List.setIfInBounds_toArray, List.set_cons_zero, List.set_cons_succ]
        refine detL_val (by kernel_rfl) (yields_of rfl fun w5 hb5 => ?_) ?_
        · have HBx := Lib.hid hb5
          clear hb5
          go_simp
          exact Det1_same
        simp only [Act.put, List.setIfInBounds_toArray, List.set_cons_zero, List.set_cons_succ]
        refine detL_val (by kernel_rfl) (yields_of rfl fun w5 hb5 => ?_) ?_
        · have HBx := Lib.hid hb5
          clear hb5
          go_simp
          exact Det1_same
        simp only [Act.put, List.setIfInBounds_toArray, List.set_cons_zero, List.set_cons_succ]
        refine detL_val (by kernel_rfl) (yields_of rfl fun w5 hb5 => ?_) ?_
        · have HBx := Lib.hid hb5
          have m0 := (hb5.cell (p := a.add j2) hel).trans hE
          clear hb5
          go_simp
          exact Det1_same
        simp only [Act.put, List.setIfInBounds_toArray, List.set_cons_zero, List.set_cons_succ]
        refine detL_rel (by kernel_rfl) (yields_rel (by rfl) boolR_lasting fun w5 hw5 => ?_) ?_
        · have hb5 := hw5.below
          have HBx := Lib.hid hb5
          clear hb5 hw5
          go_simp
          exact boolR_enter (HTJ.out w5 ((Below.refl _ _).drew.trans HBx.out))
        rintro v G9 w5 hw5
        have qq : boolR v G9 w5 := (hw5.ents _ List.mem_cons_self).1
        clear hw5
        unfold boolR at qq
        obtain ⟨rfl, b1, rfl⟩ := qq
        simp only [Act.put, List.setIfInBounds_toArray, List.set_cons_zero, List.set_cons_succ]
        refine detL_done (by kernel_rfl) fun w6 hw6 => ?_
        have hb6 : Below wz.heap.size wz w6 := (Below.refl _ _).drew.trans hw6.below
        have H6 := Lib.hid (show Below w.heap.size w w6 ∧ w6.heap[w.heap.size]? = some (.cells #[.string nm, .slice A n c, .int .i64 k', .slice (some a) m cu, .slice R p cr, .string op, .int .i64 k, .int .i64 i, .string vs, .string s, .slice B q d, .slice Ar nr ca] 34 (0, 0)) from ⟨HZ.out.1.trans (hb6.mono HZ.out.1.size), (hb6.block _ hz0).trans HZ.out.2⟩)
        clear hw6 hb6
        cases b1
        · go_wp2_with (fail)
          go_roundw
          case rel => exact ⟨j2 + 1, by go_num, by omega, H6⟩
          case measure => simp [intOf]; omega
        · go_wp2_with (fail)
          go_ret
          exact ⟨⟨_, rfl, fun h => by first | (cases h; done) | (simp at h; done) | (omega)⟩, H6.out.1⟩
      go_upto_region 18 with (fail)
      refine wp_gen (fun W => Below w.heap.size w W ∧ W.heap[w.heap.size]? = some (.cells #[.string nm, .slice A n c, .int .i64 k', .slice U m cu, .slice R p cr, .string op, .int .i64 k, .int .i64 i, .string vs, .string s, .slice B q d, .slice Ar nr ca] 34 (0, 0))) HZ.out fun w7 hw7 => ?_
      have H7 := Lib.hid hw7
      clear g0 g1 g2 g3 g4 g5 g6 g7 g8 g9 g10 g11 hz0
      clear hw7
      have g0 := Lib.cell_of_heap H7.out.2 0
      have g1 := Lib.cell_of_heap H7.out.2 1
      have g2 := Lib.cell_of_heap H7.out.2 2
      have g3 := Lib.cell_of_heap H7.out.2 3
      have g4 := Lib.cell_of_heap H7.out.2 4
      have g5 := Lib.cell_of_heap H7.out.2 5
      have g6 := Lib.cell_of_heap H7.out.2 6
      have g7 := Lib.cell_of_heap H7.out.2 7
      have g8 := Lib.cell_of_heap H7.out.2 8
      have g9 := Lib.cell_of_heap H7.out.2 9
      have g10 := Lib.cell_of_heap H7.out.2 10
      have g11 := Lib.cell_of_heap H7.out.2 11
      simp only [List.getElem?_toArray, List.getElem?_cons_zero, List.getElem?_cons_succ] at g0 g1 g2 g3 g4 g5 g6 g7 g8 g9 g10 g11
      have hz0 := lt_of_block H7.out.2
      go_wp2_with (fail)
      go_loopw [6] (fun iv wr => ∃ j : Nat, iv = .int .i64 ((j : Int) + 1) ∧ j ≤ nr ∧ Hid (Below w.heap.size w wr ∧ wr.heap[w.heap.size]? = some (.cells #[.string nm, .slice A n c, .int .i64 k', .slice U m cu, .slice R p cr, .string op, .int .i64 k, .int .i64 i, .string vs, .string s, .slice B q d, .slice Ar nr ca] 34 (0, 0)))) (fun iv _ => nr - (intOf iv).toNat)
      case atStart => exact ⟨0, rfl, by omega, H7⟩
      case round =>
        rename World => wy
        obtain ⟨j3, rfl, hj3, HY⟩ := hrel
        clear g0 g1 g2 g3 g4 g5 g6 g7 g8 g9 g10 g11 hz0
        have hby := HY.out.2
        have g0 := Lib.cell_of_heap hby 0
        have g1 := Lib.cell_of_heap hby 1
        have g2 := Lib.cell_of_heap hby 2
        have g3 := Lib.cell_of_heap hby 3
        have g4 := Lib.cell_of_heap hby 4
        have g5 := Lib.cell_of_heap hby 5
        have g6 := Lib.cell_of_heap hby 6
        have g7 := Lib.cell_of_heap hby 7
        have g8 := Lib.cell_of_heap hby 8
        have g9 := Lib.cell_of_heap hby 9
        have g10 := Lib.cell_of_heap hby 10
        have g11 := Lib.cell_of_heap hby 11
        simp only [List.getElem?_toArray, List.getElem?_cons_zero, List.getElem?_cons_succ] at g0 g1 g2 g3 g4 g5 g6 g7 g8 g9 g10 g11
        have hz0 := lt_of_block hby
        clear hby
        by_cases hlt3 : j3 + 1 < nr
        · have dlt : decide ((j3 : Int) + 1 < (nr : Int)) = true := decide_eq_true (by omega)
          have hjl : j3 < rows.length := by have := HL.out; omega
          have hjl1 : j3 + 1 < rows.length := by have := HL.out; omega
          obtain ⟨a, D, md, cd, e, hce, _, q2, q3, _⟩ := (HR.out.below HY.out.1).2.2 j3 hjl
          subst e
          obtain ⟨a', D2, md2, cd2, e, hce2, _, s2, s3, _⟩ := (HR.out.below HY.out.1).2.2 (j3 + 1) hjl1
          injection e with e
          subst e
          have hel := World.block_lt_of_cell? _ _ hce
          have hel2 := World.block_lt_of_cell? _ _ hce2
          have HK1 : Hid (∀ W, Below wy.heap.size wy W → Calls Tryz.prog 30 #[.agg #[.string nm, .slice A n c, .int .i64 k', .slice U m cu, .slice R p cr, .string op, .int .i64 k, .int .i64 i, .string vs, .string s, .slice B q d], .slice D md cd] W fun e w' => RetV e ∧ Below W.heap.size W w') := Lib.hid fun W hW => HKY.out W rows[j3] D md cd (HY.out.1.trans (hW.mono HY.out.1.size)) q2 (q3.below hW) (HOK.out _ (List.getElem_mem hjl))
          have HK2 : Hid (∀ W, Below wy.heap.size wy W → Calls Tryz.prog 30 #[.agg #[.string nm, .slice A n c, .int .i64 k', .slice U m cu, .slice R p cr, .string op, .int .i64 k, .int .i64 i, .string vs, .string s, .slice B q d], .slice D2 md2 cd2] W fun e w' => RetV e ∧ Below W.heap.size W w') := Lib.hid fun W hW => HKY.out W rows[j3 + 1] D2 md2 cd2 (HY.out.1.trans (hW.mono HY.out.1.size)) s2 (s3.below hW) (HOK.out _ (List.getElem_mem hjl1))
          have hwr : IntKind.i64.wrap ((j3 : Int) + 1 - 1) = (j3 : Int) := by rw [IntKind.wrap_i64]; omega
          have hlt4 : j3 < nr := by omega
          have hwr2 : IntKind.i64.wrap (j3 : Int) = (j3 : Int) := by rw [IntKind.wrap_i64]; omega
          have cc1 : (0 : Int) ≤ (j3 : Int) + 1 := by omega
          have cc2 : (j3 : Int) + 1 < (nr : Int) := by omega
          rw [show a.add (j3 + 1) = ⟨a.block, a.off + (j3 + 1), none⟩ from addE a (j3 + 1) (by omega)] at hce2 hel2
          clear q3 s3
          go_upto_region 21 with (fail)
          refine detL_begin [.val (.pointer (some ⟨w.heap.size, 0, none⟩)), .val (.agg #[.string nm, .slice A n c, .int .i64 k', .slice U m cu, .slice R p cr, .string op, .int .i64 k, .int .i64 i, .string vs, .string s, .slice B q d]), .val (.pointer (some ⟨w.heap.size, 11, none⟩)), .val (.slice (some a) nr ca), .val (.int .i64 ((j3 : Int) + 1)), .val (.int .i64 j3), .val (.pointer (some (a.add j3))), .val (.slice D md cd), .rel valR, .val (.pointer (some ⟨w.heap.size, 0, none⟩)), .val (.agg #[.string nm, .slice A n c, .int .i64 k', .slice U m cu, .slice R p cr, .string op, .int .i64 k, .int .i64 i, .string vs, .string s, .slice B q d]), .val (.pointer (some ⟨w.heap.size, 11, none⟩)), .val (.slice (some a) nr ca), .val (.int .i64 ((j3 : Int) + 1)), .val (.pointer (some ⟨a.block, a.off + (j3 + 1), none⟩)), .val (.slice D2 md2 cd2), .rel valR, .rel (intP True), .rel boolR] 19 (by kernel_rfl) ?_
          refine detL_val (by kernel_rfl) (yields_of rfl fun w5 hb5 => ?_) ?_
          · have HBx := Lib.hid hb5
            clear hb5
            go_simp
            exact Det1_same
          simp only [Act.put, List.setIfInBounds_toArray, List.set_cons_zero, List.set_cons_succ]
          refine detL_val (by kernel_rfl) (yields_of rfl fun w5 hb5 => ?_) ?_
          · have HBx := Lib.hid hb5
            have m0 := (hb5.cell (p := ⟨w.heap.size, 0, none⟩) hz0).trans g0; have m1 := (hb5.cell (p := ⟨w.heap.size, 1, none⟩) hz0).trans g1; have m2 := (hb5.cell (p := ⟨w.heap.size, 2, none⟩) hz0).trans g2; have m3 := (hb5.cell (p := ⟨w.heap.size, 3, none⟩) hz0).trans g3; have m4 := (hb5.cell (p := ⟨w.heap.size, 4, none⟩) hz0).trans g4; have m5 := (hb5.cell (p := ⟨w.heap.size, 5, none⟩) hz0).trans g5; have m6 := (hb5.cell (p := ⟨w.heap.size, 6, none⟩) hz0).trans g6; have m7 := (hb5.cell (p := ⟨w.heap.size, 7, none⟩) hz0).trans g7; have m8 := (hb5.cell (p := ⟨w.heap.size, 8, none⟩) hz0).trans g8; have m9 := (hb5.cell (p := ⟨w.heap.size, 9, none⟩) hz0).trans g9; have m10 := (hb5.cell (p := ⟨w.heap.size, 10, none⟩) hz0).trans g10
            clear hb5
            go_simp
            exact Det1_same
          simp only [Act.put, List.setIfInBounds_toArray, List.set_cons_zero, List.set_cons_succ]
          refine detL_val (by kernel_rfl) (yields_of rfl fun w5 hb5 => ?_) ?_
          · have HBx := Lib.hid hb5
            clear hb5
            go_simp
            exact Det1_same
          simp only [Act.put, List.setIfInBounds_toArray, List.set_cons_zero, List.set_cons_succ]
          refine detL_val (by kernel_rfl) (yields_of rfl fun w5 hb5 => ?_) ?_
          · have HBx := Lib.hid hb5
            have m11 := (hb5.cell (p := ⟨w.heap.size, 11, none⟩) hz0).trans g11
            clear hb5
            go_simp
            exact Det1_same
          simp only [Act.put, List.setIfInBounds_toArray, List.set_cons_zero, List.set_cons_succ]
          refine detL_val (by kernel_rfl) (yields_of rfl fun w5 hb5 => ?_) ?_
          · have HBx := Lib.hid hb5
            clear hb5
            go_simp
            exact Det1_same
          simp only [Act.put, List.setIfInBounds_toArray, List.set_cons_zero, List.set_cons_succ]
          refine detL_val (by kernel_rfl) (yields_of rfl fun w5 hb5 => ?_) ?_
          · have HBx := Lib.hid hb5
            clear hb5
            go_simp
            exact Det1_same
          simp only [Act.put, List.setIfInBounds_toArray, List.set_cons_zero, List.set_cons_succ]
          refine detL_val (by kernel_rfl) (yields_of rfl fun w5 hb5 => ?_) ?_
          · have HBx := Lib.hid hb5
            clear hb5
            go_simp
            exact Det1_same
          simp only [Act.put, List.setIfInBounds_toArray, List.set_cons_zero, List.set_cons_succ]
          refine detL_val (by kernel_rfl) (yields_of rfl fun w5 hb5 => ?_) ?_
          · have HBx := Lib.hid hb5
            have m0 := (hb5.cell (p := a.add j3) hel).trans hce
            clear hb5
            go_simp
            exact Det1_same
          simp only [Act.put, List.setIfInBounds_toArray, List.set_cons_zero, List.set_cons_succ]
          refine detL_rel (by kernel_rfl) (yields_rel (by rfl) valR_lasting fun w5 hw5 => ?_) ?_
          · have hb5 := hw5.below
            have HBx := Lib.hid hb5
            clear hb5 hw5
            go_simp
            exact valR_enter (HK1.out w5 ((Below.refl _ _).drew.trans HBx.out))
          rintro v G9 w5 hw5
          have qq : valR v G9 w5 := (hw5.ents _ List.mem_cons_self).1
          clear hw5
          unfold valR at qq
          obtain ⟨rfl, x1, ok1, rfl⟩ := qq
          simp only [Act.put, List.setIfInBounds_toArray, List.set_cons_zero, List.set_cons_succ]
          refine detL_val (by kernel_rfl) (yields_of rfl fun w5 hb5 => ?_) ?_
          · have HBx := Lib.hid hb5
            clear hb5
            go_simp
            exact Det1_same
          simp only [Act.put, List.setIfInBounds_toArray, List.set_cons_zero, List.set_cons_succ]
          refine detL_val (by kernel_rfl) (yields_of rfl fun w5 hb5 => ?_) ?_
          · have HBx := Lib.hid hb5
            have m0 := (hb5.cell (p := ⟨w.heap.size, 0, none⟩) hz0).trans g0; have m1 := (hb5.cell (p := ⟨w.heap.size, 1, none⟩) hz0).trans g1; have m2 := (hb5.cell (p := ⟨w.heap.size, 2, none⟩) hz0).trans g2; have m3 := (hb5.cell (p := ⟨w.heap.size, 3, none⟩) hz0).trans g3; have m4 := (hb5.cell (p := ⟨w.heap.size, 4, none⟩) hz0).trans g4; have m5 := (hb5.cell (p := ⟨w.heap.size, 5, none⟩) hz0).trans g5; have m6 := (hb5.cell (p := ⟨w.heap.size, 6, none⟩) hz0).trans g6; have m7 := (hb5.cell (p := ⟨w.heap.size, 7, none⟩) hz0).trans g7; have m8 := (hb5.cell (p := ⟨w.heap.size, 8, none⟩) hz0).trans g8; have m9 := (hb5.cell (p := ⟨w.heap.size, 9, none⟩) hz0).trans g9; have m10 := (hb5.cell (p := ⟨w.heap.size, 10, none⟩) hz0).trans g10
            clear hb5
            go_simp
            exact Det1_same
          simp only [Act.put, List.setIfInBounds_toArray, List.set_cons_zero, List.set_cons_succ]
          refine detL_val (by kernel_rfl) (yields_of rfl fun w5 hb5 => ?_) ?_
          · have HBx := Lib.hid hb5
            clear hb5
            go_simp
            exact Det1_same
          simp only [Act.put, List.setIfInBounds_toArray, List.set_cons_zero, List.set_cons_succ]
          refine detL_val (by kernel_rfl) (yields_of rfl fun w5 hb5 => ?_) ?_
          · have HBx := Lib.hid hb5
            have m11 := (hb5.cell (p := ⟨w.heap.size, 11, none⟩) hz0).trans g11
            clear hb5
            go_simp
            exact Det1_same
          simp only [Act.put, List.setIfInBounds_toArray, List.set_cons_zero, List.set_cons_succ]
          refine detL_val (by kernel_rfl) (yields_of rfl fun w5 hb5 => ?_) ?_
          · have HBx := Lib.hid hb5
            clear hb5
            go_simp
            exact Det1_same
          simp only [Act.put, List.setIfInBounds_toArray, List.set_cons_zero, List.set_cons_succ]
          refine detL_val (by kernel_rfl) (yields_of rfl fun w5 hb5 => ?_) ?_
          · have HBx := Lib.hid hb5
            clear hb5
            go_simp
            exact Det1_same
          simp only [Act.put, List.setIfInBounds_toArray, List.set_cons_zero, List.set_cons_succ]
          refine detL_val (by kernel_rfl) (yields_of rfl fun w5 hb5 => ?_) ?_
          · have HBx := Lib.hid hb5
            have m0 := (hb5.cell (p := ⟨a.block, a.off + (j3 + 1), none⟩) hel2).trans hce2
            clear hb5
            go_simp
            exact Det1_same
          simp only [Act.put, List.setIfInBounds_toArray, List.set_cons_zero, List.set_cons_succ]
          refine detL_rel (by kernel_rfl) (yields_rel (by rfl) valR_lasting fun w5 hw5 => ?_) ?_
          · have hb5 := hw5.below
            have HBx := Lib.hid hb5
            clear hb5 hw5
            go_simp
            exact valR_enter (HK2.out w5 ((Below.refl _ _).drew.trans HBx.out))
          rintro v G9 w5 hw5
          have qq : valR v G9 w5 := (hw5.ents _ List.mem_cons_self).1
          clear hw5
          unfold valR at qq
          obtain ⟨rfl, x2, ok2, rfl⟩ := qq
          simp only [Act.put, List.setIfInBounds_toArray, List.set_cons_zero, List.set_cons_succ]
          refine detL_rel (by kernel_rfl) (yields_rel (by rfl) intP_lasting fun w5 hw5 => ?_) ?_
          · have hb5 := hw5.below
            have HBx := Lib.hid hb5
            clear hb5 hw5
            go_simp
            exact intP_int (rorder_int x1 x2 w5 ok1 ok2)
          rintro v G9 w5 hw5
          have qq : intP True v G9 w5 := (hw5.ents _ List.mem_cons_self).1
          clear hw5
          unfold intP at qq
          obtain ⟨rfl, z1, rfl, -⟩ := qq
          simp only [Act.put, List.setIfInBounds_toArray, List.set_cons_zero, List.set_cons_succ]
          refine detL_rel (by kernel_rfl) (yields_rel (by rfl) boolR_lasting fun w5 hw5 => ?_) ?_
          · have hb5 := hw5.below
            have HBx := Lib.hid hb5
            clear hb5 hw5
            go_simp
            exact boolR_is
          rintro v G9 w5 hw5
          have qq : boolR v G9 w5 := (hw5.ents _ List.mem_cons_self).1
          clear hw5
          unfold boolR at qq
          obtain ⟨rfl, b9, rfl⟩ := qq
          simp only [Act.put, List.setIfInBounds_toArray, List.set_cons_zero, List.set_cons_succ]
          refine detL_done (by kernel_rfl) fun w6 hw6 => ?_
          have hb6 : Below wy.heap.size wy w6 := (Below.refl _ _).drew.trans hw6.below
          have H6 := Lib.hid (show Below w.heap.size w w6 ∧ w6.heap[w.heap.size]? = some (.cells #[.string nm, .slice A n c, .int .i64 k', .slice U m cu, .slice R p cr, .string op, .int .i64 k, .int .i64 i, .string vs, .string s, .slice B q d, .slice (some a) nr ca] 34 (0, 0)) from ⟨HY.out.1.trans (hb6.mono HY.out.1.size), (hb6.block _ hz0).trans HY.out.2⟩)
          clear hw6 hb6
          cases b9
          · go_wp2_with (fail)
            go_roundw
            case rel => exact ⟨j3 + 1, by go_num, by omega, H6⟩
            case measure => simp [intOf]; omega
          · go_wp2_with (fail)
            go_ret
            exact ⟨⟨_, rfl, fun h => by first | (cases h; done) | (simp at h; done) | (omega)⟩, H6.out.1⟩
        have dlt : decide ((j3 : Int) + 1 < (nr : Int)) = false := decide_eq_false (by omega)
        go_wp2_with (fail)
        go_ret
        exact ⟨⟨_, rfl, fun _ => HGOOD.out⟩, HY.out.1⟩
end Go.Proofs.YtmhkmliebhbkdaaGreat

/- The law's table of rows of one number each. -/
namespace Go.Proofs.YtmhkmliebhbkdaaGreat
open Go.RowKit Go.Lib

theorem vfR_one {P : Program} {w : World} {B0 : Nat} {y : Int} (hb0 : B0 ≤ w.heap.size) : Rel1 P (vfR B0 [⟨1, y, ⟨#[]⟩⟩]) w (.ok (.value (.slice (some ⟨w.heap.size, 0, none⟩) 1 1)) (w.alloc (.cells #[.int .i64 1, .int .i64 y, .string ⟨#[]⟩] 26))) := by
  refine ⟨[], ⟨rfl, _, 1, 1, rfl, (fun e => by cases e), by omega, ⟨rfl, fun j hj => ⟨_, rfl, ?_, by simp⟩⟩, fun a' e => .inr (by injection e with e; subst e; exact hb0)⟩, (fun b hb => by cases hb), (Below.refl _ _).alloc (Nat.le_refl _) _⟩
  obtain rfl : j = 0 := by have : j < 1 := hj; omega
  rw [show (⟨w.heap.size, 0, none⟩ : Addr).add (0 * 3) = ⟨w.heap.size, 0, none⟩ by simp [Addr.add]]
  exact ⟨by simp [go_sem, fewL, Vl.few], by simp [go_sem, fewL, Vl.few], by simp [go_sem, fewL, Vl.few]; rfl⟩
def kN7 : Cl := ⟨⟨#[107]⟩, 1, true⟩
theorem Rws.room {w1 W : World} {A : Option Addr} {n c j : Nat} {rows : List (List Vl)} (h : Rws w1 W (.slice A n c) j rows) : n ≤ c := by
  obtain ⟨ss, ho, _⟩ := h
  rcases ho.2 with ⟨e, h0⟩ | ⟨g, cap, cur, e, hB, hg, hc, hm, hs, ht⟩
  · injection e with e1 e2 e3
    omega
  · injection e with e1 e2 e3
    omega
set_option maxRecDepth 100000 in
set_option maxHeartbeats 4000000 in
theorem some_any (a : Addr) (n cl : Nat) (xs : List Int) (w : World) (hl : xs.length = n) (hn : n ≤ 1000) (hx : ∀ j (h : j < xs.length), w.cell? (a.add j) = some (.int .i64 xs[j])) :
    Calls Tryz.prog 38 #[.slice (some a) n cl] w fun e w' => ∃ b RA rc, e = .returned (.agg #[.string ⟨#[116]⟩, .slice (some ⟨b, 0, none⟩) 1 1, .int .i64 0, .slice none 0 0, .slice none 0 0, .string ⟨#[]⟩, .int .i64 0, .int .i64 0, .string ⟨#[]⟩, .string ⟨#[]⟩, .slice none 0 0, .slice RA n rc]) ∧ ColS w' (some ⟨b, 0, none⟩) 1 [kN7] ∧ nilOk RA n rc ∧ n ≤ rc ∧ RowsAt w' (fun _ => False) RA n (xs.map fun x => [⟨1, x, ⟨#[]⟩⟩]) ∧ Below w.heap.size w w' := by
  have HX := Lib.hid hx
  have HL := Lib.hid hl
  clear hx hl
  go_enter Tryz.func38, Tryz.ntmps38
  go_upto_region 1 with (fail)
  have hst : (((w.alloc (.cells #[.string ⟨#[]⟩, .slice none 0 0, .int .i64 0, .slice none 0 0, .slice none 0 0, .string ⟨#[]⟩, .int .i64 0, .int .i64 0, .string ⟨#[]⟩, .string ⟨#[]⟩, .slice none 0 0, .slice none 0 0] 34)).alloc (.cells #[.string ⟨#[107]⟩, .int .i64 1, .bool true] 77)).alloc (.cells #[.string ⟨#[]⟩, .slice none 0 0, .int .i64 0, .slice none 0 0, .slice none 0 0, .string ⟨#[]⟩, .int .i64 0, .int .i64 0, .string ⟨#[]⟩, .string ⟨#[]⟩, .slice none 0 0, .slice none 0 0] 34)).heap[w.heap.size + 1 + 1]? = some (.cells #[.string ⟨#[]⟩, .slice none 0 0, .int .i64 0, .slice none 0 0, .slice none 0 0, .string ⟨#[]⟩, .int .i64 0, .int .i64 0, .string ⟨#[]⟩, .string ⟨#[]⟩, .slice none 0 0, .slice none 0 0] 34 (0, 0)) := alloc_at (by simp) _
  go_upto_region 2 with (refine wpList_store_row rfl 34 (.tmp 3) (.tmp 8) rfl (w.heap.size + 1 + 1) #[.string ⟨#[116]⟩, .slice (some ⟨w.heap.size + 1, 0, none⟩) 1 1, .int .i64 0, .slice none 0 0, .slice none 0 0, .string ⟨#[]⟩, .int .i64 0, .int .i64 0, .string ⟨#[]⟩, .string ⟨#[]⟩, .slice none 0 0, .slice none 0 0] rfl rfl 34 _ hst relSize rfl (rel_one _ _ _ _ _ _ _ _ _ _ _ _ _ _ _ _ _ _ _ _ _ _) ?_)
  refine wp_gen (fun W => Below w.heap.size w W ∧ W.heap[w.heap.size]? = some (.cells #[.string ⟨#[]⟩, .slice none 0 0, .int .i64 0, .slice none 0 0, .slice none 0 0, .string ⟨#[]⟩, .int .i64 0, .int .i64 0, .string ⟨#[]⟩, .string ⟨#[]⟩, .slice none 0 0, .slice none 0 0] 34 (0, 0)) ∧ W.heap[w.heap.size + 1]? = some (.cells #[.string ⟨#[107]⟩, .int .i64 1, .bool true] 77 (0, 0)) ∧ W.heap[w.heap.size + 1 + 1]? = some (.cells #[.string ⟨#[116]⟩, .slice (some ⟨w.heap.size + 1, 0, none⟩) 1 1, .int .i64 0, .slice none 0 0, .slice none 0 0, .string ⟨#[]⟩, .int .i64 0, .int .i64 0, .string ⟨#[]⟩, .string ⟨#[]⟩, .slice none 0 0, .slice none 0 0] 34 (0, 0))) ⟨below_row ((((Below.refl _ _).alloc (Nat.le_refl _) _).alloc (by simp) _).alloc (by simp; omega) _) _ (by omega), (setRow_other _ _ _ _ (by omega)).trans ((Below.heap_alloc _ _ _ (by simp; omega)).trans ((Below.heap_alloc _ _ _ (by simp)).trans (alloc_at rfl _))), (setRow_other _ _ _ _ (by omega)).trans ((Below.heap_alloc _ _ _ (by simp)).trans (alloc_at (by simp) _)), setRow_heap _ _ _ _ _ _ hst⟩ fun w2 hw2 => ?_
  have H2 := Lib.hid hw2
  have hd2 := lt_of_block hw2.2.2.2
  clear hw2 hst
  go_wp2_with (fail)
  go_loopw [4] (fun iv wr => ∃ (j : Nat) (RA : Option Addr) (rc : Nat), iv = .int .i64 j ∧ j ≤ n ∧ Hid ((Below w.heap.size w wr ∧ wr.heap[w.heap.size]? = some (.cells #[.string ⟨#[]⟩, .slice none 0 0, .int .i64 0, .slice none 0 0, .slice none 0 0, .string ⟨#[]⟩, .int .i64 0, .int .i64 0, .string ⟨#[]⟩, .string ⟨#[]⟩, .slice none 0 0, .slice none 0 0] 34 (0, 0)) ∧ wr.heap[w.heap.size + 1]? = some (.cells #[.string ⟨#[107]⟩, .int .i64 1, .bool true] 77 (0, 0)) ∧ wr.heap[w.heap.size + 1 + 1]? = some (.cells #[.string ⟨#[116]⟩, .slice (some ⟨w.heap.size + 1, 0, none⟩) 1 1, .int .i64 0, .slice none 0 0, .slice none 0 0, .string ⟨#[]⟩, .int .i64 0, .int .i64 0, .string ⟨#[]⟩, .string ⟨#[]⟩, .slice none 0 0, .slice RA j rc] 34 (0, 0))) ∧ w2.heap.size ≤ wr.heap.size ∧ Rws w2 wr (.slice RA j rc) j ((xs.take j).map fun x => fewL [⟨1, x, ⟨#[]⟩⟩]))) (fun iv _ => n - (intOf iv).toNat)
  case atStart => exact ⟨0, none, 0, rfl, by omega, Lib.hid ⟨H2.out, Nat.le_refl _, [], World.ownsRow_nil _ _ _ _, rfl, fun q hq => absurd hq (by simp)⟩⟩
  case round =>
    obtain ⟨j, RA, rc, rfl, hj, HS⟩ := hrel
    have hsz := HS.out.1.1.size
    have x11 := Lib.cell_of_heap HS.out.1.2.2.2 11
    simp only [List.getElem?_toArray, List.getElem?_cons_zero, List.getElem?_cons_succ] at x11
    have hzd := lt_of_block HS.out.1.2.2.2
    by_cases hlt : j < n
    · have hjl : j < xs.length := by rw [HL.out]; exact hlt
      have hc := HX.out j hjl
      have hc' := (HS.out.1.1.cell (World.block_lt_of_cell? w _ hc)).trans hc
      have hel := World.block_lt_of_cell? wr _ hc'
      have HE := Lib.hid hc'
      obtain ⟨y, HY⟩ : ∃ r, Hid (xs[j] = r) := ⟨_, Lib.hid rfl⟩
      rw [HY.out] at HE
      clear hc hc'
      go_upto_region 5 with (fail)
      refine detL_begin [.val (.pointer (some ⟨w.heap.size + 1 + 1, 11, none⟩)), .val (.slice RA j rc), .val (.slice (some a) n cl), .val (.int .i64 j), .val (.pointer (some (a.add j))), .val (.int .i64 y), .val (.agg #[.int .i64 1, .int .i64 y, .string ⟨#[]⟩]), .rel (vfR wr.heap.size [⟨1, y, ⟨#[]⟩⟩]), .rel (nsR wr.heap.size [⟨1, y, ⟨#[]⟩⟩])] 9 (by kernel_rfl) ?_
      refine detL_val (by kernel_rfl) (yields_of rfl fun w5 hb5 => ?_) ?_
      · have hc5 := bcellD hb5
        clear hb5
        go_simp
        exact Det1_same
      simp only [Act.put, List.setIfInBounds_toArray, List.set_cons_zero, List.set_cons_succ]
      refine detL_val (by kernel_rfl) (yields_of rfl fun w5 hb5 => ?_) ?_
      · have hc5 := bcellD hb5
        clear hb5
        go_simp
        exact Det1_same
      simp only [Act.put, List.setIfInBounds_toArray, List.set_cons_zero, List.set_cons_succ]
      refine detL_val (by kernel_rfl) (yields_of rfl fun w5 hb5 => ?_) ?_
      · have hc5 := bcellD hb5
        clear hb5
        go_simp
        exact Det1_same
      simp only [Act.put, List.setIfInBounds_toArray, List.set_cons_zero, List.set_cons_succ]
      refine detL_val (by kernel_rfl) (yields_of rfl fun w5 hb5 => ?_) ?_
      · have hc5 := bcellD hb5
        clear hb5
        go_simp
        exact Det1_same
      simp only [Act.put, List.setIfInBounds_toArray, List.set_cons_zero, List.set_cons_succ]
      refine detL_val (by kernel_rfl) (yields_of rfl fun w5 hb5 => ?_) ?_
      · have hc5 := bcellD hb5
        clear hb5
        go_simp
        exact Det1_same
      simp only [Act.put, List.setIfInBounds_toArray, List.set_cons_zero, List.set_cons_succ]
      refine detL_val (by kernel_rfl) (yields_of rfl fun w5 hb5 => ?_) ?_
      · have hc5 := bcellD hb5
        have m1 := (hb5.cell (p := a.add j) hel).trans HE.out
        clear hb5
        go_simp
        exact Det1_same
      simp only [Act.put, List.setIfInBounds_toArray, List.set_cons_zero, List.set_cons_succ]
      refine detL_val (by kernel_rfl) (yields_of rfl fun w5 hb5 => ?_) ?_
      · have hc5 := bcellD hb5
        clear hb5
        go_simp
        exact Det1_same
      simp only [Act.put, List.setIfInBounds_toArray, List.set_cons_zero, List.set_cons_succ]
      refine detL_rel (by kernel_rfl) (yields_rel (by rfl) vfR_lasting fun w5 hw5 => ?_) ?_
      · have hb5 := hw5.below
        have hc5 := bcellD hb5
        have HBx := Lib.hid hb5
        clear hb5 hw5
        go_simp
        exact vfR_one (((Below.refl _ _).drew.trans HBx.out : Below wr.heap.size wr w5).size)
      rintro v G7 w5 hw5
      have qq : vfR wr.heap.size [⟨1, y, ⟨#[]⟩⟩] v G7 w5 := (hw5.ents _ List.mem_cons_self).1
      clear hw5
      unfold vfR at qq
      obtain ⟨rfl, D7, m7, c7, rfl, -⟩ := qq
      simp only [Act.put, List.setIfInBounds_toArray, List.set_cons_zero, List.set_cons_succ]
      refine detL_rel (by kernel_rfl) (yields_rel (by rfl) nsR_lasting fun w5 hw5 => ?_) ?_
      · have hb5 := hw5.below
        have hc5 := bcellD hb5
        have HBx := Lib.hid hb5
        have q7 : vfR wr.heap.size [⟨1, y, ⟨#[]⟩⟩] (.slice D7 m7 c7) [] w5 := (hw5.ents _ (List.mem_filter.2 ⟨List.mem_cons_self, by first | kernel_rfl | simp [depB, Region.binds] | decide⟩)).1
        clear hb5 hw5
        go_simp
        exact nsR_made q7
      rintro v G8 w5 hw5
      have qq : nsR wr.heap.size [⟨1, y, ⟨#[]⟩⟩] v G8 w5 := (hw5.ents _ List.mem_cons_self).1
      clear hw5
      unfold nsR at qq
      obtain ⟨b5, D8, m8, c8, rfl, rfl, -⟩ := qq
      simp only [Act.put, List.setIfInBounds_toArray, List.set_cons_zero, List.set_cons_succ]
      refine detL_tail rfl (by kernel_rfl) fun w11 hw11 => ?_
      have q8 : nsR wr.heap.size [⟨1, y, ⟨#[]⟩⟩] (.slice (some ⟨b5, 0, none⟩) 1 1) [b5] w11 := (hw11.ents _ List.mem_cons_self).1
      have hbel : Below wr.heap.size wr w11 := (Below.refl _ _).drew.trans hw11.below
      clear hw11
      obtain ⟨b9, D9, m9, c9, e9, _, h9, k1, k2, k3, k4⟩ := q8
      obtain rfl : b5 = b9 := by injection e9
      have hs11 := hbel.size
      have hb11 := (hbel.block _ hzd).trans HS.out.1.2.2.2
      obtain ⟨ss, ho, hl, hat⟩ := HS.out.2.2.below hbel
      have hss : ss.length = j := by have := ho.1; omega
      have HO1 := Lib.hid ho
      have HAT := Lib.hid (And.intro hl hat)
      have HB1 := Lib.hid hbel
      have HX1 := Lib.hid hb11
      have HZ5 := Lib.hid h9
      have HK := Lib.hid (And.intro k1 (And.intro k2 (And.intro k3 k4)))
      have hl5 := lt_of_block h9
      clear hbel hb11 ho hl hat h9 k1 k2 k3 k4 x11 hel
      obtain ⟨i1, hi, hz0, hz1, hz2⟩ := info_parts infoVs
      go_wp2_with (at_builtin; refine wpList_append_kept rfl _ _ 32 rfl w2.heap.size 47 i1 _ 1 24 Tryz.underlying32 hi hz0 hz1 hz2 rfl (by decide) (.slice RA j rc) j ss rfl HO1.out ⟨b5, 0, none⟩ 1 1 [.slice D9 m9 c9] rfl rfl ?c1 ?c2 (by omega) ?c3 ?c4 ?c5 ?_)
      case c1 =>
        intro q u hq
        have := newSl_cells HZ5.out q u hq
        first
          | exact this
          | (rwa [show (⟨b5, 0, none⟩ : Addr).add q = ⟨b5, q, none⟩ by unfold Addr.add; split <;> simp_all] at this)
      case c2 => first | (intro u hu; simp at hu; subst hu; rfl) | rfl | simp [Value.oneCell']
      case c3 => unfold maxLen; omega
      case c4 => omega
      case c5 => have := HS.out.2.1; omega
      intro v' w6 hown' hgrow hwhere
      obtain ⟨RA', rc', rfl⟩ := own_form hown'
      have hne : ∀ q, (Value.slice RA j rc).ownBlock = some q → w2.heap.size ≤ q := own_geN HO1.out
      have F : ∀ q, q < w2.heap.size → w6.heap[q]? = wr.heap[q]? := fun q hq => (hgrow.block q (by have := HS.out.2.1; omega) (fun e => by have := hne _ e.symm; omega)).trans (HB1.out.block q (by have := HS.out.2.1; omega))
      have hw2w := H2.out.1.size
      have hs6 := hgrow.size
      have HBN : Hid (Below w.heap.size w w6 ∧ w6.heap[w.heap.size]? = some (.cells #[.string ⟨#[]⟩, .slice none 0 0, .int .i64 0, .slice none 0 0, .slice none 0 0, .string ⟨#[]⟩, .int .i64 0, .int .i64 0, .string ⟨#[]⟩, .string ⟨#[]⟩, .slice none 0 0, .slice none 0 0] 34 (0, 0)) ∧ w6.heap[w.heap.size + 1]? = some (.cells #[.string ⟨#[107]⟩, .int .i64 1, .bool true] 77 (0, 0)) ∧ w6.heap[w.heap.size + 1 + 1]? = some (.cells #[.string ⟨#[116]⟩, .slice (some ⟨w.heap.size + 1, 0, none⟩) 1 1, .int .i64 0, .slice none 0 0, .slice none 0 0, .string ⟨#[]⟩, .int .i64 0, .int .i64 0, .string ⟨#[]⟩, .string ⟨#[]⟩, .slice none 0 0, .slice RA j rc] 34 (0, 0))) := Lib.hid ⟨⟨hgrow.os.trans (HB1.out.os.trans HS.out.1.1.os), hgrow.tape.trans (HB1.out.tape.trans HS.out.1.1.tape), hgrow.output.trans (HB1.out.output.trans HS.out.1.1.output), by have := HS.out.2.1; omega, fun q hq => (F q (by omega)).trans (HS.out.1.1.block q hq)⟩, (F _ (by omega)).trans HS.out.1.2.1, (F _ (by omega)).trans HS.out.1.2.2.1, (F _ hd2).trans HS.out.1.2.2.2⟩
      have HRN : Hid (Rws w2 w6 (.slice RA' (j + 1) rc') (j + 1) (((xs.take j).map fun x => fewL [⟨1, x, ⟨#[]⟩⟩]) ++ [fewL [⟨1, y, ⟨#[]⟩⟩]])) := Lib.hid (Rws.snoc hss HAT.out.1 HAT.out.2 hown' hgrow hwhere HK.out.1 HK.out.2.1 HK.out.2.2.1 (fun a' e => (HK.out.2.2.2 a' e).imp id fun h => ⟨by have := HS.out.2.1; omega, fun e' => by
        obtain ⟨ss', ho', _⟩ := HS.out.2.2
        have := (ho'.lt _ e').2
        omega⟩))
      have bf := Lib.frozen_of_heap HBN.out.2.2.2
      have x11 := Lib.cell_of_heap HBN.out.2.2.2 11
      simp only [List.getElem?_toArray, List.getElem?_cons_zero, List.getElem?_cons_succ] at x11
      have hd6 := lt_of_block HBN.out.2.2.2
      clear hown' hgrow hwhere
      go_wp2_with (fail)
      go_roundw
      case rel => exact ⟨j + 1, RA', rc', by go_num, by omega, Lib.hid ⟨⟨HBN.out.1.setCell (by show w.heap.size ≤ w.heap.size + 1 + 1; omega) _, (Below.heap_setCell _ _ _ _ (by show w.heap.size ≠ w.heap.size + 1 + 1; omega)).trans HBN.out.2.1, (Below.heap_setCell _ _ _ _ (by show w.heap.size + 1 ≠ w.heap.size + 1 + 1; omega)).trans HBN.out.2.2.1, any_set6 HBN.out.2.2.2 11 _⟩, by have := HS.out.2.1; simp [World.setCell]; omega, by rw [List.take_succ_eq_append_getElem hjl, List.map_append, HY.out]; exact HRN.out.setd hd2 11 _⟩⟩
      case measure => simp [intOf]; omega
    · obtain rfl : j = n := by omega
      have hxt : xs.take j = xs := List.take_of_length_le (by have := HL.out; omega)
      go_upto_region 6 with (fail)
      have hbx := HS.out.1.2.2.2
      have hres := HS.out.1.2.1
      clear x11
      go_wp2_with (first
        | (refine wpList_load_row rfl 34 (.tmp 3) rfl (w.heap.size + 1 + 1) rfl 34 #[.string ⟨#[116]⟩, .slice (some ⟨w.heap.size + 1, 0, none⟩) 1 1, .int .i64 0, .slice none 0 0, .slice none 0 0, .string ⟨#[]⟩, .int .i64 0, .int .i64 0, .string ⟨#[]⟩, .string ⟨#[]⟩, .slice none 0 0, (.slice RA j rc)] (0, 0) _ hbx Tryz.underlying34 rfl relSize ?_)
        | (refine wpList_store_row rfl 34 (.tmp 2) (.tmp 26) rfl w.heap.size #[.string ⟨#[116]⟩, .slice (some ⟨w.heap.size + 1, 0, none⟩) 1 1, .int .i64 0, .slice none 0 0, .slice none 0 0, .string ⟨#[]⟩, .int .i64 0, .int .i64 0, .string ⟨#[]⟩, .string ⟨#[]⟩, .slice none 0 0, (.slice RA j rc)] rfl rfl 34 _ hres relSize rfl (rel_one _ _ _ _ _ _ _ _ _ _ _ _ _ _ _ _ _ _ _ _ _ _) ?_))
      have h2 := HS.out.2.2
      rw [hxt] at h2
      refine bodyPost_ret (results_cell_row rfl _ _ w.heap.size 34 #[.string ⟨#[116]⟩, .slice (some ⟨w.heap.size + 1, 0, none⟩) 1 1, .int .i64 0, .slice none 0 0, .slice none 0 0, .string ⟨#[]⟩, .int .i64 0, .int .i64 0, .string ⟨#[]⟩, .string ⟨#[]⟩, .slice none 0 0, (.slice RA j rc)] (0, 0) _ rfl (setRow_heap _ _ _ _ _ _ hres) Tryz.underlying34 rfl relSize) rfl ⟨w.heap.size + 1, RA, rc, rfl, ?_, h2.nil, h2.room, ?_, below_row HS.out.1.1 _ (Nat.le_refl _)⟩
      · have hk := (setRow_other wr w.heap.size _ #[.string ⟨#[116]⟩, .slice (some ⟨w.heap.size + 1, 0, none⟩) 1 1, .int .i64 0, .slice none 0 0, .slice none 0 0, .string ⟨#[]⟩, .int .i64 0, .int .i64 0, .string ⟨#[]⟩, .string ⟨#[]⟩, .slice none 0 0, (.slice RA j rc)] (by omega)).trans HS.out.1.2.2.1
        refine ⟨rfl, by unfold maxLen; omega, fun q hq => ⟨_, rfl, ?_⟩⟩
        obtain rfl : q = 0 := by have : q < 1 := hq; omega
        rw [show (⟨w.heap.size + 1, 0, none⟩ : Addr).add (0 * 3) = ⟨w.heap.size + 1, 0, none⟩ by simp [Addr.add]]
        exact ⟨(Lib.cell_of_heap hk 0).trans rfl, (Lib.cell_of_heap hk 1).trans rfl, (Lib.cell_of_heap hk 2).trans rfl⟩
      · exact h2.rows hn (fun b hb => setRow_other _ _ _ _ (by omega)) (fun _ _ h => h)
end Go.Proofs.YtmhkmliebhbkdaaGreat
