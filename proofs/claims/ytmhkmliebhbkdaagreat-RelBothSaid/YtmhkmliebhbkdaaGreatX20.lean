import Derived.Test.YtmhkmliebhbkdaaGreatX19
import Derived.WideMake
import Derived.WideKeyRuns
import Derived.Test.YtmhkmliebhbkdaaGreatX12

/- rel's columns: which of two rows is first; whether rows rise. -/
namespace Go.Proofs.YtmhkmliebhbkdaaGreat
open Go.RowKit Go.Lib

def ordR (k : Nat) (r s : List Vl) : Int := ordN (ofV k r).k (ofV k r).i (ofV k r).s (ofV k s).k (ofV k s).i (ofV k s).s
set_option maxRecDepth 100000 in
set_option maxHeartbeats 4000000 in
theorem corder_any (k : Nat) (D : Option Addr) (m cd : Nat) (r : List Vl) (D2 : Option Addr) (m2 cd2 : Nat) (s : List Vl) (w : World) (hm : m ≤ 1000) (hm2 : m2 ≤ 1000) (hv : Vals w w.heap.size D m r) (hv2 : Vals w w.heap.size D2 m2 s) :
    Calls Tryz.prog 29 #[.int .i64 k, .slice D m cd, .slice D2 m2 cd2] w fun e w' => e = .returned (.int .i64 (ordR k r s)) ∧ Below w.heap.size w w' := by
  have H1 := Lib.hid (of_any k D m cd r w hm hv)
  have H2 : Hid (∀ W, Below w.heap.size w W → Calls Tryz.prog 61 #[.int .i64 k, .slice D2 m2 cd2] W fun e w' => e = .returned (.tuple #[.agg #[.int .i64 (ofV k s).k, .int .i64 (ofV k s).i, .string (ofV k s).s], .bool (decide (k < m2))]) ∧ Below W.heap.size W w') := Lib.hid fun W hW => of_any k D2 m2 cd2 s W hm2 ((hv2.keep hW).more hW.size)
  unfold ordR
  clear hv hv2
  generalize ofV k r = x at H1 ⊢
  generalize ofV k s = y at H2 ⊢
  have HO := Lib.hid (fun W => order_any x.k x.i x.s y.k y.i y.s W)
  go_enter Tryz.func29, Tryz.ntmps29
  go_upto_region 2 with (go_at_call 61; (with_reducible refine H1.out.mono ?_); rintro e w1 ⟨rfl, hb1⟩; have HB1 := Lib.hid hb1; clear hb1)
  refine wp_gen (fun W => Below w.heap.size w W ∧ W.heap[w1.heap.size]? = some (.cells #[.int .i64 x.k, .int .i64 x.i, .string x.s] 26 (0, 0))) ⟨HB1.out.alloc HB1.out.size _, alloc_at rfl _⟩ fun w2 hw2 => ?_
  have HS2 := Lib.hid hw2
  have hl2 := lt_of_block hw2.2
  clear hw2
  go_upto_region 3 with (go_at_call 61; (with_reducible refine (H2.out _ HS2.out.1).mono ?_); rintro e w3 ⟨rfl, hb3⟩; have HB3 := Lib.hid hb3; have hy3 := hb3.size; clear hb3)
  refine wp_gen (fun W => Below w.heap.size w W ∧ W.heap[w1.heap.size]? = some (.cells #[.int .i64 x.k, .int .i64 x.i, .string x.s] 26 (0, 0)) ∧ W.heap[w3.heap.size]? = some (.cells #[.int .i64 y.k, .int .i64 y.i, .string y.s] 26 (0, 0))) ⟨(HS2.out.1.trans (HB3.out.mono HS2.out.1.size)).alloc (HS2.out.1.trans (HB3.out.mono HS2.out.1.size)).size _, (Below.heap_alloc _ _ _ (by omega)).trans ((HB3.out.block _ hl2).trans HS2.out.2), alloc_at rfl _⟩ fun w4 hw4 => ?_
  have HS4 := Lib.hid hw4
  have g0 := Lib.cell_of_heap hw4.2.1 0
  have g1 := Lib.cell_of_heap hw4.2.1 1
  have g2 := Lib.cell_of_heap hw4.2.1 2
  simp only [List.getElem?_toArray, List.getElem?_cons_zero, List.getElem?_cons_succ] at g0 g1 g2
  have h0 := Lib.cell_of_heap hw4.2.2 0
  have h1 := Lib.cell_of_heap hw4.2.2 1
  have h2 := Lib.cell_of_heap hw4.2.2 2
  simp only [List.getElem?_toArray, List.getElem?_cons_zero, List.getElem?_cons_succ] at h0 h1 h2
  have hz1 := lt_of_block hw4.2.1
  have hz2 := lt_of_block hw4.2.2
  clear hw4
  go_wp2_with (go_at_call 62; (with_reducible refine (HO.out _).mono ?_); rintro e w5 ⟨rfl, hb5⟩; have HB5 := Lib.hid (HS4.out.1.trans (hb5.mono HS4.out.1.size)); clear hb5)
  go_ret
  exact ⟨rfl, HB5.out⟩
/-- Does none of these rows stand behind one that is above it? Told from the end, as the program goes. -/
def risesB (k : Nat) (rows : List (List Vl)) (j : Nat) : Bool := (List.range j).all fun q => decide (¬ ordR k (rows.getD (q + 1) []) (rows.getD q []) < 0)
set_option maxRecDepth 100000 in
set_option maxHeartbeats 4000000 in
theorem sorted_any (k : Nat) (X : Nat → Prop) (A : Option Addr) (n c : Nat) (rows : List (List Vl)) (w : World) (hr : RowsAt w X A n rows) :
    Calls Tryz.prog 83 #[.slice A n c, .func (.func 29) #[.int .i64 k] #[]] w fun e w' => e = .returned (.bool (risesB k rows (n - 1))) ∧ Below w.heap.size w w' := by
  have HR := Lib.hid hr
  have HL := Lib.hid hr.1
  have hn1 := hr.2.1
  clear hr
  go_enter Tryz.func83, Tryz.ntmps83
  go_wp2_with (fail)
  go_loopw [5] (fun iv wr => ∃ j : Int, iv = .int .i64 j ∧ -1 ≤ j ∧ j ≤ n - 1 ∧ Hid (Below w.heap.size w wr) ∧ Hid (risesB k rows (n - 1) = risesB k rows j.toNat)) (fun iv _ => (intOf iv).toNat)
  case atStart => exact ⟨(n : Int) - 1, by first | rfl | go_num, by omega, by omega, Below.refl _ _, Lib.hid (by rw [show ((n : Int) - 1).toNat = n - 1 by omega])⟩
  case round =>
    obtain ⟨j, rfl, hj0, hj1, HB, HI⟩ := hrel
    by_cases hlt : 0 < j
    · obtain ⟨p, rfl⟩ := Int.eq_ofNat_of_zero_le (show 0 ≤ j by omega)
      obtain ⟨q, hq⟩ : ∃ q : Nat, p = q + 1 := ⟨p - 1, by omega⟩
      have hpn : p < n := by omega
      have hqn : q < n := by omega
      have hq1 : p < rows.length := by have := HL.out; omega
      have hq0 : q < rows.length := by omega
      have hwr : IntKind.i64.wrap ((p : Int) - 1) = (q : Int) := by
        rw [IntKind.wrap_i64]
        omega
      obtain ⟨a, D, m, cd, e, hc, g1, g2, g3, _⟩ := (HR.out.below HB.out).2.2 p hq1
      subst e
      obtain ⟨a', D2, m2, cd2, e, hc2, k1, k2, k3, _⟩ := (HR.out.below HB.out).2.2 q hq0
      injection e with e
      subst e
      have hl1 := World.block_lt_of_cell? wr _ hc
      have hl2 := World.block_lt_of_cell? wr _ hc2
      have HCC := Lib.hid (And.intro hc hc2)
      have HOD : Hid (∀ W, Below wr.heap.size wr W → Calls Tryz.prog 29 #[.int .i64 k, .slice D m cd, .slice D2 m2 cd2] W fun e w' => e = .returned (.int .i64 (ordR k rows[p] rows[q])) ∧ Below W.heap.size W w') := Lib.hid fun W hW => corder_any k D m cd rows[p] D2 m2 cd2 rows[q] W g2 k2 (g3.below hW) (k3.below hW)
      have HI2 : Hid (risesB k rows (n - 1) = (risesB k rows q && decide (¬ ordR k rows[p] rows[q] < 0))) := Lib.hid (by
        rw [HI.out, Int.toNat_natCast]
        subst hq
        unfold risesB
        rw [List.range_succ, List.all_append]
        simp [List.getD_eq_getElem?_getD, List.getElem?_eq_getElem hq1, List.getElem?_eq_getElem hq0])
      clear HI hc hc2 g1 g2 g3 k1 k2 k3
      generalize ordR k rows[p] rows[q] = z at HOD HI2
      have HQ := Lib.hid hq
      clear hq
      go_upto_region 4 with (fail)
      refine detL_begin [.val (.func (.func 29) #[.int .i64 k] #[]), .val (.slice (some a) n c), .val (.int .i64 p), .val (.pointer (some (a.add p))), .val (.slice D m cd), .val (.slice (some a) n c), .val (.int .i64 p), .val (.int .i64 q), .val (.pointer (some (a.add q))), .val (.slice D2 m2 cd2), .val (.int .i64 z), .val (.bool (decide (z < 0)))] 12 (by kernel_rfl) ?_
      refine detL_val (by kernel_rfl) (yields_of rfl fun w5 hb5 => ?_) ?_
      · have hc5 := bcellD hb5
        have HBx := Lib.hid hb5
        clear hb5
        go_simp
        exact Det1_same
      simp only [Act.put, List.setIfInBounds_toArray, List.set_cons_zero, List.set_cons_succ]
      refine detL_val (by kernel_rfl) (yields_of rfl fun w5 hb5 => ?_) ?_
      · have hc5 := bcellD hb5
        have HBx := Lib.hid hb5
        clear hb5
        go_simp
        exact Det1_same
      simp only [Act.put, List.setIfInBounds_toArray, List.set_cons_zero, List.set_cons_succ]
      refine detL_val (by kernel_rfl) (yields_of rfl fun w5 hb5 => ?_) ?_
      · have hc5 := bcellD hb5
        have HBx := Lib.hid hb5
        clear hb5
        go_simp
        exact Det1_same
      simp only [Act.put, List.setIfInBounds_toArray, List.set_cons_zero, List.set_cons_succ]
      refine detL_val (by kernel_rfl) (yields_of rfl fun w5 hb5 => ?_) ?_
      · have hc5 := bcellD hb5
        have HBx := Lib.hid hb5
        clear hb5
        go_simp
        exact Det1_same
      simp only [Act.put, List.setIfInBounds_toArray, List.set_cons_zero, List.set_cons_succ]
      refine detL_val (by kernel_rfl) (yields_of rfl fun w5 hb5 => ?_) ?_
      · have hc5 := bcellD hb5
        have HBx := Lib.hid hb5
        have m1 := (HBx.out.cell (p := a.add p) hl1).trans HCC.out.1
        clear hb5
        go_simp
        exact Det1_same
      simp only [Act.put, List.setIfInBounds_toArray, List.set_cons_zero, List.set_cons_succ]
      refine detL_val (by kernel_rfl) (yields_of rfl fun w5 hb5 => ?_) ?_
      · have hc5 := bcellD hb5
        have HBx := Lib.hid hb5
        clear hb5
        go_simp
        exact Det1_same
      simp only [Act.put, List.setIfInBounds_toArray, List.set_cons_zero, List.set_cons_succ]
      refine detL_val (by kernel_rfl) (yields_of rfl fun w5 hb5 => ?_) ?_
      · have hc5 := bcellD hb5
        have HBx := Lib.hid hb5
        clear hb5
        go_simp
        exact Det1_same
      simp only [Act.put, List.setIfInBounds_toArray, List.set_cons_zero, List.set_cons_succ]
      refine detL_val (by kernel_rfl) (yields_of rfl fun w5 hb5 => ?_) ?_
      · have hc5 := bcellD hb5
        have HBx := Lib.hid hb5
        clear hb5
        go_simp
        exact Det1_same
      simp only [Act.put, List.setIfInBounds_toArray, List.set_cons_zero, List.set_cons_succ]
      refine detL_val (by kernel_rfl) (yields_of rfl fun w5 hb5 => ?_) ?_
      · have hc5 := bcellD hb5
        have HBx := Lib.hid hb5
        clear hb5
        go_simp
        exact Det1_same
      simp only [Act.put, List.setIfInBounds_toArray, List.set_cons_zero, List.set_cons_succ]
      refine detL_val (by kernel_rfl) (yields_of rfl fun w5 hb5 => ?_) ?_
      · have hc5 := bcellD hb5
        have HBx := Lib.hid hb5
        have m1 := (HBx.out.cell (p := a.add q) hl2).trans HCC.out.2
        clear hb5
        go_simp
        exact Det1_same
      simp only [Act.put, List.setIfInBounds_toArray, List.set_cons_zero, List.set_cons_succ]
      refine detL_val (by kernel_rfl) (yields_of rfl fun w5 hb5 => ?_) ?_
      · have hc5 := bcellD hb5
        have HBx := Lib.hid hb5
        clear hb5
        go_simp
        exact Det1_enter (HOD.out _ ((Below.refl _ _).drew.trans HBx.out))
      simp only [Act.put, List.setIfInBounds_toArray, List.set_cons_zero, List.set_cons_succ]
      refine detL_val (by kernel_rfl) (yields_of rfl fun w5 hb5 => ?_) ?_
      · have hc5 := bcellD hb5
        have HBx := Lib.hid hb5
        clear hb5
        go_simp
        exact Det1_same
      simp only [Act.put, List.setIfInBounds_toArray, List.set_cons_zero, List.set_cons_succ]
      refine detL_done (by kernel_rfl) fun w6 hw6 => ?_
      have HB6 : Hid (Below w.heap.size w w6) := HB.out.trans (((Below.refl _ _).drew.trans hw6.below).mono HB.out.size)
      clear hw6
      by_cases hz : z < 0
      · go_wp2
        go_ret
        exact ⟨by rw [HI2.out, decide_eq_false (by omega), Bool.and_false]; rfl, HB6.out⟩
      · go_wp2
        go_roundw
        case rel => exact ⟨(q : Int), by first | rfl | (rw [hwr]; done) | go_num | (simp; omega), by omega, by omega, HB6, Lib.hid (by rw [HI2.out, decide_eq_true hz, Bool.and_true]; rfl)⟩
        case measure => have := HQ.out; simp [intOf]; omega
    · go_wp2_with (fail)
      go_ret
      exact ⟨by rw [HI.out, show j.toNat = 0 by omega]; rfl, HB.out⟩
end Go.Proofs.YtmhkmliebhbkdaaGreat

/- A map whose keys are values: what is met twice. -/
namespace Go.Proofs.YtmhkmliebhbkdaaGreat
open Go.RowKit Go.Lib

def vlV (x : Vl) : Value := .agg #[.int .i64 x.k, .int .i64 x.i, .string x.s]
def entOf (e : MapEntry) : Value × Value := (e.key, e.val)
/-- Block r is a map whose keys are these values. -/
def SetAt (W : World) (r : Nat) (es : List Vl) : Prop := ∃ (m : Array MapEntry) (c : Nat), W.heap[r]? = some (.map m c) ∧ m.toList.map entOf = es.map fun y => (vlV y, .agg #[])
theorem SetAt.lt {W : World} {r : Nat} {es : List Vl} (h : SetAt W r es) : r < W.heap.size := by obtain ⟨m, c, h, _⟩ := h; exact (Array.getElem?_eq_some_iff.1 h).1
theorem SetAt.keep {W W' : World} {r : Nat} {es : List Vl} (h : SetAt W r es) (hb : W'.heap[r]? = W.heap[r]?) : SetAt W' r es := by obtain ⟨m, c, h, k⟩ := h; exact ⟨m, c, hb.trans h, k⟩
theorem SetAt.below {W W' : World} {r : Nat} {es : List Vl} (h : SetAt W r es) (hb : Below W.heap.size W W') : SetAt W' r es := h.keep (hb.block r h.lt)
theorem SetAt.made (w : World) : SetAt (w.alloc (.map #[] 0)) w.heap.size [] := ⟨#[], 0, by show (w.heap.push _)[w.heap.size]? = _; simp, rfl⟩

set_option maxHeartbeats 1600000 in
theorem run_equal_vl (x y : Vl) (w : World) : (Op.equal 26 (vlV x) (vlV y)).run Tryz.prog w = .ok (sameV x y) w := by
  unfold vlV sameV
  show (Op.equalIn 10000 26 (.agg #[.int .i64 x.k, .int .i64 x.i, .string x.s]) (.agg #[.int .i64 y.k, .int .i64 y.i, .string y.s])).run Tryz.prog w = _
  by_cases h1 : x.k = y.k
  · by_cases h2 : x.i = y.i
    · go_simp
      split <;> simp_all
    · go_simp
  · go_simp
theorem find_vl (x : Vl) (w : World) : ∀ (l : List MapEntry) (es : List Vl) (i : Nat), l.map entOf = es.map (fun y => (vlV y, .agg #[])) →
    (es.any (sameV x) = false ∧ (Instr.findAsking 26 (vlV x) l i).run Tryz.prog w = .ok none w) ∨ (es.any (sameV x) = true ∧ ∃ j, j < l.length ∧ (l[j]?).map (·.key) = some (vlV x) ∧ (Instr.findAsking 26 (vlV x) l i).run Tryz.prog w = .ok (some (i + j, .agg #[])) w)
  | [], [], _, _ => .inl ⟨rfl, rfl⟩
  | [], y :: es, _, h => by simp at h
  | e :: l, [], _, h => by simp at h
  | e :: l, y :: es, i, h => by
    simp only [List.map_cons, List.cons.injEq] at h
    obtain ⟨h1, h2⟩ := h
    have hk : e.key = vlV y := congrArg Prod.fst h1
    have hv : e.val = .agg #[] := congrArg Prod.snd h1
    have hq : (Op.equal 26 (vlV x) e.key).run Tryz.prog w = .ok (sameV x y) w := by rw [hk]; exact run_equal_vl x y w
    cases hs : sameV x y with
    | true =>
      refine .inr ⟨by simp [hs], 0, by simp, ?_, ?_⟩
      · simp [hk, (sameV_iff x y).1 hs]
      · unfold Instr.findAsking
        rw [hs] at hq
        simp [hq, hv, Result.andThen]
    | false =>
      rw [hs] at hq
      have hrun : (Instr.findAsking 26 (vlV x) (e :: l) i).run Tryz.prog w = (Instr.findAsking 26 (vlV x) l (i + 1)).run Tryz.prog w := by
        conv => lhs; unfold Instr.findAsking
        simp [hq, Result.andThen]
      rw [hrun]
      rcases find_vl x w l es (i + 1) h2 with ⟨g1, g2⟩ | ⟨g1, j, g2, g3, g4⟩
      · exact .inl ⟨by simp [hs, g1], g2⟩
      · exact .inr ⟨by simp [g1], j + 1, by simp; omega, by simpa using g3, by rw [g4, show i + 1 + j = i + (j + 1) by omega]⟩
theorem check_any (e : Bool) (x : Vl) (n : Nat) (w : World) : (Instr.checkKey e (n + 1 + 1) 26 (vlV x)).run Tryz.prog w = .ok () w := by
  unfold vlV
  rw [Instr.checkKey]
  simp only [Sem.run_bind, run_underlying Tryz.underlying26, Result.andThen_ok]
  have u3 : Tryz.prog.underlying 3 = some (.int .i64) := by kernel_rfl
  have u2 : Tryz.prog.underlying 2 = some (.int .i64) := by kernel_rfl
  have u9 : Tryz.prog.underlying 9 = some .string := by kernel_rfl
  have k3 : ∀ v, (Instr.checkKey e (n + 1) 3 (.int .i64 v)).run Tryz.prog w = .ok () w := fun v => by simp [Instr.checkKey, run_underlying u3]
  have k2 : ∀ v, (Instr.checkKey e (n + 1) 2 (.int .i64 v)).run Tryz.prog w = .ok () w := fun v => by simp [Instr.checkKey, run_underlying u2]
  have k9 : ∀ v, (Instr.checkKey e (n + 1) 9 (.string v)).run Tryz.prog w = .ok () w := fun v => by simp [Instr.checkKey, run_underlying u9]
  simp [k3, k2, k9, go_sem]
theorem check_vl (e : Bool) (x : Vl) (w : World) : (Instr.checkKey e 10000 26 (vlV x)).run Tryz.prog w = .ok () w := check_any e x 9998 w
theorem modify_keep {m : Array MapEntry} {x : Vl} {es : List Vl} {j : Nat} (hm : m.toList.map entOf = es.map fun y => (vlV y, .agg #[])) (hj : (m.toList[j]?).map (·.key) = some (vlV x)) :
    (m.modify j fun e => { e with key := vlV x, val := .agg #[] }).toList.map entOf = es.map fun y => (vlV y, .agg #[]) := by
  rw [← hm]
  apply List.ext_getElem?
  intro q
  simp only [List.getElem?_map, Array.toList_modify, List.getElem?_modify]
  by_cases hq : j = q
  · subst hq
    cases hg : m.toList[j]? with
    | none => simp
    | some e =>
      rw [hg] at hj
      have hk : e.key = vlV x := by simpa using hj
      have he := congrArg (fun l => l[j]?) hm
      simp only [List.getElem?_map, hg, Option.map_some] at he
      have hv : e.val = .agg #[] := by
        cases hs : es[j]? with
        | none => simp [hs] at he
        | some y =>
          rw [hs] at he
          simp only [Option.map_some, Option.some.injEq] at he
          exact congrArg Prod.snd he
      simp [entOf, hk, hv]
  · simp [hq]
theorem stays_vl (x : Vl) (w : World) : (Instr.keyThatStays (vlV x) (vlV x)).run Tryz.prog w = .ok (vlV x) w := by
  have h : ∀ n, Instr.sameBits (n + 1) (vlV x) (vlV x) = true := fun n => by
    simp [vlV, Instr.sameBits, (MapKept.bytes_beq x.s x.s).2 rfl]
  unfold Instr.keyThatStays
  rw [h 9999]
  simp
/-- What is met, with one more. -/
def setIns (es : List Vl) (x : Vl) : List Vl := if es.any (sameV x) then es else es ++ [x]
theorem SetAt.insert {w : World} {r : Nat} {es : List Vl} (h : SetAt w r es) (x : Vl) :
    ∃ w', (Instr.mapUpdate 154 (.map (some r)) (vlV x) (.agg #[])).run Tryz.prog w = .ok () w' ∧ SetAt w' r (setIns es x) ∧ w.grownBy w' (some r) := by
  obtain ⟨m, c, hb, hm⟩ := h
  have ht : Tryz.prog.underlying 154 = some (.map 26 155) := Tryz.underlying154
  rcases find_vl x w m.toList es 0 hm with ⟨g1, g2⟩ | ⟨g1, j, g2, g3, g4⟩
  · refine ⟨{ w with heap := w.heap.setIfInBounds r (.map (m.push { key := vlV x, val := .agg #[], born := c }) (c + 1)) }, ?_, ⟨_, _, (MapKept.heap_set hb).1, ?_⟩, ⟨rfl, rfl, rfl, by simp, fun q hq hne => (MapKept.heap_set hb).2 q (fun e => hne (by rw [e]))⟩⟩
    · have hc := check_vl false x w
      have hf := (run_findKey_eq (P := Tryz.prog) w (k := 26) (by kernel_rfl) (vlV x) m.toList).trans g2
      simp [Instr.mapUpdate, run_underlying ht, MapKept.run_getObj_map hb, hc, hf, MapKept.run_setObj_map _ hb, Result.andThen]
    · simp [setIns, g1, hm, entOf]
  · have hj : (m[j]?).map (·.key) = some (vlV x) := by rw [← Array.getElem?_toList]; exact g3
    refine ⟨{ w with heap := w.heap.setIfInBounds r (.map (m.modify j fun e => { e with key := vlV x, val := .agg #[] }) c) }, ?_, ⟨_, _, (MapKept.heap_set hb).1, ?_⟩, ⟨rfl, rfl, rfl, by simp, fun q hq hne => (MapKept.heap_set hb).2 q (fun e => hne (by rw [e]))⟩⟩
    · have hc := check_vl false x w
      have hf := (run_findKey_eq (P := Tryz.prog) w (k := 26) (by kernel_rfl) (vlV x) m.toList).trans g4
      have hs := stays_vl x w
      simp [Instr.mapUpdate, run_underlying ht, MapKept.run_getObj_map hb, hc, hf, hj, hs, MapKept.run_setObj_map _ hb, Result.andThen]
    · rw [show setIns es x = es by simp [setIns, g1]]
      exact modify_keep hm g3
theorem SetAt.look {w : World} {r : Nat} {es : List Vl} (h : SetAt w r es) (x : Vl) :
    (Instr.lookup 154 (.map (some r)) (vlV x) true).run Tryz.prog w = .ok (.tuple #[.agg #[], .bool (es.any (sameV x))]) w := by
  obtain ⟨m, c, hb, hm⟩ := h
  have ht : Tryz.prog.underlying 154 = some (.map 26 155) := Tryz.underlying154
  have hz : (zeroValue 155).run Tryz.prog w = .ok (.agg #[]) w := by go_simp
  rcases find_vl x w m.toList es 0 hm with ⟨g1, g2⟩ | ⟨g1, j, g2, g3, g4⟩
  · have hc := check_vl m.isEmpty x w
    have hf := (run_findKey_eq (P := Tryz.prog) w (k := 26) (by kernel_rfl) (vlV x) m.toList).trans g2
    simp [Instr.lookup, run_underlying ht, MapKept.run_getObj_map hb, hc, hf, g1, hz, Result.andThen]
  · have hc := check_vl m.isEmpty x w
    have hf := (run_findKey_eq (P := Tryz.prog) w (k := 26) (by kernel_rfl) (vlV x) m.toList).trans g4
    simp [Instr.lookup, run_underlying ht, MapKept.run_getObj_map hb, hc, hf, g1, Result.andThen]
/-- A look, at the operation. -/
theorem wpList_look_vl (w : World) {ops : Array Oper} {rest : List Oper} {o : Oper} {a : Act} {Q : Exit → Act → World → Prop}
    (hg : o.guard = none) (m x : Operand) (hop : o.op = Op.lookup 154 m x true) (r : Nat) (es : List Vl)
    (hm : a.eval m = .map (some r)) (hat : SetAt w r es) (y : Vl) (hx : a.eval x = vlV y) (z : Bool) (hz : es.any (sameV y) = z)
    (hK : wpList Tryz.prog ops Q rest (a.put o.dst (.tuple #[.agg #[], .bool z])) w) : wpList Tryz.prog ops Q (o :: rest) a w := by
  refine wpList_plain hg fun K' hK' => ?_
  have hrun := hat.look y
  rw [hz] at hrun
  unfold Oper.wp
  simp [execOp, hop, hm, hx, hrun, Result.andThen]
  exact hK' _ _ hK
/-- A key more, at the operation. -/
theorem wpList_ins_vl (w : World) {ops : Array Oper} {rest : List Oper} {o : Oper} {a : Act} {Q : Exit → Act → World → Prop}
    (hg : o.guard = none) (m x v : Operand) (hop : o.op = Op.mapUpdate 154 m x v) (r : Nat) (es : List Vl)
    (hm : a.eval m = .map (some r)) (hat : SetAt w r es) (y : Vl) (hx : a.eval x = vlV y) (hv : a.eval v = .agg #[])
    (hK : ∀ w', SetAt w' r (setIns es y) → w.grownBy w' (some r) → wpList Tryz.prog ops Q rest (a.put o.dst undef) w') : wpList Tryz.prog ops Q (o :: rest) a w := by
  refine wpList_plain hg fun K' hK' => ?_
  obtain ⟨w', hrun, r1, r2⟩ := hat.insert y
  unfold Oper.wp
  simp [execOp, hop, hm, hx, hv, hrun, Result.andThen]
  exact hK' _ _ (hK w' r1 r2)
end Go.Proofs.YtmhkmliebhbkdaaGreat

/- rel's columns: a number among others; a value that is met twice. -/
namespace Go.Proofs.YtmhkmliebhbkdaaGreat
open Go.RowKit Go.Lib

set_option maxRecDepth 100000 in
set_option maxHeartbeats 4000000 in
theorem index_ints (A : Option Addr) (n cap : Nat) (l : List Int) (x : Int) (w : World) (hc : IntS w A n l) :
    Calls Tryz.prog 154 #[.slice A n cap, .int .i64 x] w fun e w' => e = .returned (.int .i64 (idxP (fun y => decide (x = y)) l 0)) ∧ Below w.heap.size w w' := by
  have HC := Lib.hid hc
  have HL := Lib.hid hc.1
  have hn : n ≤ maxLen := hc.2.1
  unfold maxLen at hn
  clear hc
  go_enter Tryz.func154, Tryz.ntmps154
  go_wp2_with (fail)
  go_loopw [8] (fun i wr => ∃ j : Nat, i = .int .i64 j ∧ j ≤ n ∧ Hid (Below w.heap.size w wr) ∧ Hid (idxP (fun y => decide (x = y)) l 0 = idxP (fun y => decide (x = y)) (l.drop j) j)) (fun i _ => n - (intOf i).toNat)
  case atStart => exact ⟨0, rfl, by omega, Below.refl _ _, rfl⟩
  case round =>
    obtain ⟨j, rfl, hj, HB, HI⟩ := hrel
    have hbs := HB.out.size
    by_cases hlt : j < n
    · have hjl : j < l.length := by rw [HL.out]; exact hlt
      obtain ⟨a, rfl, hE⟩ := HC.out.2.2 j hjl
      have e0 := (HB.out.cell (World.block_lt_of_cell? w _ hE)).trans hE
      simp only [Nat.mul_one] at e0
      clear hE
      have HI2 : Hid (idxP (fun y => decide (x = y)) l 0 = if x = l[j] then (j : Int) else idxP (fun y => decide (x = y)) (l.drop (j + 1)) ((j : Int) + 1)) := Lib.hid (by rw [HI.out, List.drop_eq_getElem_cons hjl]; simp [idxP])
      clear HI
      generalize l[j] = y at e0 HI2
      by_cases hx : x = y
      · subst hx
        go_wp2_with (fail)
        go_ret
        exact ⟨by rw [HI2.out]; simp, HB.out⟩
      · go_wp2_with (fail)
        go_roundw
        case rel => exact ⟨j + 1, by go_num, by omega, HB, Lib.hid (by rw [HI2.out, if_neg hx]; norm_cast)⟩
        case measure => simp [intOf]; omega
    · go_wp2_with (fail)
      go_ret
      exact ⟨by rw [HI.out, List.drop_of_length_le (by have := HL.out; omega)]; rfl, HB.out⟩
set_option maxRecDepth 100000 in
set_option maxHeartbeats 4000000 in
theorem contains_ints (A : Option Addr) (n cap : Nat) (l : List Int) (x : Int) (w : World) (hc : IntS w A n l) :
    Calls Tryz.prog 126 #[.slice A n cap, .int .i64 x] w fun e w' => e = .returned (.bool (l.any fun y => decide (x = y))) ∧ Below w.heap.size w w' := by
  have H := Lib.hid (index_ints A n cap l x w hc)
  have HE := Lib.hid (idxP_any (fun y => decide (x = y)) l 0 (by omega))
  clear hc
  generalize (l.any fun y => decide (x = y)) = z at HE ⊢
  generalize idxP (fun y => decide (x = y)) l 0 = y at H HE
  go_enter Tryz.func126, Tryz.ntmps126
  go_wp2_with (go_at_call 154; refine H.out.mono ?_; rintro e w1 ⟨rfl, hb1⟩)
  go_ret
  exact ⟨ret_bool HE.out, hb1⟩
/-- Is a value of a column that is not NULL met twice, beside those that were met? -/
def dupFrom (seen : List Vl) (k : Nat) : List (List Vl) → Bool
  | [] => false
  | r :: l => (seen.any (sameV (ofV k r)) && decide ((ofV k r).k ≠ 0)) || dupFrom (setIns seen (ofV k r)) k l
set_option maxRecDepth 100000 in
set_option maxHeartbeats 4000000 in
theorem ctwice_any (k : Nat) (X : Nat → Prop) (A : Option Addr) (n c : Nat) (rows : List (List Vl)) (w : World) (hr : RowsAt w X A n rows) :
    Calls Tryz.prog 127 #[.int .i64 k, .slice A n c] w fun e w' => e = .returned (.bool (dupFrom [] k rows)) ∧ Below w.heap.size w w' := by
  have HR := Lib.hid hr
  have HL := Lib.hid hr.1
  have hn1 := hr.2.1
  have hmm := @run_makeMap Tryz.prog
  obtain ⟨Z, HZ⟩ : ∃ Z, Hid (dupFrom [] k rows = Z) := ⟨_, Lib.hid rfl⟩
  rw [HZ.out]
  clear hr
  go_enter Tryz.func127, Tryz.ntmps127
  go_wp2_with (fail)
  go_loopw [15] (fun iv wr => ∃ j : Nat, iv = .int .i64 j ∧ j ≤ n ∧ Hid (Below w.heap.size w wr ∧ ∃ es, SetAt wr w.heap.size es ∧ dupFrom es k (rows.drop j) = Z)) (fun iv _ => n - (intOf iv).toNat)
  case atStart => exact ⟨0, rfl, by omega, Lib.hid ⟨(Below.refl _ _).alloc (Nat.le_refl _) _, [], SetAt.made w, HZ.out⟩⟩
  case round =>
    obtain ⟨j, rfl, hj, HS⟩ := hrel
    obtain ⟨es, HE⟩ : ∃ es, Hid (SetAt wr w.heap.size es ∧ dupFrom es k (rows.drop j) = Z) := by obtain ⟨_, es, h⟩ := HS.out; exact ⟨es, Lib.hid h⟩
    have HB : Hid (Below w.heap.size w wr) := Lib.hid HS.out.1
    clear HS
    have hbs := HB.out.size
    have hgl := HE.out.1.lt
    by_cases hlt : j < n
    · have hjl : j < rows.length := by rw [HL.out]; exact hlt
      obtain ⟨a, D, m, cd, e, hc, g1, g2, g3, _⟩ := (HR.out.below HB.out).2.2 j hjl
      subst e
      have HF := Lib.hid (of_any k D m cd rows[j] wr g2 g3)
      have HN : Hid (((es.any (sameV (ofV k rows[j])) && decide ((ofV k rows[j]).k ≠ 0)) || dupFrom (setIns es (ofV k rows[j])) k (rows.drop (j + 1))) = Z) := Lib.hid (by have h := HE.out.2; rw [List.drop_eq_getElem_cons hjl] at h; exact h)
      clear g1 g3
      generalize ofV k rows[j] = x at HF HN
      go_upto_region 6 with (go_at_call 61; (with_reducible refine HF.out.mono ?_); rintro e w1 ⟨rfl, hb1⟩; have HB1 := Lib.hid hb1; have hy1 := hb1.size; clear hb1)
      refine wp_gen (fun W => Below w.heap.size w W ∧ SetAt W w.heap.size es ∧ W.heap[w1.heap.size]? = some (.cells #[.int .i64 x.k, .int .i64 x.i, .string x.s] 26 (0, 0))) ⟨(HB.out.trans (HB1.out.mono hbs)).alloc (by omega) _, (HE.out.1.below HB1.out).keep (Below.heap_alloc _ _ _ (by omega)), alloc_at rfl _⟩ fun w2 hw2 => ?_
      have H2 := Lib.hid hw2
      have g0 := Lib.cell_of_heap hw2.2.2 0
      have g1 := Lib.cell_of_heap hw2.2.2 1
      have g2 := Lib.cell_of_heap hw2.2.2 2
      simp only [List.getElem?_toArray, List.getElem?_cons_zero, List.getElem?_cons_succ] at g0 g1 g2
      have hz1 := lt_of_block hw2.2.2
      clear hw2
      obtain ⟨z, Hz⟩ : ∃ z, Hid (es.any (sameV x) = z) := ⟨_, Lib.hid rfl⟩
      rw [Hz.out] at HN
      go_upto_region 7 with (with_reducible refine wpList_look_vl _ rfl _ _ rfl w.heap.size es rfl H2.out.2.1 x rfl z Hz.out ?_)
      refine wp_gen (fun W => Below w.heap.size w W ∧ SetAt W w.heap.size es ∧ W.heap[w1.heap.size]? = some (.cells #[.int .i64 x.k, .int .i64 x.i, .string x.s] 26 (0, 0))) ⟨H2.out.1.alloc (by omega) _, H2.out.2.1.keep (Below.heap_alloc _ _ _ (by omega)), (Below.heap_alloc _ _ _ hz1).trans H2.out.2.2⟩ fun w3 hw3 => ?_
      have H3 := Lib.hid hw3
      clear g0 g1 g2 hz1
      have g0 := Lib.cell_of_heap hw3.2.2 0
      have g1 := Lib.cell_of_heap hw3.2.2 1
      have g2 := Lib.cell_of_heap hw3.2.2 2
      simp only [List.getElem?_toArray, List.getElem?_cons_zero, List.getElem?_cons_succ] at g0 g1 g2
      have hz1 := lt_of_block hw3.2.2
      clear hw3
      by_cases hk : x.k = 0
      · have HN2 : Hid (dupFrom (setIns es x) k (rows.drop (j + 1)) = Z) := Lib.hid (by have h := HN.out; rw [show decide (x.k ≠ 0) = false from decide_eq_false (fun e => e hk), Bool.and_false, Bool.false_or] at h; exact h)
        have hk2 : (x.k != 0) = false := by simp [hk]
        clear HN hk
        cases z with
        | true => 
          go_wp2_with (first
            | (with_reducible refine wpList_ins_vl _ rfl _ _ _ rfl w.heap.size es rfl H3.out.2.1 x rfl rfl fun w4 hs4 hg4 => ?_; have H4 := Lib.hid (And.intro (below_grow H3.out.1 hg4 (Nat.le_refl _) H3.out.1.size) hs4); clear hs4 hg4))
          go_roundw
          case rel => exact ⟨j + 1, by go_num, by omega, Lib.hid ⟨H4.out.1, _, H4.out.2, HN2.out⟩⟩
          case measure => simp [intOf]; omega
        | false =>
          go_wp2_with (first
            | (with_reducible refine wpList_ins_vl _ rfl _ _ _ rfl w.heap.size es rfl H3.out.2.1 x rfl rfl fun w4 hs4 hg4 => ?_; have H4 := Lib.hid (And.intro (below_grow H3.out.1 hg4 (Nat.le_refl _) H3.out.1.size) hs4); clear hs4 hg4))
          go_roundw
          case rel => exact ⟨j + 1, by go_num, by omega, Lib.hid ⟨H4.out.1, _, H4.out.2, HN2.out⟩⟩
          case measure => simp [intOf]; omega
      · have hk2 : (x.k != 0) = true := by simp [hk]
        cases z with
        | true =>
          go_wp2_with (fail)
          go_ret
          exact ⟨by rw [← HN.out]; simp [hk], H3.out.1⟩
        | false =>
          have HN2 : Hid (dupFrom (setIns es x) k (rows.drop (j + 1)) = Z) := Lib.hid (by have h := HN.out; rw [Bool.false_and, Bool.false_or] at h; exact h)
          clear HN
          go_wp2_with (first
            | (with_reducible refine wpList_ins_vl _ rfl _ _ _ rfl w.heap.size es rfl H3.out.2.1 x rfl rfl fun w4 hs4 hg4 => ?_; have H4 := Lib.hid (And.intro (below_grow H3.out.1 hg4 (Nat.le_refl _) H3.out.1.size) hs4); clear hs4 hg4))
          go_roundw
          case rel => exact ⟨j + 1, by go_num, by omega, Lib.hid ⟨H4.out.1, _, H4.out.2, HN2.out⟩⟩
          case measure => simp [intOf]; omega
    · go_wp2_with (fail)
      go_ret
      exact ⟨by rw [← HE.out.2, List.drop_of_length_le (by have := HL.out; omega)]; rfl, HB.out⟩
end Go.Proofs.YtmhkmliebhbkdaaGreat

/- rel: whether something is there twice; what is wrong with a table with rows. -/
namespace Go.Proofs.YtmhkmliebhbkdaaGreat
open Go.RowKit Go.Lib

/-- Is something there twice, in columns from j on? -/
def clashB (n : Nat) (key : Int) (us : List Int) (rows : List (List Vl)) (j : Nat) : Bool := ((List.range n).drop j).any fun i => (decide ((i : Int) = key) || us.any fun y => decide ((i : Int) = y)) && dupFrom [] i rows
theorem clash_next {n j : Nat} (h : j < n) (key : Int) (us : List Int) (rows : List (List Vl)) : clashB n key us rows j = (((decide ((j : Int) = key) || us.any fun y => decide ((j : Int) = y)) && dupFrom [] j rows) || clashB n key us rows (j + 1)) := by
  unfold clashB
  rw [List.drop_eq_getElem_cons (by simpa using h)]
  simp
theorem clash_end {n j : Nat} (h : n ≤ j) (key : Int) (us : List Int) (rows : List (List Vl)) : clashB n key us rows j = false := by
  unfold clashB
  rw [List.drop_of_length_le (by simpa using h)]
  rfl
set_option maxRecDepth 100000 in
set_option maxHeartbeats 4000000 in
theorem clashing_any (nm : ByteArray) (A : Option Addr) (n c : Nat) (key : Int) (U : Option Addr) (m cu : Nat) (R : Option Addr) (p cr : Nat) (op : ByteArray) (k i : Int) (vs s : ByteArray) (B : Option Addr) (q d : Nat) (Ar : Option Addr) (nr ca : Nat) (us : List Int) (rows : List (List Vl)) (X : Nat → Prop) (w : World) (hn : n ≤ maxLen) (hu : IntS w U m us) (hr : RowsAt w X Ar nr rows) :
    Calls Tryz.prog 82 #[.agg #[.string nm, .slice A n c, .int .i64 key, .slice U m cu, .slice R p cr, .string op, .int .i64 k, .int .i64 i, .string vs, .string s, .slice B q d, .slice Ar nr ca]] w fun e w' => e = .returned (.bool (clashB n key us rows 0)) ∧ Below w.heap.size w w' := by
  unfold maxLen at hn
  have HU := Lib.hid hu
  have HR := Lib.hid hr
  have HCI : Hid (∀ W x, Below w.heap.size w W → Calls Tryz.prog 126 #[.slice U m cu, .int .i64 x] W fun e w' => e = .returned (.bool (us.any fun y => decide (x = y))) ∧ Below W.heap.size W w') := Lib.hid fun W x hW => contains_ints U m cu us x W (hu.below hW)
  have HTW : Hid (∀ W j, Below w.heap.size w W → Calls Tryz.prog 127 #[.int .i64 (j : Nat), .slice Ar nr ca] W fun e w' => e = .returned (.bool (dupFrom [] j rows)) ∧ Below W.heap.size W w') := Lib.hid fun W j hW => ctwice_any j X Ar nr ca rows W (hr.below hW)
  obtain ⟨Z, HZ⟩ : ∃ Z, Hid (clashB n key us rows 0 = Z) := ⟨_, Lib.hid rfl⟩
  rw [HZ.out]
  clear hu hr
  go_enter Tryz.func82, Tryz.ntmps82
  go_upto_region 1 with (fail)
  refine wp_gen (fun W => Below w.heap.size w W ∧ W.heap[w.heap.size]? = some (.cells #[.string nm, .slice A n c, .int .i64 key, .slice U m cu, .slice R p cr, .string op, .int .i64 k, .int .i64 i, .string vs, .string s, .slice B q d, .slice Ar nr ca] 34 (0, 0))) ⟨(Below.refl _ _).alloc (Nat.le_refl _) _, alloc_at rfl _⟩ fun w0 hw0 => ?_
  have H0 := Lib.hid hw0
  have g0 := Lib.cell_of_heap hw0.2 0
  have g1 := Lib.cell_of_heap hw0.2 1
  have g2 := Lib.cell_of_heap hw0.2 2
  have g3 := Lib.cell_of_heap hw0.2 3
  have g4 := Lib.cell_of_heap hw0.2 4
  have g5 := Lib.cell_of_heap hw0.2 5
  have g6 := Lib.cell_of_heap hw0.2 6
  have g7 := Lib.cell_of_heap hw0.2 7
  have g8 := Lib.cell_of_heap hw0.2 8
  have g9 := Lib.cell_of_heap hw0.2 9
  have g10 := Lib.cell_of_heap hw0.2 10
  have g11 := Lib.cell_of_heap hw0.2 11
  simp only [List.getElem?_toArray, List.getElem?_cons_zero, List.getElem?_cons_succ] at g0 g1 g2 g3 g4 g5 g6 g7 g8 g9 g10 g11
  have hz0 := lt_of_block hw0.2
  clear hw0
  go_wp2_with (fail)
  go_loopw [8] (fun iv wr => ∃ j : Nat, iv = .int .i64 j ∧ j ≤ n ∧ Hid (Below w0.heap.size w0 wr ∧ clashB n key us rows j = Z)) (fun iv _ => n - (intOf iv).toNat)
  case atStart => exact ⟨0, rfl, by omega, Lib.hid ⟨Below.refl _ _, HZ.out⟩⟩
  case round =>
    obtain ⟨j, rfl, hj, HS⟩ := hrel
    have hsz := HS.out.1.size
    have inn := (HS.out.1.block _ hz0).trans H0.out.2
    have HB : Hid (Below w.heap.size w wr) := Lib.hid (H0.out.1.trans (HS.out.1.mono H0.out.1.size))
    clear g0 g1 g2 g3 g4 g5 g6 g7 g8 g9 g10 g11
    have g0 := Lib.cell_of_heap inn 0
    have g1 := Lib.cell_of_heap inn 1
    have g2 := Lib.cell_of_heap inn 2
    have g3 := Lib.cell_of_heap inn 3
    have g4 := Lib.cell_of_heap inn 4
    have g5 := Lib.cell_of_heap inn 5
    have g6 := Lib.cell_of_heap inn 6
    have g7 := Lib.cell_of_heap inn 7
    have g8 := Lib.cell_of_heap inn 8
    have g9 := Lib.cell_of_heap inn 9
    have g10 := Lib.cell_of_heap inn 10
    have g11 := Lib.cell_of_heap inn 11
    simp only [List.getElem?_toArray, List.getElem?_cons_zero, List.getElem?_cons_succ] at g0 g1 g2 g3 g4 g5 g6 g7 g8 g9 g10 g11
    have hz1 := lt_of_block inn
    clear inn
    by_cases hlt : j < n
    · have HN := Lib.hid (clash_next hlt key us rows)
      have HC := Lib.hid (fun W hW => HCI.out W j hW)
      have HT := Lib.hid (fun W hW => HTW.out W j hW)
      generalize (us.any fun y => decide ((j : Int) = y)) = z at HN HC
      generalize dupFrom [] j rows = d at HN HT
      by_cases hkey : (j : Int) = key
      · have hq : ((j : Int) == key) = true := by simp [hkey]
        rw [decide_eq_true hkey, Bool.true_or, Bool.true_and] at HN
        clear hkey
        cases d with
        | true =>
          go_wp2_with (go_at_call 127; (with_reducible refine (HT.out _ HB.out).mono ?_); rintro e w1 ⟨rfl, hb1⟩; have HB1 := Lib.hid (HB.out.trans (hb1.mono HB.out.size)); clear hb1)
          go_ret
          exact ⟨by rw [← HS.out.2, HN.out]; rfl, HB1.out⟩
        | false =>
          go_wp2_with (go_at_call 127; (with_reducible refine (HT.out _ HB.out).mono ?_); rintro e w1 ⟨rfl, hb1⟩; have HB1 := Lib.hid hb1; clear hb1)
          go_roundw
          case rel => exact ⟨j + 1, by go_num, by omega, Lib.hid ⟨HS.out.1.trans (HB1.out.mono hsz), by rw [← HS.out.2, HN.out, Bool.false_or]⟩⟩
          case measure => simp [intOf]; omega
      · have hq : ((j : Int) == key) = false := by simp [hkey]
        rw [decide_eq_false hkey, Bool.false_or] at HN
        clear hkey
        cases z with
        | false =>
          go_wp2_with (go_at_call 126; (with_reducible refine (HC.out _ HB.out).mono ?_); rintro e w1 ⟨rfl, hb1⟩; have HB1 := Lib.hid hb1; clear hb1)
          go_roundw
          case rel => exact ⟨j + 1, by go_num, by omega, Lib.hid ⟨HS.out.1.trans (HB1.out.mono hsz), by rw [← HS.out.2, HN.out, Bool.false_and, Bool.false_or]⟩⟩
          case measure => simp [intOf]; omega
        | true =>
          rw [Bool.true_and] at HN
          cases d with
          | true =>
            go_wp2_with (first
              | (go_at_call 126; (with_reducible refine (HC.out _ HB.out).mono ?_); rintro e w1 ⟨rfl, hb1⟩; have HB1 := Lib.hid (HB.out.trans (hb1.mono HB.out.size)); have hc1 := (bcell hb1).1; have hy1 := hb1.size; have hz2 : w.heap.size < w1.heap.size := (by omega); clear hb1)
              | (go_at_call 127; (with_reducible refine (HT.out _ HB1.out).mono ?_); rintro e w2 ⟨rfl, hb2⟩; have HB2 := Lib.hid (HB1.out.trans (hb2.mono HB1.out.size)); clear hb2))
            go_ret
            exact ⟨by rw [← HS.out.2, HN.out]; rfl, HB2.out⟩
          | false =>
            go_wp2_with (first
              | (go_at_call 126; (with_reducible refine (HC.out _ HB.out).mono ?_); rintro e w1 ⟨rfl, hb1⟩; have HB1 := Lib.hid (And.intro (HB.out.trans (hb1.mono HB.out.size)) (HS.out.1.trans (hb1.mono hsz))); have hc1 := (bcell hb1).1; have hy1 := hb1.size; have hz2 : w.heap.size < w1.heap.size := (by omega); clear hb1)
              | (go_at_call 127; (with_reducible refine (HT.out _ HB1.out.1).mono ?_); rintro e w2 ⟨rfl, hb2⟩; have HB2 := Lib.hid (HB1.out.2.trans (hb2.mono HB1.out.2.size)); clear hb2))
            go_roundw
            case rel => exact ⟨j + 1, by go_num, by omega, Lib.hid ⟨HB2.out, by rw [← HS.out.2, HN.out, Bool.false_or]⟩⟩
            case measure => simp [intOf]; omega
    · go_wp2_with (fail)
      go_ret
      exact ⟨by rw [← HS.out.2, clash_end (show n ≤ j by omega)]; rfl, HB.out⟩
end Go.Proofs.YtmhkmliebhbkdaaGreat

/- rel.Check of any table with rows. -/
namespace Go.Proofs.YtmhkmliebhbkdaaGreat
open Go.RowKit Go.Lib

/-- The first error of these. -/
def firstErr (f : List Vl → Int) : List (List Vl) → Int
  | [] => 0
  | r :: l => if f r = 0 then firstErr f l else f r
/-- What is wrong with a table with rows. -/
def relI (n : Nat) (nm : ByteArray) (k' : Nat) (cols : List Cl) (us : List Int) (rs : List Rf) (t : Ex) (nr : Nat) (rows : List (List Vl)) : Int :=
  if tableB n nm k' cols us rs t = false then 1 else if 200 < nr then 13
  else if firstErr (fun r => fitsI n nm k' cols us rs t r.length r) rows ≠ 0 then firstErr (fun r => fitsI n nm k' cols us rs t r.length r) rows
  else if clashB n k' us rows 0 = true then 7 else if risesB k' rows (nr - 1) = false then 15 else 0
set_option maxRecDepth 100000 in
set_option maxHeartbeats 4000000 in
theorem rcheck_any (nm : ByteArray) (A : Option Addr) (n c : Nat) (key : Int) (U : Option Addr) (m cu : Nat) (R : Option Addr) (p cr : Nat) (op : ByteArray) (k i : Int) (vs s : ByteArray) (B : Option Addr) (q d : Nat) (Ar : Option Addr) (nr ca : Nat) (cols : List Cl) (us : List Int) (rs : List Rf) (l : List Ex) (P : Nat → Prop) (N : Nat) (rows : List (List Vl)) (X : Nat → Prop) (k' : Nat) (w : World) (hk : key = k') (ht : TbS w nm A n c key U m cu R p cr op k i vs s B q d cols us rs l P N) (hr : RowsAt w X Ar nr rows) :
    Calls Tryz.prog 40 #[.agg #[.string nm, .slice A n c, .int .i64 key, .slice U m cu, .slice R p cr, .string op, .int .i64 k, .int .i64 i, .string vs, .string s, .slice B q d, .slice Ar nr ca]] w fun e w' => e = .returned (.int .i64 (relI n nm k' cols us rs (.mk op ⟨k, i, vs⟩ s l) nr rows)) ∧ Below w.heap.size w w' := by
  subst hk
  have HR := Lib.hid hr
  have HL := Lib.hid hr.1
  have hn1 := hr.2.1
  have hnn : n ≤ maxLen := ht.hcols.2.1
  have HM : Hid (∀ W, Below w.heap.size w W → Calls Tryz.prog 27 #[.agg #[.string nm, .slice A n c, .int .i64 k', .slice U m cu, .slice R p cr, .string op, .int .i64 k, .int .i64 i, .string vs, .string s, .slice B q d]] W fun e w' => e = .returned (.bool (tableB n nm k' cols us rs (.mk op ⟨k, i, vs⟩ s l))) ∧ Below W.heap.size W w') := Lib.hid fun W hW => tmay6_any nm A n c k' U m cu R p cr op k i vs s B q d cols us rs l P N W (ht.below hW)
  obtain ⟨f, Hf⟩ : ∃ f : List Vl → Int, Hid ((fun r : List Vl => fitsI n nm k' cols us rs (.mk op ⟨k, i, vs⟩ s l) r.length r) = f) := ⟨_, Lib.hid rfl⟩
  have HF : Hid (∀ W (r : List Vl) (D : Option Addr) (m2 cv : Nat), Below w.heap.size w W → m2 ≤ 1000 → Vals W W.heap.size D m2 r → Calls Tryz.prog 81 #[.agg #[.string nm, .slice A n c, .int .i64 k', .slice U m cu, .slice R p cr, .string op, .int .i64 k, .int .i64 i, .string vs, .string s, .slice B q d], .slice D m2 cv] W fun e w' => e = .returned (.int .i64 (f r)) ∧ Below W.heap.size W w') := Lib.hid fun W r D m2 cv hW hm hv => by
    have h := fits_any nm A n c k' U m cu R p cr op k i vs s B q d cols us rs l P N D m2 cv r (by unfold maxLen; omega) W (ht.below hW) hv
    obtain rfl := hv.1
    rw [← Hf.out]
    exact h
  have HCL : Hid (∀ W, Below w.heap.size w W → Calls Tryz.prog 82 #[.agg #[.string nm, .slice A n c, .int .i64 k', .slice U m cu, .slice R p cr, .string op, .int .i64 k, .int .i64 i, .string vs, .string s, .slice B q d, .slice Ar nr ca]] W fun e w' => e = .returned (.bool (clashB n k' us rows 0)) ∧ Below W.heap.size W w') := Lib.hid fun W hW => clashing_any nm A n c k' U m cu R p cr op k i vs s B q d Ar nr ca us rows X W hnn (ht.hus.below hW) (hr.below hW)
  have HSO : Hid (∀ W, Below w.heap.size w W → Calls Tryz.prog 83 #[.slice Ar nr ca, .func (.func 29) #[.int .i64 k'] #[]] W fun e w' => e = .returned (.bool (risesB k' rows (nr - 1))) ∧ Below W.heap.size W w') := Lib.hid fun W hW => sorted_any k' X Ar nr ca rows W (hr.below hW)
  obtain ⟨Z, HZ⟩ : ∃ Z, Hid (relI n nm k' cols us rs (.mk op ⟨k, i, vs⟩ s l) nr rows = Z) := ⟨_, Lib.hid rfl⟩
  rw [HZ.out]
  unfold relI at HZ
  rw [Hf.out] at HZ
  obtain ⟨tb, HT⟩ : ∃ b, Hid (tableB n nm k' cols us rs (.mk op ⟨k, i, vs⟩ s l) = b) := ⟨_, Lib.hid rfl⟩
  rw [HT.out] at HZ HM
  clear ht hr
  go_enter Tryz.func40, Tryz.ntmps40
  go_upto_region 1 with (fail)
  refine wp_gen (fun W => Below w.heap.size w W ∧ W.heap[w.heap.size]? = some (.cells #[.string nm, .slice A n c, .int .i64 k', .slice U m cu, .slice R p cr, .string op, .int .i64 k, .int .i64 i, .string vs, .string s, .slice B q d, .slice Ar nr ca] 34 (0, 0))) ⟨(Below.refl _ _).alloc (Nat.le_refl _) _, alloc_at rfl _⟩ fun w0 hw0 => ?_
  have H0 := Lib.hid hw0
  have g0 := Lib.cell_of_heap hw0.2 0
  have g1 := Lib.cell_of_heap hw0.2 1
  have g2 := Lib.cell_of_heap hw0.2 2
  have g3 := Lib.cell_of_heap hw0.2 3
  have g4 := Lib.cell_of_heap hw0.2 4
  have g5 := Lib.cell_of_heap hw0.2 5
  have g6 := Lib.cell_of_heap hw0.2 6
  have g7 := Lib.cell_of_heap hw0.2 7
  have g8 := Lib.cell_of_heap hw0.2 8
  have g9 := Lib.cell_of_heap hw0.2 9
  have g10 := Lib.cell_of_heap hw0.2 10
  have g11 := Lib.cell_of_heap hw0.2 11
  simp only [List.getElem?_toArray, List.getElem?_cons_zero, List.getElem?_cons_succ] at g0 g1 g2 g3 g4 g5 g6 g7 g8 g9 g10 g11
  have hz0 := lt_of_block hw0.2
  clear hw0
  cases tb with
  | false =>
    rw [if_pos (rfl : false = false)] at HZ
    go_wp2_with (go_at_call 27; (with_reducible refine (HM.out _ H0.out.1).mono ?_); rintro e w1 ⟨rfl, hb1⟩; have HB1 := Lib.hid (H0.out.1.trans (hb1.mono H0.out.1.size)); clear hb1)
    go_ret
    exact ⟨by rw [← HZ.out]; rfl, HB1.out⟩
  | true =>
    rw [if_neg (by decide)] at HZ
    by_cases h200 : 200 < nr
    · rw [if_pos h200] at HZ
      have hq : decide ((200 : Int) < (nr : Int)) = true := decide_eq_true (by omega)
      go_wp2_with (go_at_call 27; (with_reducible refine (HM.out _ H0.out.1).mono ?_); rintro e w1 ⟨rfl, hb1⟩; have HB1 := Lib.hid (H0.out.1.trans (hb1.mono H0.out.1.size)); have hc1 := (bcell hb1).1; have hy1 := hb1.size; have hz2 : w.heap.size < w1.heap.size := (by omega); clear hb1)
      go_ret
      exact ⟨by rw [← HZ.out]; rfl, HB1.out⟩
    · rw [if_neg h200] at HZ
      have hq : decide ((200 : Int) < (nr : Int)) = false := decide_eq_false (by omega)
      go_upto_region 3 with (go_at_call 27; (with_reducible refine (HM.out _ H0.out.1).mono ?_); rintro e w1 ⟨rfl, hb1⟩; have HB1 := Lib.hid (And.intro (H0.out.1.trans (hb1.mono H0.out.1.size)) ((hb1.block _ hz0).trans H0.out.2)); clear hb1)
      refine wp_gen (fun W => Below w.heap.size w W ∧ W.heap[w.heap.size]? = some (.cells #[.string nm, .slice A n c, .int .i64 k', .slice U m cu, .slice R p cr, .string op, .int .i64 k, .int .i64 i, .string vs, .string s, .slice B q d, .slice Ar nr ca] 34 (0, 0))) HB1.out fun w2 hw2 => ?_
      have H2 := Lib.hid hw2
      clear g0 g1 g2 g3 g4 g5 g6 g7 g8 g9 g10 g11 hz0
      have g0 := Lib.cell_of_heap hw2.2 0
      have g1 := Lib.cell_of_heap hw2.2 1
      have g2 := Lib.cell_of_heap hw2.2 2
      have g3 := Lib.cell_of_heap hw2.2 3
      have g4 := Lib.cell_of_heap hw2.2 4
      have g5 := Lib.cell_of_heap hw2.2 5
      have g6 := Lib.cell_of_heap hw2.2 6
      have g7 := Lib.cell_of_heap hw2.2 7
      have g8 := Lib.cell_of_heap hw2.2 8
      have g9 := Lib.cell_of_heap hw2.2 9
      have g10 := Lib.cell_of_heap hw2.2 10
      have g11 := Lib.cell_of_heap hw2.2 11
      simp only [List.getElem?_toArray, List.getElem?_cons_zero, List.getElem?_cons_succ] at g0 g1 g2 g3 g4 g5 g6 g7 g8 g9 g10 g11
      have hz0 := lt_of_block hw2.2
      clear hw2
      go_wp2_with (fail)
      go_loopw [19] (fun iv wr => ∃ j : Nat, iv = .int .i64 j ∧ j ≤ nr ∧ Hid (Below w2.heap.size w2 wr ∧ firstErr f rows = firstErr f (rows.drop j))) (fun iv _ => nr - (intOf iv).toNat)
      case atStart => exact ⟨0, rfl, by omega, Lib.hid ⟨Below.refl _ _, rfl⟩⟩
      case round =>
        obtain ⟨j, rfl, hj, HS⟩ := hrel
        have hsz := HS.out.1.size
        have inn := (HS.out.1.block _ hz0).trans H2.out.2
        have HB : Hid (Below w.heap.size w wr) := Lib.hid (H2.out.1.trans (HS.out.1.mono H2.out.1.size))
        clear g0 g1 g2 g3 g4 g5 g6 g7 g8 g9 g10 g11
        have g0 := Lib.cell_of_heap inn 0
        have g1 := Lib.cell_of_heap inn 1
        have g2 := Lib.cell_of_heap inn 2
        have g3 := Lib.cell_of_heap inn 3
        have g4 := Lib.cell_of_heap inn 4
        have g5 := Lib.cell_of_heap inn 5
        have g6 := Lib.cell_of_heap inn 6
        have g7 := Lib.cell_of_heap inn 7
        have g8 := Lib.cell_of_heap inn 8
        have g9 := Lib.cell_of_heap inn 9
        have g10 := Lib.cell_of_heap inn 10
        have g11 := Lib.cell_of_heap inn 11
        simp only [List.getElem?_toArray, List.getElem?_cons_zero, List.getElem?_cons_succ] at g0 g1 g2 g3 g4 g5 g6 g7 g8 g9 g10 g11
        have hz1 := lt_of_block inn
        by_cases hlt : j < nr
        · clear inn
          have hjl : j < rows.length := by rw [HL.out]; exact hlt
          obtain ⟨a, D, m2, cd, e, hc, q1, q2, q3, _⟩ := (HR.out.below HB.out).2.2 j hjl
          subst e
          have hel := World.block_lt_of_cell? wr _ hc
          have HFJ := Lib.hid (HF.out wr rows[j] D m2 cd HB.out q2 q3)
          have HI : Hid (firstErr f rows = if f rows[j] = 0 then firstErr f (rows.drop (j + 1)) else f rows[j]) := Lib.hid (by rw [HS.out.2, List.drop_eq_getElem_cons hjl]; rfl)
          clear q1 q3
          generalize f rows[j] = y at HFJ HI
          by_cases hy : y = 0
          · have hq2 : (y != 0) = false := by simp [hy]
            rw [if_pos hy] at HI
            clear hy
            go_wp2_with (go_at_call 81; (with_reducible refine HFJ.out.mono ?_); rintro e w3 ⟨rfl, hb3⟩; have HB3 := Lib.hid hb3; clear hb3)
            go_roundw
            case rel => exact ⟨j + 1, by go_num, by omega, Lib.hid ⟨HS.out.1.trans (HB3.out.mono hsz), HI.out⟩⟩
            case measure => simp [intOf]; omega
          · have hq2 : (y != 0) = true := by simp [hy]
            rw [if_neg hy] at HI
            rw [HI.out, if_pos hy] at HZ
            clear hy
            go_wp2_with (go_at_call 81; (with_reducible refine HFJ.out.mono ?_); rintro e w3 ⟨rfl, hb3⟩; have HB3 := Lib.hid (HB.out.trans (hb3.mono HB.out.size)); clear hb3)
            go_ret
            exact ⟨by rw [← HZ.out]; rfl, HB3.out⟩
        · have h0 : firstErr f rows = 0 := by rw [HS.out.2, List.drop_of_length_le (by have := HL.out; omega)]; rfl
          rw [h0, if_neg (by simp)] at HZ
          clear h0
          have HBK := Lib.hid inn
          clear inn
          generalize clashB n k' us rows 0 = z at HZ HCL
          generalize risesB k' rows (nr - 1) = y at HZ HSO
          cases z with
          | true =>
            rw [if_pos rfl] at HZ
            go_wp2_with (go_at_call 82; (with_reducible refine (HCL.out _ HB.out).mono ?_); rintro e w3 ⟨rfl, hb3⟩; have HB3 := Lib.hid (HB.out.trans (hb3.mono HB.out.size)); clear hb3)
            go_ret
            exact ⟨by rw [← HZ.out]; rfl, HB3.out⟩
          | false =>
            rw [if_neg (by decide)] at HZ
            go_upto_region 14 with (go_at_call 82; (with_reducible refine (HCL.out _ HB.out).mono ?_); rintro e w3 ⟨rfl, hb3⟩; have HB3 := Lib.hid (And.intro (HB.out.trans (hb3.mono HB.out.size)) ((hb3.block _ hz1).trans HBK.out)); clear hb3)
            refine wp_gen (fun W => Below w.heap.size w W ∧ W.heap[w.heap.size]? = some (.cells #[.string nm, .slice A n c, .int .i64 k', .slice U m cu, .slice R p cr, .string op, .int .i64 k, .int .i64 i, .string vs, .string s, .slice B q d, .slice Ar nr ca] 34 (0, 0))) HB3.out fun w4 hw4 => ?_
            have H4 := Lib.hid hw4
            clear g0 g1 g2 g3 g4 g5 g6 g7 g8 g9 g10 g11 hz1 hz0
            have g0 := Lib.cell_of_heap hw4.2 0
            have g1 := Lib.cell_of_heap hw4.2 1
            have g2 := Lib.cell_of_heap hw4.2 2
            have g3 := Lib.cell_of_heap hw4.2 3
            have g4 := Lib.cell_of_heap hw4.2 4
            have g5 := Lib.cell_of_heap hw4.2 5
            have g6 := Lib.cell_of_heap hw4.2 6
            have g7 := Lib.cell_of_heap hw4.2 7
            have g8 := Lib.cell_of_heap hw4.2 8
            have g9 := Lib.cell_of_heap hw4.2 9
            have g10 := Lib.cell_of_heap hw4.2 10
            have g11 := Lib.cell_of_heap hw4.2 11
            simp only [List.getElem?_toArray, List.getElem?_cons_zero, List.getElem?_cons_succ] at g0 g1 g2 g3 g4 g5 g6 g7 g8 g9 g10 g11
            have hz0 := lt_of_block hw4.2
            clear hw4
            cases y with
            | true =>
              rw [if_neg (by decide)] at HZ
              go_wp2_with (go_at_call 83; (with_reducible refine (HSO.out _ H4.out.1).mono ?_); rintro e w5 ⟨rfl, hb5⟩; have HB5 := Lib.hid (H4.out.1.trans (hb5.mono H4.out.1.size)); clear hb5)
              go_ret
              exact ⟨by rw [← HZ.out]; rfl, HB5.out⟩
            | false =>
              rw [if_pos rfl] at HZ
              go_wp2_with (go_at_call 83; (with_reducible refine (HSO.out _ H4.out.1).mono ?_); rintro e w5 ⟨rfl, hb5⟩; have HB5 := Lib.hid (H4.out.1.trans (hb5.mono H4.out.1.size)); clear hb5)
              go_ret
              exact ⟨by rw [← HZ.out]; rfl, HB5.out⟩
end Go.Proofs.YtmhkmliebhbkdaaGreat

/- The document's words: names, and what is no name; a column's place; the trees' kids. -/
namespace Go.Proofs.YtmhkmliebhbkdaaGreat
open Go.RowKit Go.Lib

/-- Some truth, some number is answered. -/
def RetB (e : Ending) : Prop := ∃ z, e = .returned (.bool z)
def RetI (e : Ending) : Prop := ∃ z : Int, e = .returned (.int .i64 z)
/-- A part of an expression, in memory. -/
theorem Tr.kid {w : World} {P : Nat → Prop} {n : Nat} {t : Ex} {u : Value} (h : Tr w P n t u) (j : Nat) (hj : j < t.l.length) : ∃ (a : Addr) (cap : Nat) (u' : Value) (m : Nat), u = .slice (some a) t.l.length cap ∧ P a.block ∧ ExC w (a.add (j * 6)) t.l[j] u' ∧ Tr w P m t.l[j] u' := by
  have h2 := h.2
  cases n with
  | zero =>
    obtain ⟨e, _⟩ := h2
    rw [e] at hj
    exact absurd hj (by simp)
  | succ m =>
    obtain ⟨A, cap, e, _, hk⟩ := h2
    obtain ⟨a, u', ea, hp, hc, hs, hr⟩ := hk j hj
    subst ea
    exact ⟨a, cap, u', m, e, hp, hc, hs, hr⟩
def resW7 : Array Value := #[.string ⟨#[65, 78, 68]⟩, .string ⟨#[79, 82]⟩, .string ⟨#[78, 79, 84]⟩, .string ⟨#[73, 83]⟩, .string ⟨#[78, 85, 76, 76]⟩, .string ⟨#[84, 82, 85, 69]⟩, .string ⟨#[70, 65, 76, 83, 69]⟩, .string ⟨#[67, 82, 69, 65, 84, 69]⟩, .string ⟨#[84, 65, 66, 76, 69]⟩, .string ⟨#[75, 69, 89]⟩, .string ⟨#[85, 78, 73, 81, 85, 69]⟩, .string ⟨#[82, 69, 70, 69, 82, 69, 78, 67, 69, 83]⟩, .string ⟨#[67, 72, 69, 67, 75]⟩, .string ⟨#[68, 82, 79, 80]⟩, .string ⟨#[73, 78, 83, 69, 82, 84]⟩, .string ⟨#[73, 78, 84, 79]⟩, .string ⟨#[86, 65, 76, 85, 69, 83]⟩, .string ⟨#[85, 80, 68, 65, 84, 69]⟩, .string ⟨#[83, 69, 84]⟩, .string ⟨#[87, 72, 69, 82, 69]⟩, .string ⟨#[68, 69, 76, 69, 84, 69]⟩, .string ⟨#[70, 82, 79, 77]⟩, .string ⟨#[83, 69, 76, 69, 67, 84]⟩, .string ⟨#[71, 82, 65, 78, 84]⟩, .string ⟨#[82, 69, 86, 79, 75, 69]⟩, .string ⟨#[82, 69, 65, 68]⟩, .string ⟨#[87, 82, 73, 84, 69]⟩, .string ⟨#[79, 78]⟩, .string ⟨#[84, 79]⟩, .string ⟨#[77, 73, 71, 82, 65, 84, 69]⟩, .string ⟨#[67, 79, 80, 89]⟩, .string ⟨#[74, 79, 73, 78]⟩, .string ⟨#[71, 82, 79, 85, 80]⟩, .string ⟨#[66, 89]⟩, .string ⟨#[83, 85, 77]⟩, .string ⟨#[73, 78, 84]⟩, .string ⟨#[84, 69, 88, 84]⟩, .string ⟨#[66, 79, 79, 76]⟩]
theorem resW7_at : ∀ j, j < 38 → ∃ s, resW7[j]? = some (.string s) := fun j hj => by
  rcases Nat.exists_eq_add_of_lt hj with ⟨d, hd⟩
  have h : (List.range 38).all (fun j => match resW7[j]? with | some (.string _) => true | _ => false) = true := by kernel_rfl
  have h2 := List.all_eq_true.1 h j (by simpa using hj)
  cases e : resW7[j]? with
  | none => rw [e] at h2; cases h2
  | some v =>
    rw [e] at h2
    cases v <;> first | (cases h2; done) | exact ⟨_, rfl⟩
set_option maxRecDepth 100000 in
set_option maxHeartbeats 4000000 in
theorem rres_any (s : ByteArray) (w : World) : Calls Tryz.prog 85 #[.string s] w fun e w' => RetB e ∧ Below w.heap.size w w' := by
  go_enter Tryz.func85, Tryz.ntmps85
  go_upto_region 2 with (fail)
  refine wp_gen (fun W => Below w.heap.size w W ∧ W.heap[w.heap.size]? = some (.cells resW7 9 (0, 0))) ⟨(Below.refl _ _).alloc (Nat.le_refl _) _, alloc_at rfl _⟩ fun w1 hw1 => ?_
  have H1 := Lib.hid hw1
  have hz1 := lt_of_block hw1.2
  clear hw1
  go_wp2_with (fail)
  go_loopw [4] (fun iv wr => ∃ j : Nat, iv = .int .i64 j ∧ j ≤ 38 ∧ Hid (wr = w1)) (fun iv _ => 38 - (intOf iv).toNat)
  case atStart => exact ⟨0, rfl, by omega, rfl⟩
  case round =>
    obtain ⟨j, rfl, hj, HW⟩ := hrel
    obtain rfl := HW.out
    by_cases hlt : j < 38
    · obtain ⟨x, hx⟩ := resW7_at j hlt
      have hc : wr.cell? ⟨w.heap.size, j, none⟩ = some (.string x) := (Lib.cell_of_heap H1.out.2 j).trans hx
      clear hx
      rcases Bool.eq_false_or_eq_true (x.toList == s.toList) with hq | hq
      · go_wp2_with (fail)
        go_ret
        exact ⟨⟨_, rfl⟩, H1.out.1⟩
      · go_wp2_with (fail)
        go_roundw
        case rel => exact ⟨j + 1, by go_num, by omega, by first | exact rfl | exact Lib.hid trivial⟩
        case measure => simp [intOf]; omega
    · go_wp2_with (fail)
      go_ret
      exact ⟨⟨_, rfl⟩, H1.out.1⟩
set_option maxRecDepth 100000 in
set_option maxHeartbeats 4000000 in
theorem rname5_any (s : ByteArray) (w : World) (hs : s.size ≤ 100000) : Calls Tryz.prog 43 #[.string s] w fun e w' => RetB e ∧ Below w.heap.size w w' := by
  have HN := Lib.hid (rname_any s w hs)
  have HR := Lib.hid (fun W => rres_any s W)
  generalize kmay letB parB 16 s.data.toList = z at HN
  cases z with
  | true =>
    go_enter Tryz.func43, Tryz.ntmps43
    go_wp2_with (first
      | (go_at_call 84; (with_reducible refine HN.out.mono ?_); rintro e w1 ⟨rfl, hb1⟩; have HB1 := Lib.hid hb1; clear hb1)
      | (go_at_call 85; (with_reducible refine (HR.out _).mono ?_); rintro e w2 ⟨⟨z, rfl⟩, hb2⟩; have HB2 := Lib.hid (HB1.out.trans (hb2.mono HB1.out.size)); clear hb2))
    go_ret
    exact ⟨⟨_, rfl⟩, HB2.out⟩
  | false =>
    go_enter Tryz.func43, Tryz.ntmps43
    go_wp2_with (first
      | (go_at_call 84; (with_reducible refine HN.out.mono ?_); rintro e w1 ⟨rfl, hb1⟩; have HB1 := Lib.hid hb1; clear hb1))
    go_ret
    exact ⟨⟨_, rfl⟩, HB1.out⟩
set_option maxRecDepth 100000 in
set_option maxHeartbeats 4000000 in
theorem rtwo_any (op : ByteArray) (w : World) : Calls Tryz.prog 150 #[.string op] w fun e w' => RetB e ∧ Below w.heap.size w w' := by
  go_enter Tryz.func150, Tryz.ntmps150
  go_wp2_with (fail)
  all_goals go_ret
  all_goals exact ⟨⟨_, rfl⟩, Below.refl _ _⟩
set_option maxRecDepth 100000 in
set_option maxHeartbeats 4000000 in
theorem rplace_any (A : Option Addr) (n cap : Nat) (l : List Cl) (s : ByteArray) (w : World) (hc : ColS w A n l) :
    Calls Tryz.prog 44 #[.slice A n cap, .string s] w fun e w' => RetI e ∧ Below w.heap.size w w' := by
  have HC := Lib.hid hc
  have HL := Lib.hid hc.1
  have hn : n ≤ maxLen := hc.2.1
  unfold maxLen at hn
  clear hc
  go_enter Tryz.func44, Tryz.ntmps44
  go_wp2_with (fail)
  go_loopw [5] (fun iv wr => ∃ j : Nat, iv = .int .i64 j ∧ j ≤ n ∧ Hid (wr = w)) (fun iv _ => n - (intOf iv).toNat)
  case atStart => exact ⟨0, rfl, by omega, rfl⟩
  case round =>
    obtain ⟨j, rfl, hj, HW⟩ := hrel
    obtain rfl := HW.out
    by_cases hlt : j < n
    · have hjl : j < l.length := by rw [HL.out]; exact hlt
      obtain ⟨a, rfl, hE⟩ := HC.out.2.2 j hjl
      have e0 := hE.c0
      clear hE
      generalize l[j].n = x at e0
      rcases Bool.eq_false_or_eq_true (x.toList == s.toList) with hq | hq
      · go_wp2_with (fail)
        go_ret
        exact ⟨⟨_, rfl⟩, Below.refl _ _⟩
      · go_wp2_with (fail)
        go_roundw
        case rel => exact ⟨j + 1, by go_num, by omega, by first | exact rfl | exact Lib.hid trivial⟩
        case measure => simp [intOf]; omega
    · go_wp2_with (fail)
      go_ret
      exact ⟨⟨_, rfl⟩, Below.refl _ _⟩
end Go.Proofs.YtmhkmliebhbkdaaGreat
