import Derived.Test.YtchebhdndkaheaaGreatDoorW11
import Derived.Test.YtchebhdndkaheaaGreatDoorW06
import Derived.Deep.RegionWith

/- Tables: what is wrong with a row: schema.Fits. -/
namespace Go.Proofs.YtchebhdndkaheaaGreatDoor
open Go.RowKit Go.Lib

def falseB (x : Vl) : Bool := decide (x.k = 3 ∧ x.i = 0 ∧ x.s.toList = [])
/-- What is wrong with a row of m values. -/
def fitsI (n : Nat) (nm : ByteArray) (key : Int) (cols : List Cl) (us : List Int) (rs : List Rf) (t : Ex) (m : Nat) (row : List Vl) : Int :=
  if tableB n nm key cols us rs t = true then (if m = n then (if (row.any fun v => !mayB v.k v.i v.s) = true then 1 else if heldF cols row = 0 then (if falseB (evalT cols row t) = true then 9 else 0) else heldF cols row) else 1) else 1

/-- The box of the table, and what has come since. -/
structure Fbx (w : World) (nm : ByteArray) (A : Option Addr) (n c : Nat) (key : Int) (U : Option Addr) (m cu : Nat) (R : Option Addr) (p cr : Nat) (op : ByteArray) (k i : Int) (vs s : ByteArray) (B : Option Addr) (q d : Nat) (W : World) : Prop where
  below : Below w.heap.size w W
  box : TbAt W w.heap.size nm A n c key U m cu R p cr op k i vs s B q d
theorem Fbx.later {w W W' : World} {nm : ByteArray} {A : Option Addr} {n c : Nat} {key : Int} {U : Option Addr} {m cu : Nat} {R : Option Addr} {p cr : Nat} {op : ByteArray} {k i : Int} {vs s : ByteArray} {B : Option Addr} {q d : Nat} (h : Fbx w nm A n c key U m cu R p cr op k i vs s B q d W) (hb : Below W.heap.size W W') : Fbx w nm A n c key U m cu R p cr op k i vs s B q d W' :=
  ⟨h.below.trans (hb.mono h.below.size), h.box.below hb⟩
set_option maxRecDepth 100000 in
set_option maxHeartbeats 4000000 in
theorem fits_any (nm : ByteArray) (A : Option Addr) (n c : Nat) (key : Int) (U : Option Addr) (m cu : Nat) (R : Option Addr) (p cr : Nat) (op : ByteArray) (k i : Int) (vs s : ByteArray) (B : Option Addr) (q d : Nat) (cols : List Cl) (us : List Int) (rs : List Rf) (l : List Ex) (P : Nat → Prop) (N : Nat) (D : Option Addr) (m2 cv : Nat) (row : List Vl) (hm : m2 ≤ maxLen) (w : World) (ht : TbS w nm A n c key U m cu R p cr op k i vs s B q d cols us rs l P N) (hv : Vals w w.heap.size D m2 row) :
    Calls Tryz.prog 10 #[.agg #[.string nm, .slice A n c, .int .i64 key, .slice U m cu, .slice R p cr, .string op, .int .i64 k, .int .i64 i, .string vs, .string s, .slice B q d], .slice D m2 cv] w fun e w' => e = .returned (.int .i64 (fitsI n nm key cols us rs (.mk op ⟨k, i, vs⟩ s l) m2 row)) ∧ Below w.heap.size w w' := by
  have HA : Hid (TbAt (w.alloc (.cells #[.string nm, .slice A n c, .int .i64 key, .slice U m cu, .slice R p cr, .string op, .int .i64 k, .int .i64 i, .string vs, .string s, .slice B q d] 31)) w.heap.size nm A n c key U m cu R p cr op k i vs s B q d) := ⟨by simp [go_sem], by simp [go_sem], by simp [go_sem], by simp [go_sem], by simp [go_sem], by simp [go_sem], by simp [go_sem], by simp [go_sem], by simp [go_sem], by simp [go_sem], by simp [go_sem]⟩
  have H0 : Hid (Fbx w nm A n c key U m cu R p cr op k i vs s B q d (w.alloc (.cells #[.string nm, .slice A n c, .int .i64 key, .slice U m cu, .slice R p cr, .string op, .int .i64 k, .int .i64 i, .string vs, .string s, .slice B q d] 31))) := ⟨((Below.refl _ _).alloc (Nat.le_refl _) _), HA.out⟩
  have HT := Lib.hid ht
  have HM := Lib.hid (fun (_ : Nat) => tmay6_any nm A n c key U m cu R p cr op k i vs s B q d cols us rs l P N (w.alloc (.cells #[.string nm, .slice A n c, .int .i64 key, .slice U m cu, .slice R p cr, .string op, .int .i64 k, .int .i64 i, .string vs, .string s, .slice B q d] 31)) (ht.below ((Below.refl _ _).alloc (Nat.le_refl _) _)))
  have hv' : ∀ W, Below w.heap.size w W → Vals W W.heap.size D m2 row := fun W hW => (hv.keep hW).more hW.size
  have HR := Lib.hid (fun (W : World) (hW : Below w.heap.size w W) => contains_values D m2 cv row (fun v => !mayB v.k v.i v.s) W (hv' W hW) hm (fun v _ W' _ => fits1_any v W'))
  have HE := Lib.hid (fun (W : World) (hW : Below w.heap.size w W) => evalT_any A n c cols D m2 cv row hm P N (.mk op ⟨k, i, vs⟩ s l) (.slice B q d) W (ht.chk.below hW) (ht.hcols.below hW) (hv' W hW))
  have HV := Lib.hid hv
  unfold EVt at HE
  simp only [Ex.op, Ex.x, Ex.s] at HE
  have hl := ht.len
  have hnc := ht.hcols.1
  have hnm := ht.hcols.2.1
  have hvl := hv.1
  unfold maxLen at hm hnm
  unfold fitsI
  clear ht hv hv'
  generalize (row.any fun v => !mayB v.k v.i v.s) = z3 at HR ⊢
  generalize evalT cols row (.mk op ⟨k, i, vs⟩ s l) = x at HE ⊢
  generalize tableB n nm key cols us rs (.mk op ⟨k, i, vs⟩ s l) = z1 at HM ⊢
  cases z1 with
  | false =>
    rw [if_neg (by decide)]
    go_enter Tryz.func10, Tryz.ntmps10
    go_wp2_with ((go_at_call 8; (with_reducible refine (HM.out 0).mono ?_); rintro e w1 ⟨rfl, hb1⟩; have HB1 := Lib.hid (H0.out.later hb1); have c0 := HB1.out.box.c0; have c1 := HB1.out.box.c1; have c2 := HB1.out.box.c2; have c3 := HB1.out.box.c3; have c4 := HB1.out.box.c4; have c5 := HB1.out.box.c5; have c6 := HB1.out.box.c6; have c7 := HB1.out.box.c7; have c8 := HB1.out.box.c8; have c9 := HB1.out.box.c9; have c10 := HB1.out.box.c10; have hl1 := HB1.out.box.lt; clear hb1))
    go_ret
    exact ⟨rfl, HB1.out.below⟩
  | true =>
    rw [if_pos rfl]
    by_cases h2 : m2 = n
    · subst h2
      rw [if_pos rfl]
      cases z3 with
      | true =>
        rw [if_pos rfl]
        go_enter Tryz.func10, Tryz.ntmps10
        go_wp2_with (first | (go_at_call 8; (with_reducible refine (HM.out 0).mono ?_); rintro e w1 ⟨rfl, hb1⟩; have HB1 := Lib.hid (H0.out.later hb1); have c0 := HB1.out.box.c0; have c1 := HB1.out.box.c1; have c2 := HB1.out.box.c2; have c3 := HB1.out.box.c3; have c4 := HB1.out.box.c4; have c5 := HB1.out.box.c5; have c6 := HB1.out.box.c6; have c7 := HB1.out.box.c7; have c8 := HB1.out.box.c8; have c9 := HB1.out.box.c9; have c10 := HB1.out.box.c10; have hl1 := HB1.out.box.lt; clear hb1) | (go_at_call 22; (with_reducible refine (HR.out _ HB1.out.below).mono ?_); rintro e w2 ⟨rfl, hb2⟩; have HB2 := Lib.hid (HB1.out.later hb2); have c0 := HB2.out.box.c0; have c1 := HB2.out.box.c1; have c2 := HB2.out.box.c2; have c3 := HB2.out.box.c3; have c4 := HB2.out.box.c4; have c5 := HB2.out.box.c5; have c6 := HB2.out.box.c6; have c7 := HB2.out.box.c7; have c8 := HB2.out.box.c8; have c9 := HB2.out.box.c9; have c10 := HB2.out.box.c10; have hl2 := HB2.out.box.lt; clear hb2))
        go_ret
        exact ⟨rfl, HB2.out.below⟩
      | false =>
        rw [if_neg (by decide)]
        obtain ⟨Z, hZ⟩ : ∃ Z, (if heldF cols row = 0 then if falseB x = true then 9 else 0 else heldF cols row) = Z := ⟨_, rfl⟩
        rw [hZ]
        have HZZ := Lib.hid hZ
        clear hZ
        go_enter Tryz.func10, Tryz.ntmps10
        go_wp2_with (first | (go_at_call 8; (with_reducible refine (HM.out 0).mono ?_); rintro e w1 ⟨rfl, hb1⟩; have HB1 := Lib.hid (H0.out.later hb1); have c0 := HB1.out.box.c0; have c1 := HB1.out.box.c1; have c2 := HB1.out.box.c2; have c3 := HB1.out.box.c3; have c4 := HB1.out.box.c4; have c5 := HB1.out.box.c5; have c6 := HB1.out.box.c6; have c7 := HB1.out.box.c7; have c8 := HB1.out.box.c8; have c9 := HB1.out.box.c9; have c10 := HB1.out.box.c10; have hl1 := HB1.out.box.lt; clear hb1) | (go_at_call 22; (with_reducible refine (HR.out _ HB1.out.below).mono ?_); rintro e w2 ⟨rfl, hb2⟩; have HB2 := Lib.hid (HB1.out.later hb2); have c0 := HB2.out.box.c0; have c1 := HB2.out.box.c1; have c2 := HB2.out.box.c2; have c3 := HB2.out.box.c3; have c4 := HB2.out.box.c4; have c5 := HB2.out.box.c5; have c6 := HB2.out.box.c6; have c7 := HB2.out.box.c7; have c8 := HB2.out.box.c8; have c9 := HB2.out.box.c9; have c10 := HB2.out.box.c10; have hl2 := HB2.out.box.lt; clear hb2))
        go_loopw [25] (fun iv wr => ∃ j : Nat, j ≤ m2 ∧ iv = .int .i64 j ∧ Hid (Fbx w nm A m2 c key U m cu R p cr op k i vs s B q d wr) ∧ Hid (heldF cols row = heldF (cols.drop j) (row.drop j))) (fun iv _ => m2 - (intOf iv).toNat)
        case atStart => exact ⟨0, by omega, rfl, HB2, rfl⟩
        case round =>
          obtain ⟨j, hj, rfl, HX, HI⟩ := hrel
          clear c0 c1 c2 c3 c4 c5 c6 c7 c8 c9 c10
          by_cases hlt : j < m2
          · have hjc : j < cols.length := by omega
            have hjr : j < row.length := by omega
            obtain ⟨a, rfl, hE⟩ := HT.out.hcols.2.2 j hjc
            obtain ⟨a2, rfl, hF, hFb⟩ := HV.out.2 j hjr
            have hFb' : (a2.add (j * 3)).block < w.heap.size := by rw [add_block]; exact hFb
            have hF' := hF.keep HX.out.below hFb'
            have hE' := hE.keep (HX.out.below.block _ hE.lt)
            have hEl := hE.lt
            have hzz := HX.out.below.size
            have hbl := HX.out.box.lt
            have hEl' : (a.add (j * 3)).block < wr.heap.size := by omega
            have hFl' : (a2.add (j * 3)).block < wr.heap.size := by omega
            have HDc : Hid (cols.drop j = cols[j] :: cols.drop (j + 1)) := List.drop_eq_getElem_cons hjc
            have HDr : Hid (row.drop j = row[j] :: row.drop (j + 1)) := List.drop_eq_getElem_cons hjr
            have HC := Lib.hid (And.intro hE' hF')
            have HBX := Lib.hid HX.out.box.c1
            clear hE hF hE' hF' hFb
            generalize cols[j] = y at HC HDc
            generalize row[j] = v at HC HDr
            have HH := Lib.hid (fun W => held6_any y v W)
            have HI2 : Hid (heldF cols row = if heldI y v = 0 then heldF (cols.drop (j + 1)) (row.drop (j + 1)) else heldI y v) := Lib.hid (by rw [HI.out, HDc.out, HDr.out]; rfl)
            clear HI
            generalize heldI y v = z at HH HI2
            by_cases hz : z = 0
            · subst hz
              go_upto_region 6 with (fail)
              refine detL_begin [.val (.pointer (some ⟨w.heap.size, 1, none⟩)), .val (.slice (some a) m2 c), .val (.int .i64 j), .val (.pointer (some (a.add (j * 3)))), .val (.agg #[.string y.n, .int .i64 y.t, .bool y.b]), .val (.slice (some a2) m2 cv), .val (.int .i64 j), .val (.pointer (some (a2.add (j * 3)))), .val (.agg #[.int .i64 v.k, .int .i64 v.i, .string v.s]), .val (.int .i64 0), .val (.int .i64 0)] 11 (by kernel_rfl) ?_
              refine detL_val (by kernel_rfl) (yields_of rfl fun w1 hb1 => ?_) ?_
              · skip
                clear hb1
                go_simp
                exact Det1_same
              simp only [Act.put, List.setIfInBounds_toArray, List.set_cons_zero, List.set_cons_succ]
              refine detL_val (by kernel_rfl) (yields_of rfl fun w1 hb1 => ?_) ?_
              · skip
                have m0 := (hb1.cell (p := ⟨w.heap.size, 1, none⟩) hbl).trans HBX.out
                clear hb1
                go_simp
                exact Det1_same
              simp only [Act.put, List.setIfInBounds_toArray, List.set_cons_zero, List.set_cons_succ]
              refine detL_val (by kernel_rfl) (yields_of rfl fun w1 hb1 => ?_) ?_
              · skip
                clear hb1
                go_simp
                exact Det1_same
              simp only [Act.put, List.setIfInBounds_toArray, List.set_cons_zero, List.set_cons_succ]
              refine detL_val (by kernel_rfl) (yields_of rfl fun w1 hb1 => ?_) ?_
              · skip
                clear hb1
                go_simp
                exact Det1_same
              simp only [Act.put, List.setIfInBounds_toArray, List.set_cons_zero, List.set_cons_succ]
              refine detL_val (by kernel_rfl) (yields_of rfl fun w1 hb1 => ?_) ?_
              · skip
                have m1 := HC.out.1.keep (hb1.block _ hEl')
                have m2' := m1.c0
                have m3' := m1.c1
                have m4' := m1.c2
                clear m1
                clear hb1
                go_simp
                exact Det1_same
              simp only [Act.put, List.setIfInBounds_toArray, List.set_cons_zero, List.set_cons_succ]
              refine detL_val (by kernel_rfl) (yields_of rfl fun w1 hb1 => ?_) ?_
              · skip
                clear hb1
                go_simp
                exact Det1_same
              simp only [Act.put, List.setIfInBounds_toArray, List.set_cons_zero, List.set_cons_succ]
              refine detL_val (by kernel_rfl) (yields_of rfl fun w1 hb1 => ?_) ?_
              · skip
                clear hb1
                go_simp
                exact Det1_same
              simp only [Act.put, List.setIfInBounds_toArray, List.set_cons_zero, List.set_cons_succ]
              refine detL_val (by kernel_rfl) (yields_of rfl fun w1 hb1 => ?_) ?_
              · skip
                clear hb1
                go_simp
                exact Det1_same
              simp only [Act.put, List.setIfInBounds_toArray, List.set_cons_zero, List.set_cons_succ]
              refine detL_val (by kernel_rfl) (yields_of rfl fun w1 hb1 => ?_) ?_
              · skip
                have m1 := HC.out.2.keep (show Below wr.heap.size wr w1 from (Below.refl wr.heap.size wr).drew.trans hb1) hFl'
                have m2' := m1.k
                have m3' := m1.i
                have m4' := m1.s
                clear m1
                clear hb1
                go_simp
                exact Det1_same
              simp only [Act.put, List.setIfInBounds_toArray, List.set_cons_zero, List.set_cons_succ]
              refine detL_val (by kernel_rfl) (yields_of rfl fun w1 hb1 => ?_) ?_
              · skip
                clear hb1
                go_simp
                exact Det1_enter (HH.out _)
              simp only [Act.put, List.setIfInBounds_toArray, List.set_cons_zero, List.set_cons_succ]
              refine detL_val (by kernel_rfl) (yields_of rfl fun w1 hb1 => ?_) ?_
              · skip
                clear hb1
                go_simp
                exact Det1_same
              simp only [Act.put, List.setIfInBounds_toArray, List.set_cons_zero, List.set_cons_succ]
              refine detL_done (by kernel_rfl) fun w1 hw1 => ?_
              have HX1 : Hid (Fbx w nm (some a) m2 c key U m cu R p cr op k i vs s B q d w1) := HX.out.later ((Below.refl wr.heap.size wr).drew.trans hw1.below)
              clear hw1
              go_wp2
              go_roundw
              case rel => exact ⟨j + 1, by omega, by go_num, HX1, Lib.hid (by rw [HI2.out, if_pos rfl])⟩
              case measure => simp [intOf]; omega
            · have q1 : (z != 0) = true := by simp [hz]
              have HZ := Lib.hid hz
              clear hz
              go_upto_region 6 with (fail)
              refine detL_begin [.val (.pointer (some ⟨w.heap.size, 1, none⟩)), .val (.slice (some a) m2 c), .val (.int .i64 j), .val (.pointer (some (a.add (j * 3)))), .val (.agg #[.string y.n, .int .i64 y.t, .bool y.b]), .val (.slice (some a2) m2 cv), .val (.int .i64 j), .val (.pointer (some (a2.add (j * 3)))), .val (.agg #[.int .i64 v.k, .int .i64 v.i, .string v.s]), .val (.int .i64 z), .val (.int .i64 z)] 11 (by kernel_rfl) ?_
              refine detL_val (by kernel_rfl) (yields_of rfl fun w1 hb1 => ?_) ?_
              · skip
                clear hb1
                go_simp
                exact Det1_same
              simp only [Act.put, List.setIfInBounds_toArray, List.set_cons_zero, List.set_cons_succ]
              refine detL_val (by kernel_rfl) (yields_of rfl fun w1 hb1 => ?_) ?_
              · skip
                have m0 := (hb1.cell (p := ⟨w.heap.size, 1, none⟩) hbl).trans HBX.out
                clear hb1
                go_simp
                exact Det1_same
              simp only [Act.put, List.setIfInBounds_toArray, List.set_cons_zero, List.set_cons_succ]
              refine detL_val (by kernel_rfl) (yields_of rfl fun w1 hb1 => ?_) ?_
              · skip
                clear hb1
                go_simp
                exact Det1_same
              simp only [Act.put, List.setIfInBounds_toArray, List.set_cons_zero, List.set_cons_succ]
              refine detL_val (by kernel_rfl) (yields_of rfl fun w1 hb1 => ?_) ?_
              · skip
                clear hb1
                go_simp
                exact Det1_same
              simp only [Act.put, List.setIfInBounds_toArray, List.set_cons_zero, List.set_cons_succ]
              refine detL_val (by kernel_rfl) (yields_of rfl fun w1 hb1 => ?_) ?_
              · skip
                have m1 := HC.out.1.keep (hb1.block _ hEl')
                have m2' := m1.c0
                have m3' := m1.c1
                have m4' := m1.c2
                clear m1
                clear hb1
                go_simp
                exact Det1_same
              simp only [Act.put, List.setIfInBounds_toArray, List.set_cons_zero, List.set_cons_succ]
              refine detL_val (by kernel_rfl) (yields_of rfl fun w1 hb1 => ?_) ?_
              · skip
                clear hb1
                go_simp
                exact Det1_same
              simp only [Act.put, List.setIfInBounds_toArray, List.set_cons_zero, List.set_cons_succ]
              refine detL_val (by kernel_rfl) (yields_of rfl fun w1 hb1 => ?_) ?_
              · skip
                clear hb1
                go_simp
                exact Det1_same
              simp only [Act.put, List.setIfInBounds_toArray, List.set_cons_zero, List.set_cons_succ]
              refine detL_val (by kernel_rfl) (yields_of rfl fun w1 hb1 => ?_) ?_
              · skip
                clear hb1
                go_simp
                exact Det1_same
              simp only [Act.put, List.setIfInBounds_toArray, List.set_cons_zero, List.set_cons_succ]
              refine detL_val (by kernel_rfl) (yields_of rfl fun w1 hb1 => ?_) ?_
              · skip
                have m1 := HC.out.2.keep (show Below wr.heap.size wr w1 from (Below.refl wr.heap.size wr).drew.trans hb1) hFl'
                have m2' := m1.k
                have m3' := m1.i
                have m4' := m1.s
                clear m1
                clear hb1
                go_simp
                exact Det1_same
              simp only [Act.put, List.setIfInBounds_toArray, List.set_cons_zero, List.set_cons_succ]
              refine detL_val (by kernel_rfl) (yields_of rfl fun w1 hb1 => ?_) ?_
              · skip
                clear hb1
                go_simp
                exact Det1_enter (HH.out _)
              simp only [Act.put, List.setIfInBounds_toArray, List.set_cons_zero, List.set_cons_succ]
              refine detL_val (by kernel_rfl) (yields_of rfl fun w1 hb1 => ?_) ?_
              · skip
                clear hb1
                go_simp
                exact Det1_same
              simp only [Act.put, List.setIfInBounds_toArray, List.set_cons_zero, List.set_cons_succ]
              refine detL_done (by kernel_rfl) fun w1 hw1 => ?_
              have HX1 : Hid (Fbx w nm (some a) m2 c key U m cu R p cr op k i vs s B q d w1) := HX.out.later ((Below.refl wr.heap.size wr).drew.trans hw1.below)
              clear hw1
              go_wp2
              go_ret
              exact ⟨congrArg (fun b => Ending.returned (Value.int .i64 b)) (show z = Z from by rw [← HZZ.out, HI2.out, if_neg HZ.out, if_neg HZ.out]), HX1.out.below⟩
          · have hjm : m2 = j := by omega
            subst hjm
            have H00 : heldF cols row = 0 := by rw [HI.out, List.drop_of_length_le (by omega), List.drop_of_length_le (by omega)]; rfl
            have HZ2 : Hid ((if falseB x = true then 9 else 0) = Z) := by
              have := HZZ.out
              rw [H00, if_pos rfl] at this
              exact this
            have HEX := Lib.hid (HE.out wr HX.out.below)
            have c0 := HX.out.box.c0; have c1 := HX.out.box.c1; have c2 := HX.out.box.c2; have c3 := HX.out.box.c3; have c4 := HX.out.box.c4; have c5 := HX.out.box.c5; have c6 := HX.out.box.c6; have c7 := HX.out.box.c7; have c8 := HX.out.box.c8; have c9 := HX.out.box.c9; have c10 := HX.out.box.c10
            have hbl := HX.out.box.lt
            clear H00 HZZ HI
            go_wp2_with (go_at_call 11; (with_reducible refine HEX.out.mono ?_); rintro e w3 ⟨rfl, hb3⟩; have HB3 : Hid (Below w.heap.size w w3) := HX.out.below.trans (hb3.mono HX.out.below.size); clear hb3)
            all_goals go_ret
            all_goals exact ⟨congrArg (fun b => Ending.returned (Value.int .i64 b)) (show _ = Z from by rw [← HZ2.out]; simp [falseB, *]), HB3.out⟩
    · rw [if_neg h2]
      have q1 : ((m2 : Int) != (n : Int)) = true := by simp; omega
      go_enter Tryz.func10, Tryz.ntmps10
      go_wp2_with ((go_at_call 8; (with_reducible refine (HM.out 0).mono ?_); rintro e w1 ⟨rfl, hb1⟩; have HB1 := Lib.hid (H0.out.later hb1); have c0 := HB1.out.box.c0; have c1 := HB1.out.box.c1; have c2 := HB1.out.box.c2; have c3 := HB1.out.box.c3; have c4 := HB1.out.box.c4; have c5 := HB1.out.box.c5; have c6 := HB1.out.box.c6; have c7 := HB1.out.box.c7; have c8 := HB1.out.box.c8; have c9 := HB1.out.box.c9; have c10 := HB1.out.box.c10; have hl1 := HB1.out.box.lt; clear hb1))
      go_ret
      exact ⟨rfl, HB1.out.below⟩

end Go.Proofs.YtchebhdndkaheaaGreatDoor

/- The token with which a text begins. -/
namespace Go.Proofs.YtchebhdndkaheaaGreatDoor
open Go.RowKit Go.Lib

theorem qN_some {s : ByteArray} {x r : List UInt8} (h1 : 1 ≤ s.size) (h : qscan (s.data.toList.drop 1) = some (x, r)) : qN s.size (s.data.toList.drop 1) = s.size - r.length ∧ r.length + 2 ≤ s.size := by
  obtain ⟨h2, _⟩ := qscan_some _ _ _ _ (Nat.le_refl _) h
  have h3 := congrArg List.length h2
  rw [List.length_drop, ← Lib.size_eq] at h3
  simp at h3
  unfold qN
  rw [h]
  exact ⟨rfl, by omega⟩
theorem take_list (s : ByteArray) (n : Nat) : (s.extract 0 n).data.toList = s.data.toList.take n := by
  simp [ByteArray.extract, ByteArray.data_append, ByteArray.copySlice]
/-- The octets of a text in quotes are a value's text just if the text is one that may be. -/
theorem quote_txt (x : List UInt8) (h : mayB 2 0 ⟨x.toArray⟩ = true) : txtO 2 0 ⟨x.toArray⟩ = 39 :: (dbl x ++ [39]) := by
  unfold txtO
  rw [h]
  simp
theorem quote_only {x : List UInt8} {k i : Int} {S : ByteArray} (hm : mayB k i S = true) (h : txtO k i S = 39 :: (dbl x ++ [39])) : mayB 2 0 ⟨x.toArray⟩ = true := by
  cases four k i S hm with
  | null hk hi hs ht => rw [ht] at h; simp at h
  | num hk hs ht =>
    rw [ht] at h
    exact absurd h (itoa_no (by decide) (.inl (by decide)))
  | text hk hi hz hc ht =>
    rw [ht] at h
    have e := dbl_inj _ _ (List.append_cancel_right (List.cons.inj h).2)
    rw [← e, hk.symm, ← hi]
    simpa using hm
  | no hk hi hs ht => rw [ht] at h; simp at h
  | yes hk hi hs ht => rw [ht] at h; simp at h
theorem quote_cut {s : ByteArray} {x r : List UInt8} (h1 : 1 ≤ s.size) (h0 : s[0] = 39) (h : qscan (s.data.toList.drop 1) = some (x, r)) : (s.extract 0 (s.size - r.length)).data.toList = 39 :: (dbl x ++ [39]) := by
  obtain ⟨h2, _⟩ := qscan_some _ _ _ _ (Nat.le_refl _) h
  have h3 : 0 < s.data.toList.length := by rw [← Lib.size_eq]; omega
  have h4 : s.data.toList = 39 :: (dbl x ++ 39 :: r) := by
    rw [← h2, ← h0]
    exact (List.drop_eq_getElem_cons h3)
  rw [take_list, Lib.size_eq, h4]
  have e : (39 :: (dbl x ++ 39 :: r) : List UInt8) = (39 :: (dbl x ++ [39])) ++ r := by simp
  rw [e, List.take_append_of_le_length (by simp; omega), List.take_of_length_le (by simp; omega)]

set_option maxRecDepth 100000 in
set_option maxHeartbeats 800000 in
theorem fs_yes (s : ByteArray) (w : World) (h1 : 1 ≤ s.size) (hs : s.size ≤ 100000) (h0 : s[0] = 39) (hl : LibE w) (n : Nat) (x r : List UInt8) (hq : qscan (s.data.toList.drop 1) = some (x, r)) (hm : mayB 2 0 ⟨x.toArray⟩ = true) (hn : n = s.size - r.length) :
    Calls Tryz.prog 143 #[.string s] w fun e w' => e = .returned (.tuple #[.agg #[.int .i64 3, .string ⟨x.toArray⟩], .int .i64 n]) ∧ Below w.heap.size w w' := by
  have HL := Lib.hid hl
  obtain ⟨e1, e2⟩ := qN_some h1 hq
  have HQ := Lib.hid (fun (W : World) => (show Calls Tryz.prog 167 #[.string s] W fun e w' => e = .returned (.int .i64 n) ∧ Below W.heap.size W w' by
    have := quoted_any s W h1 hs
    rw [e1, ← hn] at this
    exact this))
  have HP := Lib.hid (fun (W : World) (h : LibE W) => vparse_ok 2 0 ⟨x.toArray⟩ (s.extract 0 n) W hm (by rw [quote_txt x hm, hn, quote_cut h1 h0 hq]) in64_0 (by rw [ByteArray.size_extract]; omega) h)
  have hle : (n : Int) ≤ (s.size : Int) := by omega
  have hle2 : n ≤ s.size := by omega
  clear hq hm hn e1 e2 h0
  clear hl
  go_enter Tryz.func143, Tryz.ntmps143
  go_wp2_with (first
    | (go_at_call 167; refine (HQ.out _).mono ?_; rintro e w1 ⟨rfl, hb1⟩; have hc1 := (bcell hb1).1; have hf1 := (bcell hb1).2; have hy1 := hb1.size; (try simp at hy1); have hz1_0 : w.heap.size < w1.heap.size := (by omega); have hx1 : w.heap.size < w1.heap.size + 1 := (by omega); have hx2 : ¬ w.heap.size = w1.heap.size := (by omega))
    | (go_at_call 168; refine (HP.out _ (HL.out.keep (by repeat (first | (with_reducible exact Below.refl _ _) | ((with_reducible refine cSet3 ?_ ?_ _ _ _); (· ((try simp) <;> omega))) | (with_reducible refine Below.drew ?_) | ((with_reducible refine cAlloc ?_ ?_ _); (· ((try simp) <;> omega))) | ((with_reducible refine cOn (by assumption) ?_ ?_); (· ((try simp) <;> omega))))) (Nat.le_refl _))).mono ?_; rintro e w2 ⟨rfl, hb2⟩; have hc2 := (bcell hb2).1; have hf2 := (bcell hb2).2; have hy2 := hb2.size; (try simp at hy2); have hz2_0 : w.heap.size < w2.heap.size := (by omega)))
  refine bodyPost_ret (v := .tuple #[.agg #[.int .i64 3, .string ⟨x.toArray⟩], .int .i64 n]) ?_ rfl ⟨rfl, ?_⟩
  · (simp [results, Tryz.results143, go_sem, *]; done)
  repeat (first | (with_reducible exact Below.refl _ _) | ((with_reducible refine cSet1 ?_ ?_ _ _); (· ((try simp) <;> omega))) | (with_reducible refine Below.drew ?_) | ((with_reducible refine cAlloc ?_ ?_ _); (· ((try simp) <;> omega))) | ((with_reducible refine cOn (by assumption) ?_ ?_); (· ((try simp) <;> omega))))

set_option maxRecDepth 100000 in
set_option maxHeartbeats 800000 in
theorem fs_bad (s : ByteArray) (w : World) (h1 : 1 ≤ s.size) (hs : s.size ≤ 100000) (h0 : s[0] = 39) (hl : LibE w) (n : Nat) (hn : n = qN s.size (s.data.toList.drop 1)) (hle2 : n ≤ s.size) (hno : ∀ k i S, In64 i → mayB k i S = true → txtO k i S ≠ (s.extract 0 n).data.toList) :
    Calls Tryz.prog 143 #[.string s] w fun e w' => e = .returned (.tuple #[.agg #[.int .i64 0, .string ⟨#[]⟩], .int .i64 0]) ∧ Below w.heap.size w w' := by
  have HL := Lib.hid hl
  have HQ := Lib.hid (fun (W : World) => (show Calls Tryz.prog 167 #[.string s] W fun e w' => e = .returned (.int .i64 n) ∧ Below W.heap.size W w' by
    have := quoted_any s W h1 hs
    rw [← hn] at this
    exact this))
  have HP := Lib.hid (fun (W : World) (h : LibE W) => vparse_no (s.extract 0 n) W hno (by rw [ByteArray.size_extract]; omega) h)
  have hle : (n : Int) ≤ (s.size : Int) := by omega
  clear hno hn h0
  clear hl
  go_enter Tryz.func143, Tryz.ntmps143
  go_wp2_with (first
    | (go_at_call 167; refine (HQ.out _).mono ?_; rintro e w1 ⟨rfl, hb1⟩; have hc1 := (bcell hb1).1; have hf1 := (bcell hb1).2; have hy1 := hb1.size; (try simp at hy1); have hz1_0 : w.heap.size < w1.heap.size := (by omega); have hx1 : w.heap.size < w1.heap.size + 1 := (by omega); have hx2 : ¬ w.heap.size = w1.heap.size := (by omega))
    | (go_at_call 168; refine (HP.out _ (HL.out.keep (by repeat (first | (with_reducible exact Below.refl _ _) | ((with_reducible refine cSet3 ?_ ?_ _ _ _); (· ((try simp) <;> omega))) | (with_reducible refine Below.drew ?_) | ((with_reducible refine cAlloc ?_ ?_ _); (· ((try simp) <;> omega))) | ((with_reducible refine cOn (by assumption) ?_ ?_); (· ((try simp) <;> omega))))) (Nat.le_refl _))).mono ?_; rintro e w2 ⟨rfl, hb2⟩; have hc2 := (bcell hb2).1; have hf2 := (bcell hb2).2; have hy2 := hb2.size; (try simp at hy2); have hz2_0 : w.heap.size < w2.heap.size := (by omega)))
  refine bodyPost_ret (v := .tuple #[.agg #[.int .i64 0, .string ⟨#[]⟩], .int .i64 0]) ?_ rfl ⟨rfl, ?_⟩
  · (simp [results, Tryz.results143, go_sem, *]; done)
  repeat (first | (with_reducible exact Below.refl _ _) | ((with_reducible refine cSet1 ?_ ?_ _ _); (· ((try simp) <;> omega))) | (with_reducible refine Below.drew ?_) | ((with_reducible refine cAlloc ?_ ?_ _); (· ((try simp) <;> omega))) | ((with_reducible refine cOn (by assumption) ?_ ?_); (· ((try simp) <;> omega))))

theorem no_text_nil : ∀ k i S, In64 i → mayB k i S = true → txtO k i S ≠ [] := by
  intro k i S hi hm e
  cases four k i S hm with
  | null hk hi hs ht => rw [ht] at e; cases e
  | num hk hs ht => obtain ⟨c, l, e1, _⟩ := itoa_head i; rw [ht, e1] at e; cases e
  | text hk hi hz hc ht => rw [ht] at e; cases e
  | no hk hi hs ht => rw [ht] at e; cases e
  | yes hk hi hs ht => rw [ht] at e; cases e
/-- What the document of tokens says of a text's beginning, as the program hands it on. -/
def tkV (t : Option (Tk × Nat)) : Value := match t with
  | none => .tuple #[.agg #[.int .i64 0, .string ⟨#[]⟩], .int .i64 0]
  | some (t, n) => .tuple #[.agg #[.int .i64 t.k, .string ⟨t.s.toArray⟩], .int .i64 n]
theorem list_head {s : ByteArray} (h : 0 < s.size) : ∃ r, s.data.toList = s[0] :: r ∧ r = s.data.toList.drop 1 := by
  have h3 : 0 < s.data.toList.length := by rw [← Lib.size_eq]; omega
  exact ⟨_, (List.drop_eq_getElem_cons h3), rfl⟩
theorem firstString_any (s : ByteArray) (w : World) (h1 : 1 ≤ s.size) (hs : s.size ≤ 100000) (h0 : s[0] = 39) (hl : LibE w) :
    Calls Tryz.prog 143 #[.string s] w fun e w' => e = .returned (tkV (fst s.data.toList)) ∧ Below w.heap.size w w' := by
  obtain ⟨r0, e0, er⟩ := list_head h1
  rw [h0] at e0
  have e1 : fst s.data.toList = match qscan (s.data.toList.drop 1) with
      | none => none
      | some (x, t) => if mayB 2 0 ⟨x.toArray⟩ then some (⟨3, x⟩, s.size - t.length) else none := by
    rw [Lib.size_eq, e0]
    simp [fst]
    cases qscan r0 <;> rfl
  cases hq : qscan (s.data.toList.drop 1) with
  | none =>
    rw [hq] at e1
    rw [e1]
    have hz : qN s.size (s.data.toList.drop 1) = 0 := by unfold qN; rw [hq]
    exact fs_bad s w h1 hs h0 hl 0 hz.symm (by omega) (by rw [take_list]; simpa using no_text_nil)
  | some y =>
    obtain ⟨x, r⟩ := y
    rw [hq] at e1
    simp only at e1
    cases hm : mayB 2 0 ⟨x.toArray⟩ with
    | true =>
      rw [hm] at e1
      rw [e1]
      exact fs_yes s w h1 hs h0 hl _ x r hq hm rfl
    | false =>
      rw [hm] at e1
      rw [e1]
      obtain ⟨q1, q2⟩ := qN_some h1 hq
      refine fs_bad s w h1 hs h0 hl (s.size - r.length) q1.symm (by omega) fun k i S hi hmm e => ?_
      rw [quote_cut h1 h0 hq] at e
      rw [quote_only hmm e] at hm
      cases hm

end Go.Proofs.YtchebhdndkaheaaGreatDoor
