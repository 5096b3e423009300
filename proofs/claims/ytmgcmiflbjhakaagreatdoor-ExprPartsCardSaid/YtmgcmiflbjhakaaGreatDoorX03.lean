import Derived.Test.YtmgcmiflbjhakaaGreatDoorX02

/- The law ExprParts: its walk. -/
namespace Go.Proofs.YtmgcmiflbjhakaaGreatDoor
open Go.RowKit Go.Lib

set_option maxRecDepth 100000 in
set_option maxHeartbeats 4000000 in
theorem law_parts (op : ByteArray) (k i : Int) (vs s : ByteArray) (B : Option Addr) (p q : Nat) (op2 : ByteArray) (k2 i2 : Int) (vs2 s2 : ByteArray) (B2 : Option Addr) (p2 q2 : Nat) (A : Option Addr) (n c : Nat) (l : List Cl) (A' : Option Addr) (m c' : Nat) (row : List Vl) (w : World) (hL : LibE w)
    (he : op.size ≤ maxLen ∧ vs.size ≤ maxLen ∧ s.size ≤ maxLen ∧ In64 i ∧ InL w w.heap.size 14 (.slice B p q)) (hg : op2.size ≤ maxLen ∧ vs2.size ≤ maxLen ∧ s2.size ≤ maxLen ∧ In64 i2 ∧ InL w w.heap.size 14 (.slice B2 p2 q2)) (hc : ColS w A n l) (hcs : ∀ x ∈ l, x.n.size ≤ maxLen) (hm : m ≤ maxLen) (hv : Vals w w.heap.size A' m row) (hvs : ∀ x ∈ row, x.s.size ≤ maxLen) (hvi : ∀ x ∈ row, In64 x.i) :
    Calls Tryz.prog 3 #[.agg #[.string op, .int .i64 k, .int .i64 i, .string vs, .string s, .slice B p q, .string op2, .int .i64 k2, .int .i64 i2, .string vs2, .string s2, .slice B2 p2 q2, .slice A n c, .slice A' m c']] w fun e w' => e = .returned (.bool true) ∧ Below w.heap.size w w' := by
  have HL := Lib.hid hL
  have HE := Lib.hid he
  have HG := Lib.hid hg
  have HC := Lib.hid (And.intro hc hcs)
  have HV := Lib.hid (And.intro hm (And.intro hv hvs))
  have HVI := Lib.hid (ok_few hvi)
  clear hL he hg hc hcs hv hvs hm hvi
  go_enter Tryz.func3, Tryz.ntmps3
  go_upto_region 1 with (fail)
  refine wp_gen (fun W => Below w.heap.size w W ∧ W.heap[w.heap.size]? = some (.cells #[.string op, .int .i64 k, .int .i64 i, .string vs, .string s, .slice B p q, .string op2, .int .i64 k2, .int .i64 i2, .string vs2, .string s2, .slice B2 p2 q2, .slice A n c, .slice A' m c'] 30 (0, 0))) ⟨(Below.refl _ _).alloc (Nat.le_refl _) _, alloc_at rfl _⟩ fun w0 hw0 => ?_
  have HB0 := Lib.hid hw0.1
  have q0' := Lib.cell_of_heap hw0.2 0
  have q1' := Lib.cell_of_heap hw0.2 1
  have q2' := Lib.cell_of_heap hw0.2 2
  have q3' := Lib.cell_of_heap hw0.2 3
  have q4' := Lib.cell_of_heap hw0.2 4
  have q5' := Lib.cell_of_heap hw0.2 5
  have q6' := Lib.cell_of_heap hw0.2 6
  have q7' := Lib.cell_of_heap hw0.2 7
  have q8' := Lib.cell_of_heap hw0.2 8
  have q9' := Lib.cell_of_heap hw0.2 9
  have q10' := Lib.cell_of_heap hw0.2 10
  have q11' := Lib.cell_of_heap hw0.2 11
  have q12' := Lib.cell_of_heap hw0.2 12
  have q13' := Lib.cell_of_heap hw0.2 13
  simp only [List.getElem?_toArray, List.getElem?_cons_zero, List.getElem?_cons_succ] at q0' q1' q2' q3' q4' q5' q6' q7' q8' q9' q10' q11' q12' q13'
  have hz0 : w.heap.size < w0.heap.size := lt_of_block hw0.2
  clear hw0
  have F1 : Hid (∀ W, Below w0.heap.size w0 W → Calls Tryz.prog 9 #[.agg #[.string op, .int .i64 k, .int .i64 i, .string vs, .string s, .slice B p q]] W fun e w' => (∃ t u, e = .returned (EVt t u) ∧ okT t ∧ Tr w' (fun b => W.heap.size ≤ b) 14 t u) ∧ Below W.heap.size W w') := fun W hb =>
    have hb' := HB0.out.trans (hb.mono HB0.out.size)
    few4_any op k i vs s _ W HE.out.1 HE.out.2.1 HE.out.2.2.1 HE.out.2.2.2.1 (InL.more hb'.size (InL.keep hb' HE.out.2.2.2.2))
  have F2 : Hid (∀ W, Below w0.heap.size w0 W → Calls Tryz.prog 9 #[.agg #[.string op2, .int .i64 k2, .int .i64 i2, .string vs2, .string s2, .slice B2 p2 q2]] W fun e w' => (∃ t u, e = .returned (EVt t u) ∧ okT t ∧ Tr w' (fun b => W.heap.size ≤ b) 14 t u) ∧ Below W.heap.size W w') := fun W hb =>
    have hb' := HB0.out.trans (hb.mono HB0.out.size)
    few4_any op2 k2 i2 vs2 s2 _ W HG.out.1 HG.out.2.1 HG.out.2.2.1 HG.out.2.2.2.1 (InL.more hb'.size (InL.keep hb' HG.out.2.2.2.2))
  have F3 : Hid (∀ W, Below w0.heap.size w0 W → Calls Tryz.prog 10 #[.slice A n c] W fun e w' => (∃ A' n' c' cs, e = .returned (.slice A' n' c') ∧ ColS w' A' n' cs ∧ ∀ a, A' = some a → W.heap.size ≤ a.block) ∧ Below W.heap.size W w') := fun W hb =>
    have hb' := HB0.out.trans (hb.mono HB0.out.size)
    cols_any A n c l W (HC.out.1.below hb') HC.out.2
  have F4 : Hid (∀ W, Below w0.heap.size w0 W → Calls Tryz.prog 11 #[.slice A' m c'] W fun e w' => ∃ v, e = .returned v ∧ w'.ownsRow W.heap.size 23 3 v (fewL row).length (cellsOf (fewL row)) ∧ Below W.heap.size W w') := fun W hb =>
    have hb' := HB0.out.trans (hb.mono HB0.out.size)
    few2_any A' m c' row W HV.out.1 (HV.out.2.1.below hb') HV.out.2.2
  refine detL_begin [.val (.pointer (some ⟨w.heap.size, 0, none⟩)), .val (.agg #[.string op, .int .i64 k, .int .i64 i, .string vs, .string s, .slice B p q]), .rel fewRl, .val (.pointer (some ⟨w.heap.size, 6, none⟩)), .val (.agg #[.string op2, .int .i64 k2, .int .i64 i2, .string vs2, .string s2, .slice B2 p2 q2]), .rel fewRl, .val (.pointer (some ⟨w.heap.size, 12, none⟩)), .val (.slice A n c), .rel colsRl, .val (.pointer (some ⟨w.heap.size, 13, none⟩)), .val (.slice A' m c'), .rel (valsRl (fewL row)), .rel newE, .rel newE] 14 (by kernel_rfl) ?_
  refine detL_val (by kernel_rfl) (yields_of rfl fun w1 hb1 => ?_) ?_
  · have hc1 := bcellD hb1
    have HBx := Lib.hid hb1
    clear hb1
    go_simp
    exact Det1_same
  simp only [Act.put, List.setIfInBounds_toArray, List.set_cons_zero, List.set_cons_succ]
  refine detL_val (by kernel_rfl) (yields_of rfl fun w1 hb1 => ?_) ?_
  · have hc1 := bcellD hb1
    have HBx := Lib.hid hb1
    clear hb1
    go_simp
    exact Det1_same
  simp only [Act.put, List.setIfInBounds_toArray, List.set_cons_zero, List.set_cons_succ]
  refine detL_rel (by kernel_rfl) (yields_rel (by rfl) fewRl_lasting fun w1 hw1 => ?_) ?_
  · have hb1 := hw1.below
    have hc1 := bcellD hb1
    have HBx := Lib.hid hb1
    clear hb1 hw1
    go_simp
    exact fewRl_enter (F1.out _ ((Below.refl _ _).drew.trans HBx.out))
  rintro v G1 w1 hw1
  obtain ⟨t1, B1, q1, p1, rfl, -⟩ := (hw1.ents _ List.mem_cons_self).1
  clear hw1
  simp only [Act.put, List.setIfInBounds_toArray, List.set_cons_zero, List.set_cons_succ]
  refine detL_val (by kernel_rfl) (yields_of rfl fun w1 hb1 => ?_) ?_
  · have hc1 := bcellD hb1
    have HBx := Lib.hid hb1
    clear hb1
    go_simp
    exact Det1_same
  simp only [Act.put, List.setIfInBounds_toArray, List.set_cons_zero, List.set_cons_succ]
  refine detL_val (by kernel_rfl) (yields_of rfl fun w1 hb1 => ?_) ?_
  · have hc1 := bcellD hb1
    have HBx := Lib.hid hb1
    clear hb1
    go_simp
    exact Det1_same
  simp only [Act.put, List.setIfInBounds_toArray, List.set_cons_zero, List.set_cons_succ]
  refine detL_rel (by kernel_rfl) (yields_rel (by rfl) fewRl_lasting fun w1 hw1 => ?_) ?_
  · have hb1 := hw1.below
    have hc1 := bcellD hb1
    have HBx := Lib.hid hb1
    clear hb1 hw1
    go_simp
    exact fewRl_enter (F2.out _ ((Below.refl _ _).drew.trans HBx.out))
  rintro v G2 w1 hw1
  obtain ⟨t2, B3, q3, p3, rfl, -⟩ := (hw1.ents _ List.mem_cons_self).1
  clear hw1
  simp only [Act.put, List.setIfInBounds_toArray, List.set_cons_zero, List.set_cons_succ]
  refine detL_val (by kernel_rfl) (yields_of rfl fun w1 hb1 => ?_) ?_
  · have hc1 := bcellD hb1
    have HBx := Lib.hid hb1
    clear hb1
    go_simp
    exact Det1_same
  simp only [Act.put, List.setIfInBounds_toArray, List.set_cons_zero, List.set_cons_succ]
  refine detL_val (by kernel_rfl) (yields_of rfl fun w1 hb1 => ?_) ?_
  · have hc1 := bcellD hb1
    have HBx := Lib.hid hb1
    clear hb1
    go_simp
    exact Det1_same
  simp only [Act.put, List.setIfInBounds_toArray, List.set_cons_zero, List.set_cons_succ]
  refine detL_rel (by kernel_rfl) (yields_rel (by rfl) colsRl_lasting fun w1 hw1 => ?_) ?_
  · have hb1 := hw1.below
    have hc1 := bcellD hb1
    have HBx := Lib.hid hb1
    clear hb1 hw1
    go_simp
    exact colsRl_enter (F3.out _ ((Below.refl _ _).drew.trans HBx.out))
  rintro v G3 w1 hw1
  obtain ⟨A2, n2, c2, cs, rfl, -⟩ := (hw1.ents _ List.mem_cons_self).1
  clear hw1
  simp only [Act.put, List.setIfInBounds_toArray, List.set_cons_zero, List.set_cons_succ]
  refine detL_val (by kernel_rfl) (yields_of rfl fun w1 hb1 => ?_) ?_
  · have hc1 := bcellD hb1
    have HBx := Lib.hid hb1
    clear hb1
    go_simp
    exact Det1_same
  simp only [Act.put, List.setIfInBounds_toArray, List.set_cons_zero, List.set_cons_succ]
  refine detL_val (by kernel_rfl) (yields_of rfl fun w1 hb1 => ?_) ?_
  · have hc1 := bcellD hb1
    have HBx := Lib.hid hb1
    clear hb1
    go_simp
    exact Det1_same
  simp only [Act.put, List.setIfInBounds_toArray, List.set_cons_zero, List.set_cons_succ]
  refine detL_rel (by kernel_rfl) (yields_rel (by rfl) valsRl_lasting fun w1 hw1 => ?_) ?_
  · have hb1 := hw1.below
    have hc1 := bcellD hb1
    have HBx := Lib.hid hb1
    clear hb1 hw1
    go_simp
    exact valsRl_enter (F4.out _ ((Below.refl _ _).drew.trans HBx.out))
  rintro v G4 w1 hw1
  obtain ⟨A3, m3, c3, rfl, -⟩ := (hw1.ents _ List.mem_cons_self).1
  clear hw1
  simp only [Act.put, List.setIfInBounds_toArray, List.set_cons_zero, List.set_cons_succ]
  refine detL_rel (by kernel_rfl) (yields_rel (by rfl) newE_lasting fun w1 hw1 => ?_) ?_
  · have hb1 := hw1.below
    have hc1 := bcellD hb1
    have HBx := Lib.hid hb1
    clear hb1 hw1
    go_simp
    exact newE_made
  rintro v G5 w1 hw1
  obtain ⟨d0, rfl, rfl, -⟩ := (hw1.ents _ List.mem_cons_self).1
  clear hw1
  simp only [Act.put, List.setIfInBounds_toArray, List.set_cons_zero, List.set_cons_succ]
  refine detL_rel (by kernel_rfl) (yields_rel (by rfl) newE_lasting fun w1 hw1 => ?_) ?_
  · have hb1 := hw1.below
    have hc1 := bcellD hb1
    have HBx := Lib.hid hb1
    clear hb1 hw1
    go_simp
    exact newE_made
  rintro v G6 w1 hw1
  obtain ⟨d1, rfl, rfl, -⟩ := (hw1.ents _ List.mem_cons_self).1
  clear hw1
  simp only [Act.put, List.setIfInBounds_toArray, List.set_cons_zero, List.set_cons_succ]
  refine detL_tail rfl (by kernel_rfl) fun w11 hw11 => ?_
  have y1 := hw11.ents _ List.mem_cons_self
  have y0 := hw11.ents _ (List.mem_cons_of_mem _ List.mem_cons_self)
  have yv := hw11.ents _ (List.mem_cons_of_mem _ (List.mem_cons_of_mem _ List.mem_cons_self))
  have yc := hw11.ents _ (List.mem_cons_of_mem _ (List.mem_cons_of_mem _ (List.mem_cons_of_mem _ List.mem_cons_self)))
  have yg := hw11.ents _ (List.mem_cons_of_mem _ (List.mem_cons_of_mem _ (List.mem_cons_of_mem _ (List.mem_cons_of_mem _ List.mem_cons_self))))
  have ye := hw11.ents _ (List.mem_cons_of_mem _ (List.mem_cons_of_mem _ (List.mem_cons_of_mem _ (List.mem_cons_of_mem _ (List.mem_cons_of_mem _ List.mem_cons_self)))))
  have hw0' := HB0.out.size
  have Z1 := newE_at y1.1
  have Z0 := newE_at y0.1
  have m1 : w.heap.size ≤ d1 := Nat.le_trans hw0' (y1.2.2 d1 List.mem_cons_self).1
  have m0 : w.heap.size ≤ d0 := Nat.le_trans hw0' (y0.2.2 d0 List.mem_cons_self).1
  obtain ⟨l1, hk1, ht1⟩ := fewRl_at ye.1
  obtain ⟨l2, hk2, ht2⟩ := fewRl_at yg.1
  obtain ⟨cs, hcs, hca⟩ := colsRl_at yc.1
  obtain ⟨hva, hm3, hvb⟩ := valsRl_at yv.1
  have ap := hw11.apart
  simp only [List.pairwise_cons, List.mem_cons, List.not_mem_nil, or_false, forall_eq, forall_eq_or_imp] at ap
  obtain ⟨⟨a10, a14, a13, a12, a11⟩, ⟨a04, a03, a02, a01⟩, -⟩ := ap
  have HB11 : Hid (Below w.heap.size w w11) := HB0.out.drew.trans (hw11.below.mono hw0')
  clear hw11 y1 y0 yv yc yg ye q0' q1' q2' q3' q4' q5' q6' q7' q8' q9' q10' q11' q12' q13' F1 F2 F3 F4 HE HG HC HV
  have H11 := Lib.hid (Par.start (c := 0) (c' := 0) (t1 := .mk t1.op ⟨t1.x.k, t1.x.i, t1.x.s⟩ t1.s l1) (t2 := .mk t2.op ⟨t2.x.k, t2.x.i, t2.x.s⟩ t2.s l2) HB11.out m0 m1 (Ne.symm a10) Z0 Z1 ht1 ht2 hcs hca hva hvb a01 a11 a02 a12 a03 a13 a04 a14)
  have f0 := Lib.frozen_of_heap Z0
  have f1 := Lib.frozen_of_heap Z1
  have EZ0 := box_cells (t := zT) Z0
  have EZ1 := box_cells (t := zT) Z1
  have e00 := EZ0.c0
  have e01 := EZ0.c1
  have e02 := EZ0.c2
  have e03 := EZ0.c3
  have e04 := EZ0.c4
  have e05 := EZ0.c5
  have e10 := EZ1.c0
  have e11 := EZ1.c1
  have e12 := EZ1.c2
  have e13 := EZ1.c3
  have e14 := EZ1.c4
  have e15 := EZ1.c5
  simp only [Nat.zero_add] at e00 e01 e02 e03 e04 e05 e10 e11 e12 e13 e14 e15
  have a01' : ¬ d0 = d1 := Ne.symm a10
  clear EZ0 EZ1 ht1 ht2 hcs hca hva hvb a14 a13 a12 a11 a04 a03 a02 a01
  go_upto_region 2 with (fail)
  refine wp_gen (Par w d0 d1 (.mk t1.op ⟨t1.x.k, t1.x.i, t1.x.s⟩ t1.s l1) (.slice B1 p1 q1) (.mk t2.op ⟨t2.x.k, t2.x.i, t2.x.s⟩ t2.s l2) (.slice B3 p3 q3) A2 n2 cs A3 m3 (fewL row)) H11.out fun w1 hw1 => ?_
  obtain ⟨T1, HT1⟩ : ∃ T, Hid (Ex.mk t1.op ⟨t1.x.k, t1.x.i, t1.x.s⟩ t1.s l1 = T) := ⟨_, Lib.hid rfl⟩
  obtain ⟨T2, HT2⟩ : ∃ T, Hid (Ex.mk t2.op ⟨t2.x.k, t2.x.i, t2.x.s⟩ t2.s l2 = T) := ⟨_, Lib.hid rfl⟩
  rw [HT1.out, HT2.out] at hw1
  rw [HT1.out] at hk1
  rw [HT2.out] at hk2
  have H1 := Lib.hid hw1
  have HM := Lib.hid hm3
  have HK := Lib.hid (And.intro hk1 hk2)
  clear hw1 H11 hm3 hk1 hk2 f0 f1 Z0 Z1 e00 e01 e02 e03 e04 e05 e10 e11 e12 e13 e14 e15 m0 m1 a10 a01' HB11 hw0' hz0
  have x0 := H1.out.b0.c0
  have x1 := H1.out.b0.c1
  have x2 := H1.out.b0.c2
  have x3 := H1.out.b0.c3
  have x4 := H1.out.b0.c4
  have x5 := H1.out.b0.c5
  have z0 := H1.out.b1.c0
  have z1 := H1.out.b1.c1
  have z2 := H1.out.b1.c2
  have z3 := H1.out.b1.c3
  have z4 := H1.out.b1.c4
  have z5 := H1.out.b1.c5
  simp only [Nat.zero_add] at x0 x1 x2 x3 x4 x5 z0 z1 z2 z3 z4 z5
  have lx : d0 < _ := H1.out.b0.lt
  have lz : d1 < _ := H1.out.b1.lt
  have ME1 : Hid (∀ W z, Below w1.heap.size w1 W → mayT T1 = z → Calls Tryz.prog 12 #[.agg #[.string T1.op, .int .i64 T1.x.k, .int .i64 T1.x.i, .string T1.x.s, .string T1.s, .slice B1 p1 q1]] W fun e w' => e = .returned (.bool z) ∧ Below W.heap.size W w') := fun W z hb hz => by subst hz; exact emay_any _ _ T1 _ W (H1.out.tr1.below hb)
  have ME2 : Hid (∀ W z, Below w1.heap.size w1 W → mayT T2 = z → Calls Tryz.prog 12 #[.agg #[.string T2.op, .int .i64 T2.x.k, .int .i64 T2.x.i, .string T2.x.s, .string T2.s, .slice B3 p3 q3]] W fun e w' => e = .returned (.bool z) ∧ Below W.heap.size W w') := fun W z hb hz => by subst hz; exact emay_any _ _ T2 _ W (H1.out.tr2.below hb)
  have HP1 : Hid (Below w.heap.size w w1) := Lib.hid H1.out.pl
  have hs1 : w.heap.size ≤ w1.heap.size := H1.out.pl.size
  cases hE : mayT T1 with
  | false =>
    go_wp2_with (first
      | (go_at_call 12; (with_reducible refine (ME1.out _ false (Below.refl _ _) hE).mono ?_); rintro e w8 ⟨rfl, hb8⟩; have HB8 : Hid (Below w.heap.size w w8) := HP1.out.trans (hb8.mono hs1); clear hb8)
      | (go_at_call 13; refine (awake4_any _ (HL.out.keep HB8.out (Nat.le_refl _))).mono ?_; rintro e w9 ⟨rfl, hb9⟩; have HB9 : Hid (Below w.heap.size w w9) := HB8.out.trans (hb9.mono HB8.out.size); clear hb9))
    go_ret
    exact ⟨rfl, HB9.out⟩
  | true =>
    cases hG : mayT T2 with
    | false =>
      go_wp2_with (first
        | (go_at_call 12; (with_reducible refine (ME1.out _ true (Below.refl _ _) hE).mono ?_); rintro e w8 ⟨rfl, hb8⟩; have hc8 := (bcell hb8).1; have M8 := Lib.hid hb8; clear hb8)
        | (go_at_call 12; (with_reducible refine (ME2.out _ false M8.out hG).mono ?_); rintro e w9 ⟨rfl, hb9⟩; have HB8 : Hid (Below w.heap.size w w9) := HP1.out.trans ((M8.out.trans (hb9.mono M8.out.size)).mono hs1); clear hb9 hc8)
        | (go_at_call 13; refine (awake4_any _ (HL.out.keep HB8.out (Nat.le_refl _))).mono ?_; rintro e w10 ⟨rfl, hb10⟩; have HB9 : Hid (Below w.heap.size w w10) := HB8.out.trans (hb10.mono HB8.out.size); clear hb10))
      go_ret
      exact ⟨rfl, HB9.out⟩
    | true =>
      go_upto_region 4 with (first
        | (go_at_call 12; (with_reducible refine (ME1.out _ true (Below.refl _ _) hE).mono ?_); rintro e w8 ⟨rfl, hb8⟩; have hc8 := (bcell hb8).1; have M8 := Lib.hid hb8; clear hb8)
        | (go_at_call 12; (with_reducible refine (ME2.out _ true M8.out hG).mono ?_); rintro e w3 ⟨rfl, hb9⟩; have M9 : Hid (Below w1.heap.size w1 w3) := M8.out.trans (hb9.mono M8.out.size); clear hb9 hc8))
      have H3 := Lib.hid (H1.out.later M9.out)
      clear x0 x1 x2 x3 x4 x5 z0 z1 z2 z3 z4 z5 lx lz
      clear ME1 ME2 M8 M9 HP1 hs1 H1
      have x0 := H3.out.b0.c0
      have x1 := H3.out.b0.c1
      have x2 := H3.out.b0.c2
      have x3 := H3.out.b0.c3
      have x4 := H3.out.b0.c4
      have x5 := H3.out.b0.c5
      have z0 := H3.out.b1.c0
      have z1 := H3.out.b1.c1
      have z2 := H3.out.b1.c2
      have z3 := H3.out.b1.c3
      have z4 := H3.out.b1.c4
      have z5 := H3.out.b1.c5
      simp only [Nat.zero_add] at x0 x1 x2 x3 x4 x5 z0 z1 z2 z3 z4 z5
      have lx : d0 < _ := H3.out.b0.lt
      have lz : d1 < _ := H3.out.b1.lt
      obtain ⟨x, HX⟩ : ∃ x, Hid (evalF cs (fewL row) 12 T1 = x) := ⟨_, Lib.hid rfl⟩
      obtain ⟨y, HY⟩ : ∃ y, Hid (evalF cs (fewL row) 12 T2 = y) := ⟨_, Lib.hid rfl⟩
      have HOX : Hid (okV x) := by rw [← HX.out]; exact ok_eval cs (fewL row) HVI.out 12 T1 (HK.out.1 12)
      have HOY : Hid (okV y) := by rw [← HY.out]; exact ok_eval cs (fewL row) HVI.out 12 T2 (HK.out.2 12)
      have V1 : Hid (∀ W, Below w3.heap.size w3 W → Calls Tryz.prog 14 #[.agg #[.string T1.op, .int .i64 T1.x.k, .int .i64 T1.x.i, .string T1.x.s, .string T1.s, .slice B1 p1 q1], .slice A2 n2 c2, .slice A3 m3 c3] W fun e w' => e = .returned (.agg #[.int .i64 x.k, .int .i64 x.i, .string x.s]) ∧ Below W.heap.size W w') := fun W hb => by
        have := eval_yes A2 n2 c2 cs A3 m3 c3 (fewL row) HM.out _ 14 T1 (.slice B1 p1 q1) W (H3.out.tr1.below hb) hE (H3.out.cols.below hb) (H3.out.vals.below hb)
        rw [HX.out] at this
        exact this
      have V2 : Hid (∀ W, Below w3.heap.size w3 W → Calls Tryz.prog 14 #[.agg #[.string T2.op, .int .i64 T2.x.k, .int .i64 T2.x.i, .string T2.x.s, .string T2.s, .slice B3 p3 q3], .slice A2 n2 c2, .slice A3 m3 c3] W fun e w' => e = .returned (.agg #[.int .i64 y.k, .int .i64 y.i, .string y.s]) ∧ Below W.heap.size W w') := fun W hb => by
        have := eval_yes A2 n2 c2 cs A3 m3 c3 (fewL row) HM.out _ 14 T2 (.slice B3 p3 q3) W (H3.out.tr2.below hb) hG (H3.out.cols.below hb) (H3.out.vals.below hb)
        rw [HY.out] at this
        exact this
      refine detL_begin [.val (.agg #[.string T1.op, .int .i64 T1.x.k, .int .i64 T1.x.i, .string T1.x.s, .string T1.s, .slice B1 p1 q1]), .val (.slice A2 n2 c2), .val (.slice A3 m3 c3), .val (.agg #[.int .i64 x.k, .int .i64 x.i, .string x.s]), .val (.agg #[.string T2.op, .int .i64 T2.x.k, .int .i64 T2.x.i, .string T2.x.s, .string T2.s, .slice B3 p3 q3]), .val (.slice A2 n2 c2), .val (.slice A3 m3 c3), .val (.agg #[.int .i64 y.k, .int .i64 y.i, .string y.s]), .rel newR, .rel newR] 10 (by kernel_rfl) ?_
      refine detL_val (by kernel_rfl) (yields_of rfl fun w1 hb1 => ?_) ?_
      · have hc1 := bcellD hb1
        have HBx := Lib.hid hb1
        clear hb1
        go_simp
        exact Det1_same
      simp only [Act.put, List.setIfInBounds_toArray, List.set_cons_zero, List.set_cons_succ]
      refine detL_val (by kernel_rfl) (yields_of rfl fun w1 hb1 => ?_) ?_
      · have hc1 := bcellD hb1
        have HBx := Lib.hid hb1
        clear hb1
        go_simp
        exact Det1_same
      simp only [Act.put, List.setIfInBounds_toArray, List.set_cons_zero, List.set_cons_succ]
      refine detL_val (by kernel_rfl) (yields_of rfl fun w1 hb1 => ?_) ?_
      · have hc1 := bcellD hb1
        have HBx := Lib.hid hb1
        clear hb1
        go_simp
        exact Det1_same
      simp only [Act.put, List.setIfInBounds_toArray, List.set_cons_zero, List.set_cons_succ]
      refine detL_val (by kernel_rfl) (yields_of rfl fun w1 hb1 => ?_) ?_
      · have hc1 := bcellD hb1
        have HBx := Lib.hid hb1
        clear hb1
        go_simp
        exact Det1_enter (V1.out _ ((Below.refl _ _).drew.trans HBx.out))
      simp only [Act.put, List.setIfInBounds_toArray, List.set_cons_zero, List.set_cons_succ]
      refine detL_val (by kernel_rfl) (yields_of rfl fun w1 hb1 => ?_) ?_
      · have hc1 := bcellD hb1
        have HBx := Lib.hid hb1
        clear hb1
        go_simp
        exact Det1_same
      simp only [Act.put, List.setIfInBounds_toArray, List.set_cons_zero, List.set_cons_succ]
      refine detL_val (by kernel_rfl) (yields_of rfl fun w1 hb1 => ?_) ?_
      · have hc1 := bcellD hb1
        have HBx := Lib.hid hb1
        clear hb1
        go_simp
        exact Det1_same
      simp only [Act.put, List.setIfInBounds_toArray, List.set_cons_zero, List.set_cons_succ]
      refine detL_val (by kernel_rfl) (yields_of rfl fun w1 hb1 => ?_) ?_
      · have hc1 := bcellD hb1
        have HBx := Lib.hid hb1
        clear hb1
        go_simp
        exact Det1_same
      simp only [Act.put, List.setIfInBounds_toArray, List.set_cons_zero, List.set_cons_succ]
      refine detL_val (by kernel_rfl) (yields_of rfl fun w1 hb1 => ?_) ?_
      · have hc1 := bcellD hb1
        have HBx := Lib.hid hb1
        clear hb1
        go_simp
        exact Det1_enter (V2.out _ ((Below.refl _ _).drew.trans HBx.out))
      simp only [Act.put, List.setIfInBounds_toArray, List.set_cons_zero, List.set_cons_succ]
      refine detL_rel (by kernel_rfl) (yields_rel (by rfl) newR_lasting fun w1 hw1 => ?_) ?_
      · have hb1 := hw1.below
        have hc1 := bcellD hb1
        have HBx := Lib.hid hb1
        clear hb1 hw1
        go_simp
        exact newR_made
      rintro v F w1 hw1
      obtain ⟨e0, rfl, rfl, -⟩ := (hw1.ents _ List.mem_cons_self).1
      clear hw1
      simp only [Act.put, List.setIfInBounds_toArray, List.set_cons_zero, List.set_cons_succ]
      refine detL_rel (by kernel_rfl) (yields_rel (by rfl) newR_lasting fun w1 hw1 => ?_) ?_
      · have hb1 := hw1.below
        have hc1 := bcellD hb1
        have HBx := Lib.hid hb1
        clear hb1 hw1
        go_simp
        exact newR_made
      rintro v F w1 hw1
      obtain ⟨e1, rfl, rfl, -⟩ := (hw1.ents _ List.mem_cons_self).1
      clear hw1
      simp only [Act.put, List.setIfInBounds_toArray, List.set_cons_zero, List.set_cons_succ]
      refine detL_tail rfl (by kernel_rfl) fun w11 hw11 => ?_
      have y1 := hw11.ents _ List.mem_cons_self
      have y0 := hw11.ents _ (List.mem_cons_of_mem _ List.mem_cons_self)
      have D1 := (newR_at y1.1).1
      have D0 := (newR_at y0.1).1
      have fz1 := (newR_at y1.1).2
      have fz0 := (newR_at y0.1).2
      have l1 : w3.heap.size ≤ e1 := (y1.2.2 e1 List.mem_cons_self).1
      have l0 : w3.heap.size ≤ e0 := (y0.2.2 e0 List.mem_cons_self).1
      have ap := hw11.apart
      simp only [List.pairwise_cons, List.mem_cons, List.not_mem_nil, or_false, forall_eq, forall_eq_or_imp] at ap
      obtain ⟨d10, -⟩ := ap
      have HB11 : Hid (Below w3.heap.size w3 w11) := (Below.refl _ _).drew.trans hw11.below
      clear hw11 y1 y0
      clear x0 x1 x2 x3 x4 x5 z0 z1 z2 z3 z4 z5 lx lz
      have HH := Lib.hid (And.intro D0 D1)
      have g0k := D0.k
      have g0i := D0.i
      have g0s := D0.s
      have g1k := D1.k
      have g1i := D1.i
      have g1s := D1.s
      clear D0 D1
      go_upto_region 5 with (fail)
      refine wp_gen (Par2 w d0 d1 T1 (.slice B1 p1 q1) T2 (.slice B3 p3 q3) A2 n2 cs A3 m3 (fewL row) e0 e1 x y) ⟨H3.out.later ?_, ?_, ?_⟩ fun w4 hw4 => ?_
      · exact cSet3 l1 (cSet3 l0 HB11.out _ _ _) _ _ _
      · exact At3.set_other' d10 (At3.set_same HH.out.1 _ _ _) _ _ _
      · exact At3.set_same (At3.set_other' (Ne.symm d10) HH.out.2 _ _ _) _ _ _
      have H4 := Lib.hid hw4
      clear hw4 H3 g0k g0i g0s g1k g1i g1s HH HB11 l0 l1 d10 fz0 fz1 V1 V2
      have g0k := H4.out.x.k
      have g0i := H4.out.x.i
      have g0s := H4.out.x.s
      have g1k := H4.out.y.k
      have g1i := H4.out.y.i
      have g1s := H4.out.y.s
      have l0 := H4.out.x.lt
      have l1 := H4.out.y.lt
      have hmm := @run_makeMap Tryz.prog
      refine detJ_begin [.mk, .val (.agg #[.int .i64 x.k, .int .i64 x.i, .string x.s]), .val (.agg #[.int .i64 y.k, .int .i64 y.i, .string y.s]), .val (.agg #[.int .i64 (andV x y).k, .int .i64 (andV x y).i, .string (andV x y).s]), .ins ⟨#[97, 110, 100]⟩ (.agg #[.int .i64 (andV x y).k, .int .i64 (andV x y).i, .string (andV x y).s]), .val (.agg #[.int .i64 x.k, .int .i64 x.i, .string x.s]), .val (.agg #[.int .i64 y.k, .int .i64 y.i, .string y.s]), .val (.agg #[.int .i64 (orV x y).k, .int .i64 (orV x y).i, .string (orV x y).s]), .ins ⟨#[111, 114]⟩ (.agg #[.int .i64 (orV x y).k, .int .i64 (orV x y).i, .string (orV x y).s]), .val (.agg #[.int .i64 x.k, .int .i64 x.i, .string x.s]), .val (.agg #[.int .i64 y.k, .int .i64 y.i, .string y.s]), .val (.agg #[.int .i64 (eqV x y).k, .int .i64 (eqV x y).i, .string (eqV x y).s]), .ins ⟨#[61]⟩ (.agg #[.int .i64 (eqV x y).k, .int .i64 (eqV x y).i, .string (eqV x y).s]), .val (.agg #[.int .i64 x.k, .int .i64 x.i, .string x.s]), .val (.agg #[.int .i64 y.k, .int .i64 y.i, .string y.s]), .val (.agg #[.int .i64 (lessV x y).k, .int .i64 (lessV x y).i, .string (lessV x y).s]), .ins ⟨#[60]⟩ (.agg #[.int .i64 (lessV x y).k, .int .i64 (lessV x y).i, .string (lessV x y).s]), .val (.agg #[.int .i64 x.k, .int .i64 x.i, .string x.s]), .val (.agg #[.int .i64 y.k, .int .i64 y.i, .string y.s]), .val (.agg #[.int .i64 (plusV x y).k, .int .i64 (plusV x y).i, .string (plusV x y).s]), .ins ⟨#[43]⟩ (.agg #[.int .i64 (plusV x y).k, .int .i64 (plusV x y).i, .string (plusV x y).s]), .val (.agg #[.int .i64 x.k, .int .i64 x.i, .string x.s]), .val (.agg #[.int .i64 y.k, .int .i64 y.i, .string y.s]), .val (.agg #[.int .i64 (minusV x y).k, .int .i64 (minusV x y).i, .string (minusV x y).s]), .ins ⟨#[45]⟩ (.agg #[.int .i64 (minusV x y).k, .int .i64 (minusV x y).i, .string (minusV x y).s])] 25 (by kernel_rfl) ?_
      refine detJ_mk (by kernel_rfl) rfl (fun w => ?_) fun g => ?_
      · go_simp
      simp only [Act.put, List.setIfInBounds_toArray, List.set_cons_zero, List.set_cons_succ]
      refine detJ_val (by kernel_rfl) rfl (fun w1 hb1 => ?_) ?_
      · have hc1 := bcellD hb1
        clear hb1
        go_simp
        exact Det1_same
      simp only [Act.put, List.setIfInBounds_toArray, List.set_cons_zero, List.set_cons_succ]
      refine detJ_val (by kernel_rfl) rfl (fun w1 hb1 => ?_) ?_
      · have hc1 := bcellD hb1
        clear hb1
        go_simp
        exact Det1_same
      simp only [Act.put, List.setIfInBounds_toArray, List.set_cons_zero, List.set_cons_succ]
      refine detJ_val (by kernel_rfl) rfl (fun w1 hb1 => ?_) ?_
      · have hc1 := bcellD hb1
        clear hb1
        go_simp
        exact Det1_enter (rvand x y _)
      simp only [Act.put, List.setIfInBounds_toArray, List.set_cons_zero, List.set_cons_succ]
      refine detJ_ins (by kernel_rfl) rfl (t := 38) (k := 9) (e := 23) Tryz.underlying38 Tryz.underlying9 rfl rfl rfl rfl (nin_nil) ?_
      simp only [Act.put, List.setIfInBounds_toArray, List.set_cons_zero, List.set_cons_succ]
      refine detJ_val (by kernel_rfl) rfl (fun w1 hb1 => ?_) ?_
      · have hc1 := bcellD hb1
        clear hb1
        go_simp
        exact Det1_same
      simp only [Act.put, List.setIfInBounds_toArray, List.set_cons_zero, List.set_cons_succ]
      refine detJ_val (by kernel_rfl) rfl (fun w1 hb1 => ?_) ?_
      · have hc1 := bcellD hb1
        clear hb1
        go_simp
        exact Det1_same
      simp only [Act.put, List.setIfInBounds_toArray, List.set_cons_zero, List.set_cons_succ]
      refine detJ_val (by kernel_rfl) rfl (fun w1 hb1 => ?_) ?_
      · have hc1 := bcellD hb1
        clear hb1
        go_simp
        exact Det1_enter (rvor x y _)
      simp only [Act.put, List.setIfInBounds_toArray, List.set_cons_zero, List.set_cons_succ]
      refine detJ_ins (by kernel_rfl) rfl (t := 38) (k := 9) (e := 23) Tryz.underlying38 Tryz.underlying9 rfl rfl rfl rfl (nin_snoc (nin_nil) (by decide)) ?_
      simp only [Act.put, List.setIfInBounds_toArray, List.set_cons_zero, List.set_cons_succ]
      refine detJ_val (by kernel_rfl) rfl (fun w1 hb1 => ?_) ?_
      · have hc1 := bcellD hb1
        clear hb1
        go_simp
        exact Det1_same
      simp only [Act.put, List.setIfInBounds_toArray, List.set_cons_zero, List.set_cons_succ]
      refine detJ_val (by kernel_rfl) rfl (fun w1 hb1 => ?_) ?_
      · have hc1 := bcellD hb1
        clear hb1
        go_simp
        exact Det1_same
      simp only [Act.put, List.setIfInBounds_toArray, List.set_cons_zero, List.set_cons_succ]
      refine detJ_val (by kernel_rfl) rfl (fun w1 hb1 => ?_) ?_
      · have hc1 := bcellD hb1
        clear hb1
        go_simp
        exact Det1_enter (rveq x y _ HOX.out HOY.out)
      simp only [Act.put, List.setIfInBounds_toArray, List.set_cons_zero, List.set_cons_succ]
      refine detJ_ins (by kernel_rfl) rfl (t := 38) (k := 9) (e := 23) Tryz.underlying38 Tryz.underlying9 rfl rfl rfl rfl (nin_snoc (nin_snoc (nin_nil) (by decide)) (by decide)) ?_
      simp only [Act.put, List.setIfInBounds_toArray, List.set_cons_zero, List.set_cons_succ]
      refine detJ_val (by kernel_rfl) rfl (fun w1 hb1 => ?_) ?_
      · have hc1 := bcellD hb1
        clear hb1
        go_simp
        exact Det1_same
      simp only [Act.put, List.setIfInBounds_toArray, List.set_cons_zero, List.set_cons_succ]
      refine detJ_val (by kernel_rfl) rfl (fun w1 hb1 => ?_) ?_
      · have hc1 := bcellD hb1
        clear hb1
        go_simp
        exact Det1_same
      simp only [Act.put, List.setIfInBounds_toArray, List.set_cons_zero, List.set_cons_succ]
      refine detJ_val (by kernel_rfl) rfl (fun w1 hb1 => ?_) ?_
      · have hc1 := bcellD hb1
        clear hb1
        go_simp
        exact Det1_enter (rvless x y _ HOX.out HOY.out)
      simp only [Act.put, List.setIfInBounds_toArray, List.set_cons_zero, List.set_cons_succ]
      refine detJ_ins (by kernel_rfl) rfl (t := 38) (k := 9) (e := 23) Tryz.underlying38 Tryz.underlying9 rfl rfl rfl rfl (nin_snoc (nin_snoc (nin_snoc (nin_nil) (by decide)) (by decide)) (by decide)) ?_
      simp only [Act.put, List.setIfInBounds_toArray, List.set_cons_zero, List.set_cons_succ]
      refine detJ_val (by kernel_rfl) rfl (fun w1 hb1 => ?_) ?_
      · have hc1 := bcellD hb1
        clear hb1
        go_simp
        exact Det1_same
      simp only [Act.put, List.setIfInBounds_toArray, List.set_cons_zero, List.set_cons_succ]
      refine detJ_val (by kernel_rfl) rfl (fun w1 hb1 => ?_) ?_
      · have hc1 := bcellD hb1
        clear hb1
        go_simp
        exact Det1_same
      simp only [Act.put, List.setIfInBounds_toArray, List.set_cons_zero, List.set_cons_succ]
      refine detJ_val (by kernel_rfl) rfl (fun w1 hb1 => ?_) ?_
      · have hc1 := bcellD hb1
        clear hb1
        go_simp
        exact Det1_enter (rvplus x y _ HOX.out HOY.out)
      simp only [Act.put, List.setIfInBounds_toArray, List.set_cons_zero, List.set_cons_succ]
      refine detJ_ins (by kernel_rfl) rfl (t := 38) (k := 9) (e := 23) Tryz.underlying38 Tryz.underlying9 rfl rfl rfl rfl (nin_snoc (nin_snoc (nin_snoc (nin_snoc (nin_nil) (by decide)) (by decide)) (by decide)) (by decide)) ?_
      simp only [Act.put, List.setIfInBounds_toArray, List.set_cons_zero, List.set_cons_succ]
      refine detJ_val (by kernel_rfl) rfl (fun w1 hb1 => ?_) ?_
      · have hc1 := bcellD hb1
        clear hb1
        go_simp
        exact Det1_same
      simp only [Act.put, List.setIfInBounds_toArray, List.set_cons_zero, List.set_cons_succ]
      refine detJ_val (by kernel_rfl) rfl (fun w1 hb1 => ?_) ?_
      · have hc1 := bcellD hb1
        clear hb1
        go_simp
        exact Det1_same
      simp only [Act.put, List.setIfInBounds_toArray, List.set_cons_zero, List.set_cons_succ]
      refine detJ_val (by kernel_rfl) rfl (fun w1 hb1 => ?_) ?_
      · have hc1 := bcellD hb1
        clear hb1
        go_simp
        exact Det1_enter (rvminus x y _ HOX.out HOY.out)
      simp only [Act.put, List.setIfInBounds_toArray, List.set_cons_zero, List.set_cons_succ]
      refine detJ_ins (by kernel_rfl) rfl (t := 38) (k := 9) (e := 23) Tryz.underlying38 Tryz.underlying9 rfl rfl rfl rfl (nin_snoc (nin_snoc (nin_snoc (nin_snoc (nin_snoc (nin_nil) (by decide)) (by decide)) (by decide)) (by decide)) (by decide)) ?_
      simp only [Act.put, List.setIfInBounds_toArray, List.set_cons_zero, List.set_cons_succ]
      refine detJ_tail rfl (by kernel_rfl) fun w5 hw5 => ?_
      clear g0k g0i g0s g1k g1i g1s l0 l1 hmm
      go_upto_region 6 with (fail)
      refine wp_gen (fun W => Par2 w d0 d1 T1 (.slice B1 p1 q1) T2 (.slice B3 p3 q3) A2 n2 cs A3 m3 (fewL row) e0 e1 x y W ∧ ∃ l, MapSt W g l ∧ l.Perm (wants x y)) ⟨H4.out.later ((Below.refl _ _).drew.trans hw5.1), (hw5.2 g rfl).2⟩ fun w6 hw6 => ?_
      obtain ⟨h6, lm, hmp, hpm⟩ := hw6
      have H6 := Lib.hid h6
      have HMp := Lib.hid (And.intro hmp hpm)
      clear h6 hmp hpm hw5 H4
      go_wp2_with (at_range; refine wpList_range_st _ rfl _ 38 rfl 9 23 Tryz.underlying38 g lm rfl HMp.out.1 ?_; intro w7 cnt0 hrg0 hb7 hz7; have HR0 := Lib.hid (And.intro hrg0 hb7); clear hrg0 hb7 hz7)
      try go_frame
      go_loopw [10] (fun _ wr => ∃ cnt, RangeSt wr g w6.heap.size lm cnt ∧ Below w6.heap.size w6 wr) (fun _ wr => wr.rangeLeft g w6.heap.size)
      case atStart => exact ⟨cnt0, HR0.out.1, HR0.out.2⟩
      case round =>
        obtain ⟨cnt, hrg, hbw⟩ := hrel
        have HR := Lib.hid (And.intro hrg hbw)
        clear hrg hbw HR0
        have HW := Lib.hid (H6.out.later HR.out.2)
        have x0 := HW.out.base.b0.c0
        have x1 := HW.out.base.b0.c1
        have x2 := HW.out.base.b0.c2
        have x3 := HW.out.base.b0.c3
        have x4 := HW.out.base.b0.c4
        have x5 := HW.out.base.b0.c5
        have z0 := HW.out.base.b1.c0
        have z1 := HW.out.base.b1.c1
        have z2 := HW.out.base.b1.c2
        have z3 := HW.out.base.b1.c3
        have z4 := HW.out.base.b1.c4
        have z5 := HW.out.base.b1.c5
        simp only [Nat.zero_add] at x0 x1 x2 x3 x4 x5 z0 z1 z2 z3 z4 z5
        have lx : d0 < _ := HW.out.base.b0.lt
        have lz : d1 < _ := HW.out.base.b1.lt
        go_upto_region 13 with (at_next; refine wpList_next_st _ rfl _ rfl g w6.heap.size lm cnt rfl HR.out.1 ?_ ?_)
        · -- nothing is left
          refine wp_gen (fun W => Par2 w d0 d1 T1 (.slice B1 p1 q1) T2 (.slice B3 p3 q3) A2 n2 cs A3 m3 (fewL row) e0 e1 x y W ∧ ExC W ⟨wr.heap.size + 1, 0, none⟩ (oneT ⟨#[110, 111, 116]⟩ T1) (.slice (some ⟨wr.heap.size, 0, none⟩) 1 1) ∧ Tr W (fun _ => True) 15 (oneT ⟨#[110, 111, 116]⟩ T1) (.slice (some ⟨wr.heap.size, 0, none⟩) 1 1))
            ⟨HW.out.later (((Below.refl _ _).alloc (Nat.le_refl _) _).alloc (by simp) _), box_cells (t := oneT ⟨#[110, 111, 116]⟩ T1) (alloc_at (by simp) _), (one_tr ⟨#[110, 111, 116]⟩ HW.out.base.tr1 trivial).below ((Below.refl _ _).alloc (Nat.le_refl _) _)⟩ fun wn hwn => ?_
          have HN := Lib.hid hwn
          clear hwn HW
          clear x0 x1 x2 x3 x4 x5 z0 z1 z2 z3 z4 z5 lx lz
          have n0 : wn.cell? ⟨wr.heap.size + 1, 0, none⟩ = some (.string ⟨#[110, 111, 116]⟩) := by have := HN.out.2.1.c0; first | exact this | (simp only [Nat.zero_add] at this; exact this)
          have n1 : wn.cell? ⟨wr.heap.size + 1, 1, none⟩ = some (.int .i64 0) := by have := HN.out.2.1.c1; first | exact this | (simp only [Nat.zero_add] at this; exact this)
          have n2' : wn.cell? ⟨wr.heap.size + 1, 2, none⟩ = some (.int .i64 0) := by have := HN.out.2.1.c2; first | exact this | (simp only [Nat.zero_add] at this; exact this)
          have n3 : wn.cell? ⟨wr.heap.size + 1, 3, none⟩ = some (.string ⟨#[]⟩) := by have := HN.out.2.1.c3; first | exact this | (simp only [Nat.zero_add] at this; exact this)
          have n4 : wn.cell? ⟨wr.heap.size + 1, 4, none⟩ = some (.string ⟨#[]⟩) := by have := HN.out.2.1.c4; first | exact this | (simp only [Nat.zero_add] at this; exact this)
          have n5 : wn.cell? ⟨wr.heap.size + 1, 5, none⟩ = some (.slice (some ⟨wr.heap.size, 0, none⟩) 1 1) := by have := HN.out.2.1.c5; first | exact this | (simp only [Nat.zero_add] at this; exact this)
          have ln : wr.heap.size + 1 < wn.heap.size := HN.out.2.1.lt
          have gk := HN.out.1.x.k
          have gi := HN.out.1.x.i
          have gs := HN.out.1.x.s
          have gl := HN.out.1.x.lt
          have HPn : Hid (Below w.heap.size w wn) := Lib.hid HN.out.1.base.pl
          have AW : Hid (∀ W, Below wn.heap.size wn W → Calls Tryz.prog 13 #[] W fun e w' => e = .returned (.bool true) ∧ Below W.heap.size W w') := fun W hb => awake4_any W (HL.out.keep (HPn.out.trans (hb.mono HPn.out.size)) (Nat.le_refl _))
          have MN : Hid (∀ W z, Below wn.heap.size wn W → mayT (oneT ⟨#[110, 111, 116]⟩ T1) = z → Calls Tryz.prog 12 #[.agg #[.string ⟨#[110, 111, 116]⟩, .int .i64 0, .int .i64 0, .string ⟨#[]⟩, .string ⟨#[]⟩, .slice (some ⟨wr.heap.size, 0, none⟩) 1 1]] W fun e w' => e = .returned (.bool z) ∧ Below W.heap.size W w') := fun W z hb hz => by subst hz; exact emay_any _ _ (oneT ⟨#[110, 111, 116]⟩ T1) _ W (HN.out.2.2.below hb)
          cases hN : mayT (oneT ⟨#[110, 111, 116]⟩ T1) with
          | false =>
            refine detL_begin [.val (.agg #[.string ⟨#[110, 111, 116]⟩, .int .i64 0, .int .i64 0, .string ⟨#[]⟩, .string ⟨#[]⟩, .slice (some ⟨wr.heap.size, 0, none⟩) 1 1]), .val (.bool false), .val (.bool true), .val (.bool true), .val undef, .val undef, .val undef, .val undef, .val undef, .val undef, .val undef, .val (.bool true), .val (.bool true), .val (.bool true), .val (.bool true), .val (.bool true)] 16 (by kernel_rfl) ?_
            refine detL_val (by kernel_rfl) (yields_of rfl fun w1 hb1 => ?_) ?_
            · have hc1 := bcellD hb1
              have HBx := Lib.hid hb1
              clear hb1
              go_simp
              exact Det1_same
            simp only [Act.put, List.setIfInBounds_toArray, List.set_cons_zero, List.set_cons_succ]
            refine detL_val (by kernel_rfl) (yields_of rfl fun w1 hb1 => ?_) ?_
            · have hc1 := bcellD hb1
              have HBx := Lib.hid hb1
              clear hb1
              go_simp
              exact Det1_enter (MN.out _ false ((Below.refl _ _).drew.trans HBx.out) hN)
            simp only [Act.put, List.setIfInBounds_toArray, List.set_cons_zero, List.set_cons_succ]
            refine detL_val (by kernel_rfl) (yields_of rfl fun w1 hb1 => ?_) ?_
            · have hc1 := bcellD hb1
              have HBx := Lib.hid hb1
              clear hb1
              go_simp
              exact Det1_same
            simp only [Act.put, List.setIfInBounds_toArray, List.set_cons_zero, List.set_cons_succ]
            refine detL_val (by kernel_rfl) (yields_of rfl fun w1 hb1 => ?_) ?_
            · have hc1 := bcellD hb1
              have HBx := Lib.hid hb1
              clear hb1
              go_simp
              exact Det1_same
            simp only [Act.put, List.setIfInBounds_toArray, List.set_cons_zero, List.set_cons_succ]
            refine detL_val (by kernel_rfl) (yields_not rfl) ?_
            simp only [Act.put, List.setIfInBounds_toArray, List.set_cons_zero, List.set_cons_succ]
            refine detL_val (by kernel_rfl) (yields_not rfl) ?_
            simp only [Act.put, List.setIfInBounds_toArray, List.set_cons_zero, List.set_cons_succ]
            refine detL_val (by kernel_rfl) (yields_not rfl) ?_
            simp only [Act.put, List.setIfInBounds_toArray, List.set_cons_zero, List.set_cons_succ]
            refine detL_val (by kernel_rfl) (yields_not rfl) ?_
            simp only [Act.put, List.setIfInBounds_toArray, List.set_cons_zero, List.set_cons_succ]
            refine detL_val (by kernel_rfl) (yields_not rfl) ?_
            simp only [Act.put, List.setIfInBounds_toArray, List.set_cons_zero, List.set_cons_succ]
            refine detL_val (by kernel_rfl) (yields_not rfl) ?_
            simp only [Act.put, List.setIfInBounds_toArray, List.set_cons_zero, List.set_cons_succ]
            refine detL_val (by kernel_rfl) (yields_not rfl) ?_
            simp only [Act.put, List.setIfInBounds_toArray, List.set_cons_zero, List.set_cons_succ]
            refine detL_val (by kernel_rfl) (yields_of rfl fun w1 hb1 => ?_) ?_
            · have hc1 := bcellD hb1
              have HBx := Lib.hid hb1
              clear hb1
              go_simp
              exact Det1_same
            simp only [Act.put, List.setIfInBounds_toArray, List.set_cons_zero, List.set_cons_succ]
            refine detL_val (by kernel_rfl) (yields_of rfl fun w1 hb1 => ?_) ?_
            · have hc1 := bcellD hb1
              have HBx := Lib.hid hb1
              clear hb1
              go_simp
              exact Det1_same
            simp only [Act.put, List.setIfInBounds_toArray, List.set_cons_zero, List.set_cons_succ]
            refine detL_val (by kernel_rfl) (yields_of rfl fun w1 hb1 => ?_) ?_
            · have hc1 := bcellD hb1
              have HBx := Lib.hid hb1
              clear hb1
              go_simp
              exact Det1_enter (AW.out _ ((Below.refl _ _).drew.trans HBx.out))
            simp only [Act.put, List.setIfInBounds_toArray, List.set_cons_zero, List.set_cons_succ]
            refine detL_val (by kernel_rfl) (yields_of rfl fun w1 hb1 => ?_) ?_
            · have hc1 := bcellD hb1
              have HBx := Lib.hid hb1
              clear hb1
              go_simp
              exact Det1_same
            simp only [Act.put, List.setIfInBounds_toArray, List.set_cons_zero, List.set_cons_succ]
            refine detL_val (by kernel_rfl) (yields_of rfl fun w1 hb1 => ?_) ?_
            · have hc1 := bcellD hb1
              have HBx := Lib.hid hb1
              clear hb1
              go_simp
              exact Det1_same
            simp only [Act.put, List.setIfInBounds_toArray, List.set_cons_zero, List.set_cons_succ]
            refine detL_done (by kernel_rfl) fun w12 hw12 => ?_
            have HZ12 : Hid (Below w.heap.size w w12) := HPn.out.trans (((Below.refl _ _).drew.trans hw12.below).mono HPn.out.size)
            clear hw12
            go_wp2
            go_ret
            exact ⟨rfl, HZ12.out⟩
          | true =>
            have VN : Hid (∀ W, Below wn.heap.size wn W → Calls Tryz.prog 14 #[.agg #[.string ⟨#[110, 111, 116]⟩, .int .i64 0, .int .i64 0, .string ⟨#[]⟩, .string ⟨#[]⟩, .slice (some ⟨wr.heap.size, 0, none⟩) 1 1], .slice A2 n2 c2, .slice A3 m3 c3] W fun e w' => e = .returned (.agg #[.int .i64 (notV x).k, .int .i64 (notV x).i, .string (notV x).s]) ∧ Below W.heap.size W w') := fun W hb => by
              have := eval_yes A2 n2 c2 cs A3 m3 c3 (fewL row) HM.out _ 15 (oneT ⟨#[110, 111, 116]⟩ T1) (.slice (some ⟨wr.heap.size, 0, none⟩) 1 1) W (HN.out.2.2.below hb) hN (HN.out.1.base.cols.below hb) (HN.out.1.base.vals.below hb)
              rw [one_val _ _ _ hN, HX.out] at this
              exact this
            refine detL_begin [.val (.agg #[.string ⟨#[110, 111, 116]⟩, .int .i64 0, .int .i64 0, .string ⟨#[]⟩, .string ⟨#[]⟩, .slice (some ⟨wr.heap.size, 0, none⟩) 1 1]), .val (.bool true), .val (.bool false), .val (.bool false), .val (.agg #[.string ⟨#[110, 111, 116]⟩, .int .i64 0, .int .i64 0, .string ⟨#[]⟩, .string ⟨#[]⟩, .slice (some ⟨wr.heap.size, 0, none⟩) 1 1]), .val (.slice A2 n2 c2), .val (.slice A3 m3 c3), .val (.agg #[.int .i64 (notV x).k, .int .i64 (notV x).i, .string (notV x).s]), .val (.agg #[.int .i64 x.k, .int .i64 x.i, .string x.s]), .val (.agg #[.int .i64 (notV x).k, .int .i64 (notV x).i, .string (notV x).s]), .val (.bool true), .val (.bool true), .val (.bool true), .val (.bool true), .val (.bool true), .val (.bool true)] 16 (by kernel_rfl) ?_
            refine detL_val (by kernel_rfl) (yields_of rfl fun w1 hb1 => ?_) ?_
            · have hc1 := bcellD hb1
              have HBx := Lib.hid hb1
              clear hb1
              go_simp
              exact Det1_same
            simp only [Act.put, List.setIfInBounds_toArray, List.set_cons_zero, List.set_cons_succ]
            refine detL_val (by kernel_rfl) (yields_of rfl fun w1 hb1 => ?_) ?_
            · have hc1 := bcellD hb1
              have HBx := Lib.hid hb1
              clear hb1
              go_simp
              exact Det1_enter (MN.out _ true ((Below.refl _ _).drew.trans HBx.out) hN)
            simp only [Act.put, List.setIfInBounds_toArray, List.set_cons_zero, List.set_cons_succ]
            refine detL_val (by kernel_rfl) (yields_of rfl fun w1 hb1 => ?_) ?_
            · have hc1 := bcellD hb1
              have HBx := Lib.hid hb1
              clear hb1
              go_simp
              exact Det1_same
            simp only [Act.put, List.setIfInBounds_toArray, List.set_cons_zero, List.set_cons_succ]
            refine detL_val (by kernel_rfl) (yields_of rfl fun w1 hb1 => ?_) ?_
            · have hc1 := bcellD hb1
              have HBx := Lib.hid hb1
              clear hb1
              go_simp
              exact Det1_same
            simp only [Act.put, List.setIfInBounds_toArray, List.set_cons_zero, List.set_cons_succ]
            refine detL_val (by kernel_rfl) (yields_of rfl fun w1 hb1 => ?_) ?_
            · have hc1 := bcellD hb1
              have HBx := Lib.hid hb1
              clear hb1
              go_simp
              exact Det1_same
            simp only [Act.put, List.setIfInBounds_toArray, List.set_cons_zero, List.set_cons_succ]
            refine detL_val (by kernel_rfl) (yields_of rfl fun w1 hb1 => ?_) ?_
            · have hc1 := bcellD hb1
              have HBx := Lib.hid hb1
              clear hb1
              go_simp
              exact Det1_same
            simp only [Act.put, List.setIfInBounds_toArray, List.set_cons_zero, List.set_cons_succ]
            refine detL_val (by kernel_rfl) (yields_of rfl fun w1 hb1 => ?_) ?_
            · have hc1 := bcellD hb1
              have HBx := Lib.hid hb1
              clear hb1
              go_simp
              exact Det1_same
            simp only [Act.put, List.setIfInBounds_toArray, List.set_cons_zero, List.set_cons_succ]
            refine detL_val (by kernel_rfl) (yields_of rfl fun w1 hb1 => ?_) ?_
            · have hc1 := bcellD hb1
              have HBx := Lib.hid hb1
              clear hb1
              go_simp
              exact Det1_enter (VN.out _ ((Below.refl _ _).drew.trans HBx.out))
            simp only [Act.put, List.setIfInBounds_toArray, List.set_cons_zero, List.set_cons_succ]
            refine detL_val (by kernel_rfl) (yields_of rfl fun w1 hb1 => ?_) ?_
            · have hc1 := bcellD hb1
              have HBx := Lib.hid hb1
              clear hb1
              go_simp
              exact Det1_same
            simp only [Act.put, List.setIfInBounds_toArray, List.set_cons_zero, List.set_cons_succ]
            refine detL_val (by kernel_rfl) (yields_of rfl fun w1 hb1 => ?_) ?_
            · have hc1 := bcellD hb1
              have HBx := Lib.hid hb1
              clear hb1
              go_simp
              exact Det1_enter (rvnot x _)
            simp only [Act.put, List.setIfInBounds_toArray, List.set_cons_zero, List.set_cons_succ]
            refine detL_val (by kernel_rfl) (yields_of rfl fun w1 hb1 => ?_) ?_
            · have hc1 := bcellD hb1
              have HBx := Lib.hid hb1
              clear hb1
              go_simp
              first | exact Det1_same | (simp; exact Det1_same)
            simp only [Act.put, List.setIfInBounds_toArray, List.set_cons_zero, List.set_cons_succ]
            refine detL_val (by kernel_rfl) (yields_of rfl fun w1 hb1 => ?_) ?_
            · have hc1 := bcellD hb1
              have HBx := Lib.hid hb1
              clear hb1
              go_simp
              exact Det1_same
            simp only [Act.put, List.setIfInBounds_toArray, List.set_cons_zero, List.set_cons_succ]
            refine detL_val (by kernel_rfl) (yields_of rfl fun w1 hb1 => ?_) ?_
            · have hc1 := bcellD hb1
              have HBx := Lib.hid hb1
              clear hb1
              go_simp
              exact Det1_same
            simp only [Act.put, List.setIfInBounds_toArray, List.set_cons_zero, List.set_cons_succ]
            refine detL_val (by kernel_rfl) (yields_of rfl fun w1 hb1 => ?_) ?_
            · have hc1 := bcellD hb1
              have HBx := Lib.hid hb1
              clear hb1
              go_simp
              exact Det1_enter (AW.out _ ((Below.refl _ _).drew.trans HBx.out))
            simp only [Act.put, List.setIfInBounds_toArray, List.set_cons_zero, List.set_cons_succ]
            refine detL_val (by kernel_rfl) (yields_of rfl fun w1 hb1 => ?_) ?_
            · have hc1 := bcellD hb1
              have HBx := Lib.hid hb1
              clear hb1
              go_simp
              exact Det1_same
            simp only [Act.put, List.setIfInBounds_toArray, List.set_cons_zero, List.set_cons_succ]
            refine detL_val (by kernel_rfl) (yields_of rfl fun w1 hb1 => ?_) ?_
            · have hc1 := bcellD hb1
              have HBx := Lib.hid hb1
              clear hb1
              go_simp
              exact Det1_same
            simp only [Act.put, List.setIfInBounds_toArray, List.set_cons_zero, List.set_cons_succ]
            refine detL_done (by kernel_rfl) fun w12 hw12 => ?_
            have HZ12 : Hid (Below w.heap.size w w12) := HPn.out.trans (((Below.refl _ _).drew.trans hw12.below).mono HPn.out.size)
            clear hw12
            go_wp2
            go_ret
            exact ⟨rfl, HZ12.out⟩
        · intro o v w8 cnt1 hov hrg1 hlt hg1 hs1 hen
          obtain ⟨z, rfl, hzo, ho1, ho2⟩ := wants_all (HMp.out.2.mem_iff.1 hov)
          unfold aggV at hen ⊢
          clear x0 x1 x2 x3 x4 x5 z0 z1 z2 z3 z4 z5 lx lz
          clear HW
          have HB8 : Hid (Below w6.heap.size w6 w8) := HR.out.2.grown hg1 HR.out.2.size (fun k e => by injection e with e; omega)
          have HR1 := Lib.hid (And.intro hrg1 hlt)
          have HZ := Lib.hid (And.intro hzo (And.intro ho1 ho2))
          have H8 := Lib.hid (H6.out.later HB8.out)
          clear hov hrg1 hlt hg1 hs1 hzo ho1 ho2
          have x0 := H8.out.base.b0.c0
          have x1 := H8.out.base.b0.c1
          have x2 := H8.out.base.b0.c2
          have x3 := H8.out.base.b0.c3
          have x4 := H8.out.base.b0.c4
          have x5 := H8.out.base.b0.c5
          have z0 := H8.out.base.b1.c0
          have z1 := H8.out.base.b1.c1
          have z2 := H8.out.base.b1.c2
          have z3 := H8.out.base.b1.c3
          have z4 := H8.out.base.b1.c4
          have z5 := H8.out.base.b1.c5
          simp only [Nat.zero_add] at x0 x1 x2 x3 x4 x5 z0 z1 z2 z3 z4 z5
          have lx : d0 < _ := H8.out.base.b0.lt
          have lz : d1 < _ := H8.out.base.b1.lt
          go_upto_region 10 with (fail)
          refine wp_gen (fun W => Par2 w d0 d1 T1 (.slice B1 p1 q1) T2 (.slice B3 p3 q3) A2 n2 cs A3 m3 (fewL row) e0 e1 x y W ∧ ExC W ⟨w8.heap.size + 1 + 1, 0, none⟩ (twoT o T1 T2) (.slice (some ⟨w8.heap.size + 1, 0, none⟩) 2 2) ∧ Tr W (fun _ => True) 15 (twoT o T1 T2) (.slice (some ⟨w8.heap.size + 1, 0, none⟩) 2 2) ∧ At3 W w8.heap.size z.k z.i z.s ∧ RangeSt W g w6.heap.size lm cnt1 ∧ Below w6.heap.size w6 W)
            ⟨H8.out.later ((((Below.refl _ _).alloc (Nat.le_refl _) _).alloc (by simp) _).alloc (by simp; omega) _), box_cells (t := twoT o T1 T2) (alloc_at (by simp) _), ?_, ((At3.new rfl).alloc _).alloc _, HR1.out.1.below ((((Below.refl _ _).alloc (Nat.le_refl _) _).alloc (by simp) _).alloc (by simp; omega) _), HB8.out.trans (((((Below.refl _ _).alloc (Nat.le_refl _) _).alloc (by simp) _).alloc (by simp; omega) _).mono HB8.out.size)⟩ fun wn hwn => ?_
          · have AB : ∀ (W : World) (o : Obj), Below W.heap.size W (W.alloc o) := fun W o => (Below.refl _ _).alloc (Nat.le_refl _) _
            have t1' := H8.out.base.tr1.below (AB w8 (.cells #[.int .i64 z.k, .int .i64 z.i, .string z.s] 23))
            have t2' := H8.out.base.tr2.below (AB w8 (.cells #[.int .i64 z.k, .int .i64 z.i, .string z.s] 23))
            have t3 := two_tr o t1' t2' trivial
            have hsz : (w8.alloc (.cells #[.int .i64 z.k, .int .i64 z.i, .string z.s] 23)).heap.size = w8.heap.size + 1 := by simp
            rw [hsz] at t3
            exact t3.below ((Below.refl _ _).alloc (Nat.le_refl _) _)
          have HN := Lib.hid hwn
          clear hwn H8 hen HB8
          clear x0 x1 x2 x3 x4 x5 z0 z1 z2 z3 z4 z5 lx lz
          have n0 : wn.cell? ⟨w8.heap.size + 1 + 1, 0, none⟩ = some (.string o) := by have := HN.out.2.1.c0; first | exact this | (simp only [Nat.zero_add] at this; exact this)
          have n1 : wn.cell? ⟨w8.heap.size + 1 + 1, 1, none⟩ = some (.int .i64 0) := by have := HN.out.2.1.c1; first | exact this | (simp only [Nat.zero_add] at this; exact this)
          have n2' : wn.cell? ⟨w8.heap.size + 1 + 1, 2, none⟩ = some (.int .i64 0) := by have := HN.out.2.1.c2; first | exact this | (simp only [Nat.zero_add] at this; exact this)
          have n3 : wn.cell? ⟨w8.heap.size + 1 + 1, 3, none⟩ = some (.string ⟨#[]⟩) := by have := HN.out.2.1.c3; first | exact this | (simp only [Nat.zero_add] at this; exact this)
          have n4 : wn.cell? ⟨w8.heap.size + 1 + 1, 4, none⟩ = some (.string ⟨#[]⟩) := by have := HN.out.2.1.c4; first | exact this | (simp only [Nat.zero_add] at this; exact this)
          have n5 : wn.cell? ⟨w8.heap.size + 1 + 1, 5, none⟩ = some (.slice (some ⟨w8.heap.size + 1, 0, none⟩) 2 2) := by have := HN.out.2.1.c5; first | exact this | (simp only [Nat.zero_add] at this; exact this)
          have ln : w8.heap.size + 1 + 1 < wn.heap.size := HN.out.2.1.lt
          have gk := HN.out.2.2.2.1.k
          have gi := HN.out.2.2.2.1.i
          have gs := HN.out.2.2.2.1.s
          have gl := HN.out.2.2.2.1.lt
          have MN : Hid (∀ W z, Below wn.heap.size wn W → mayT (twoT o T1 T2) = z → Calls Tryz.prog 12 #[.agg #[.string o, .int .i64 0, .int .i64 0, .string ⟨#[]⟩, .string ⟨#[]⟩, .slice (some ⟨w8.heap.size + 1, 0, none⟩) 2 2]] W fun e w' => e = .returned (.bool z) ∧ Below W.heap.size W w') := fun W z hb hz => by subst hz; exact emay_any _ _ (twoT o T1 T2) _ W (HN.out.2.2.1.below hb)
          cases hN : mayT (twoT o T1 T2) with
          | false =>
            refine detL_begin [.val (.agg #[.string o, .int .i64 0, .int .i64 0, .string ⟨#[]⟩, .string ⟨#[]⟩, .slice (some ⟨w8.heap.size + 1, 0, none⟩) 2 2]), .val (.bool false), .val (.bool false), .val undef, .val undef, .val undef, .val undef, .val undef, .val undef, .val (.bool false)] 10 (by kernel_rfl) ?_
            refine detL_val (by kernel_rfl) (yields_of rfl fun w1 hb1 => ?_) ?_
            · have hc1 := bcellD hb1
              have HBx := Lib.hid hb1
              clear hb1
              go_simp
              exact Det1_same
            simp only [Act.put, List.setIfInBounds_toArray, List.set_cons_zero, List.set_cons_succ]
            refine detL_val (by kernel_rfl) (yields_of rfl fun w1 hb1 => ?_) ?_
            · have hc1 := bcellD hb1
              have HBx := Lib.hid hb1
              clear hb1
              go_simp
              exact Det1_enter (MN.out _ false ((Below.refl _ _).drew.trans HBx.out) hN)
            simp only [Act.put, List.setIfInBounds_toArray, List.set_cons_zero, List.set_cons_succ]
            refine detL_val (by kernel_rfl) (yields_of rfl fun w1 hb1 => ?_) ?_
            · have hc1 := bcellD hb1
              have HBx := Lib.hid hb1
              clear hb1
              go_simp
              exact Det1_same
            simp only [Act.put, List.setIfInBounds_toArray, List.set_cons_zero, List.set_cons_succ]
            refine detL_val (by kernel_rfl) (yields_not rfl) ?_
            simp only [Act.put, List.setIfInBounds_toArray, List.set_cons_zero, List.set_cons_succ]
            refine detL_val (by kernel_rfl) (yields_not rfl) ?_
            simp only [Act.put, List.setIfInBounds_toArray, List.set_cons_zero, List.set_cons_succ]
            refine detL_val (by kernel_rfl) (yields_not rfl) ?_
            simp only [Act.put, List.setIfInBounds_toArray, List.set_cons_zero, List.set_cons_succ]
            refine detL_val (by kernel_rfl) (yields_not rfl) ?_
            simp only [Act.put, List.setIfInBounds_toArray, List.set_cons_zero, List.set_cons_succ]
            refine detL_val (by kernel_rfl) (yields_not rfl) ?_
            simp only [Act.put, List.setIfInBounds_toArray, List.set_cons_zero, List.set_cons_succ]
            refine detL_val (by kernel_rfl) (yields_not rfl) ?_
            simp only [Act.put, List.setIfInBounds_toArray, List.set_cons_zero, List.set_cons_succ]
            refine detL_val (by kernel_rfl) (yields_of rfl fun w1 hb1 => ?_) ?_
            · have hc1 := bcellD hb1
              have HBx := Lib.hid hb1
              clear hb1
              go_simp
              exact Det1_same
            simp only [Act.put, List.setIfInBounds_toArray, List.set_cons_zero, List.set_cons_succ]
            refine detL_done (by kernel_rfl) fun w12 hw12 => ?_
            have HZ12 : Hid (Below wn.heap.size wn w12) := (Below.refl _ _).drew.trans hw12.below
            clear hw12
            go_wp2
            go_roundw
            case rel => exact ⟨cnt1, HN.out.2.2.2.2.1.below HZ12.out, HN.out.2.2.2.2.2.trans (HZ12.out.mono HN.out.2.2.2.2.2.size)⟩
            case measure => rw [(HN.out.2.2.2.2.1.below HZ12.out).left, HR.out.1.left]; exact HR1.out.2
          | true =>
            have VN : Hid (∀ W, Below wn.heap.size wn W → Calls Tryz.prog 14 #[.agg #[.string o, .int .i64 0, .int .i64 0, .string ⟨#[]⟩, .string ⟨#[]⟩, .slice (some ⟨w8.heap.size + 1, 0, none⟩) 2 2], .slice A2 n2 c2, .slice A3 m3 c3] W fun e w' => e = .returned (.agg #[.int .i64 z.k, .int .i64 z.i, .string z.s]) ∧ Below W.heap.size W w') := fun W hb => by
              have := eval_yes A2 n2 c2 cs A3 m3 c3 (fewL row) HM.out _ 15 (twoT o T1 T2) (.slice (some ⟨w8.heap.size + 1, 0, none⟩) 2 2) W (HN.out.2.2.1.below hb) hN (HN.out.1.base.cols.below hb) (HN.out.1.base.vals.below hb)
              rw [two_val _ _ _ _ _ hN HZ.out.2.1 HZ.out.2.2, HX.out, HY.out, ← HZ.out.1] at this
              exact this
            refine detL_begin [.val (.agg #[.string o, .int .i64 0, .int .i64 0, .string ⟨#[]⟩, .string ⟨#[]⟩, .slice (some ⟨w8.heap.size + 1, 0, none⟩) 2 2]), .val (.bool true), .val (.bool true), .val (.agg #[.string o, .int .i64 0, .int .i64 0, .string ⟨#[]⟩, .string ⟨#[]⟩, .slice (some ⟨w8.heap.size + 1, 0, none⟩) 2 2]), .val (.slice A2 n2 c2), .val (.slice A3 m3 c3), .val (.agg #[.int .i64 z.k, .int .i64 z.i, .string z.s]), .val (.agg #[.int .i64 z.k, .int .i64 z.i, .string z.s]), .val (.bool false), .val (.bool false)] 10 (by kernel_rfl) ?_
            refine detL_val (by kernel_rfl) (yields_of rfl fun w1 hb1 => ?_) ?_
            · have hc1 := bcellD hb1
              have HBx := Lib.hid hb1
              clear hb1
              go_simp
              exact Det1_same
            simp only [Act.put, List.setIfInBounds_toArray, List.set_cons_zero, List.set_cons_succ]
            refine detL_val (by kernel_rfl) (yields_of rfl fun w1 hb1 => ?_) ?_
            · have hc1 := bcellD hb1
              have HBx := Lib.hid hb1
              clear hb1
              go_simp
              exact Det1_enter (MN.out _ true ((Below.refl _ _).drew.trans HBx.out) hN)
            simp only [Act.put, List.setIfInBounds_toArray, List.set_cons_zero, List.set_cons_succ]
            refine detL_val (by kernel_rfl) (yields_of rfl fun w1 hb1 => ?_) ?_
            · have hc1 := bcellD hb1
              have HBx := Lib.hid hb1
              clear hb1
              go_simp
              exact Det1_same
            simp only [Act.put, List.setIfInBounds_toArray, List.set_cons_zero, List.set_cons_succ]
            refine detL_val (by kernel_rfl) (yields_of rfl fun w1 hb1 => ?_) ?_
            · have hc1 := bcellD hb1
              have HBx := Lib.hid hb1
              clear hb1
              go_simp
              exact Det1_same
            simp only [Act.put, List.setIfInBounds_toArray, List.set_cons_zero, List.set_cons_succ]
            refine detL_val (by kernel_rfl) (yields_of rfl fun w1 hb1 => ?_) ?_
            · have hc1 := bcellD hb1
              have HBx := Lib.hid hb1
              clear hb1
              go_simp
              exact Det1_same
            simp only [Act.put, List.setIfInBounds_toArray, List.set_cons_zero, List.set_cons_succ]
            refine detL_val (by kernel_rfl) (yields_of rfl fun w1 hb1 => ?_) ?_
            · have hc1 := bcellD hb1
              have HBx := Lib.hid hb1
              clear hb1
              go_simp
              exact Det1_same
            simp only [Act.put, List.setIfInBounds_toArray, List.set_cons_zero, List.set_cons_succ]
            refine detL_val (by kernel_rfl) (yields_of rfl fun w1 hb1 => ?_) ?_
            · have hc1 := bcellD hb1
              have HBx := Lib.hid hb1
              clear hb1
              go_simp
              exact Det1_enter (VN.out _ ((Below.refl _ _).drew.trans HBx.out))
            simp only [Act.put, List.setIfInBounds_toArray, List.set_cons_zero, List.set_cons_succ]
            refine detL_val (by kernel_rfl) (yields_of rfl fun w1 hb1 => ?_) ?_
            · have hc1 := bcellD hb1
              have HBx := Lib.hid hb1
              clear hb1
              go_simp
              exact Det1_same
            simp only [Act.put, List.setIfInBounds_toArray, List.set_cons_zero, List.set_cons_succ]
            refine detL_val (by kernel_rfl) (yields_of rfl fun w1 hb1 => ?_) ?_
            · have hc1 := bcellD hb1
              have HBx := Lib.hid hb1
              clear hb1
              go_simp
              first | exact Det1_same | (simp; exact Det1_same)
            simp only [Act.put, List.setIfInBounds_toArray, List.set_cons_zero, List.set_cons_succ]
            refine detL_val (by kernel_rfl) (yields_of rfl fun w1 hb1 => ?_) ?_
            · have hc1 := bcellD hb1
              have HBx := Lib.hid hb1
              clear hb1
              go_simp
              exact Det1_same
            simp only [Act.put, List.setIfInBounds_toArray, List.set_cons_zero, List.set_cons_succ]
            refine detL_done (by kernel_rfl) fun w12 hw12 => ?_
            have HZ12 : Hid (Below wn.heap.size wn w12) := (Below.refl _ _).drew.trans hw12.below
            clear hw12
            go_wp2
            go_roundw
            case rel => exact ⟨cnt1, HN.out.2.2.2.2.1.below HZ12.out, HN.out.2.2.2.2.2.trans (HZ12.out.mono HN.out.2.2.2.2.2.size)⟩
            case measure => rw [(HN.out.2.2.2.2.1.below HZ12.out).left, HR.out.1.left]; exact HR1.out.2
end Go.Proofs.YtmgcmiflbjhakaaGreatDoor
