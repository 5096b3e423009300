import Derived.Test.YtmhkmliebhbkdaaGreatX18
import Derived.Test.YtmhkmliebhbkdaaGreatX11

/- The law's Few of a table with rows: its walk. -/
namespace Go.Proofs.YtmhkmliebhbkdaaGreat
open Go.RowKit Go.Lib

theorem below_row {B b : Nat} {w W : World} (h : Below B w W) (cs : Array Value) (hb : B ≤ b) : Below B w (W.setRow b cs) := h.trans ⟨rfl, rfl, rfl, by rw [setRow_size]; exact Nat.le_refl _, fun q hq => setRow_other _ _ _ _ (by omega)⟩
theorem TbIn.at7 {w W : World} {nm : ByteArray} {A : Option Addr} {n c : Nat} {key : Int} {U : Option Addr} {m cu : Nat} {R : Option Addr} {p cr : Nat} {op : ByteArray} {k i : Int} {vs s : ByteArray} {B : Option Addr} {q d : Nat} {cols : List Cl} {us : List Int} {rs : List Rf} (h : TbIn w nm A n c key U m cu R p cr op k i vs s B q d cols us rs) (hb : Below w.heap.size w W) : TbIn W nm A n c key U m cu R p cr op k i vs s B q d cols us rs :=
  ⟨h.hnm, h.hcols.below hb, h.nc, h.hus.below hb, h.hrs.below hb, h.nr, h.hop, h.hvs, h.hs, h.hi, InL.more hb.size (InL.keep hb h.chk)⟩
theorem TbS.away7 {W W' : World} {nm : ByteArray} {A : Option Addr} {n c : Nat} {key : Int} {U : Option Addr} {m cu : Nat} {R : Option Addr} {p cr : Nat} {op : ByteArray} {k i : Int} {vs s : ByteArray} {B : Option Addr} {q d : Nat} {cols : List Cl} {us : List Int} {rs : List Rf} {l : List Ex} {B1 N : Nat} (h : TbS W nm A n c key U m cu R p cr op k i vs s B q d cols us rs l (fun b => B1 ≤ b) N) (h1 : ∀ a, A = some a → n = 0 ∨ B1 ≤ a.block) (h2 : ∀ a, U = some a → m = 0 ∨ B1 ≤ a.block) (h3 : ∀ a, R = some a → p = 0 ∨ B1 ≤ a.block) (f : ∀ b, B1 ≤ b → W'.heap[b]? = W.heap[b]?) : TbS W' nm A n c key U m cu R p cr op k i vs s B q d cols us rs l (fun b => B1 ≤ b) N := by
  refine ⟨h.hcols.same fun a e => (h1 a e).imp id fun k => f _ k, h.cap, h.hus.same2 fun a e => (h2 a e).imp id fun k => f _ k, ⟨h.hrs.1, h.hrs.2.1, fun j hj => ?_⟩, h.chk.keep (fun b hb' _ => f b hb') (fun _ h _ => h), h.len, h.hnm, h.nc, h.nr⟩
  obtain ⟨a, e, hc⟩ := h.hrs.2.2 j hj
  rcases h3 a e with h0 | h0
  · have := h.hrs.1; omega
  · exact ⟨a, e, hc.keep (by rw [add_block]; exact f _ h0)⟩
theorem Rws.below {w1 W W' : World} {v : Value} {j : Nat} {rows : List (List Vl)} (h : Rws w1 W v j rows) (hb : Below W.heap.size W W') : Rws w1 W' v j rows := by
  obtain ⟨ss, ho, hl, hat⟩ := h
  refine ⟨ss, ho.kept (row := none) (grow_below hb none) (by cases h : v.ownBlock with | none => exact .inl rfl | some _ => exact .inr (by simp)), hl, fun q hq => ?_⟩
  obtain ⟨D, m, c, e, k1, k2, k3, k4⟩ := hat q hq
  exact ⟨D, m, c, e, k1, k2, k3.below hb, k4⟩
theorem Rws.setd {w1 W : World} {v : Value} {j : Nat} {rows : List (List Vl)} (h : Rws w1 W v j rows) {d : Nat} (hd : d < w1.heap.size) (i : Nat) (x : Value) : Rws w1 (W.setCell ⟨d, i, none⟩ x) v j rows := by
  obtain ⟨ss, ho, hl, hat⟩ := h
  refine ⟨ss, ownsRow_setCell_other ho (fun e => by have := own_geN ho d e; omega) _, hl, fun q hq => ?_⟩
  obtain ⟨D, m, c, e, k1, k2, k3, k4⟩ := hat q hq
  exact ⟨D, m, c, e, k1, k2, k3.same (by simp [World.setCell]) fun a e => (k4 a e).imp id fun k => Below.heap_setCell _ _ _ _ (by show a.block ≠ d; omega), k4⟩
theorem Rws.nil {w1 W : World} {A : Option Addr} {n c j : Nat} {rows : List (List Vl)} (h : Rws w1 W (.slice A n c) j rows) : nilOk A n c := by
  obtain ⟨ss, ho, _⟩ := h
  obtain ⟨A', c', e, k, _⟩ := slice_form ho
  injection e with e1 e2 e3
  subst e1 e2 e3
  exact k
theorem Rws.blk {w1 W : World} {A : Option Addr} {n c j : Nat} {rows : List (List Vl)} (h : Rws w1 W (.slice A n c) j rows) : ∀ a, A = some a → w1.heap.size ≤ a.block := by
  obtain ⟨ss, ho, _⟩ := h
  obtain ⟨A', c', e, _, k⟩ := slice_form ho
  injection e with e1 e2 e3
  subst e1 e2 e3
  intro a e
  obtain ⟨g, cur, rfl, hg, _⟩ := k a e
  exact hg
theorem Rws.rows {w1 W W' : World} {A : Option Addr} {c j : Nat} {rows : List (List Vl)} {X : Nat → Prop} (h : Rws w1 W (.slice A j c) j rows) (hj : j ≤ 1000) (f : ∀ b, w1.heap.size ≤ b → W'.heap[b]? = W.heap[b]?) (hx : ∀ b, w1.heap.size ≤ b → ¬ X b) (hs : W.heap.size ≤ W'.heap.size := by rw [setRow_size]; exact Nat.le_refl _) : RowsAt W' X A j rows := by
  obtain ⟨ss, ho, hl, hat⟩ := h
  refine ⟨hl, hj, fun q hq => ?_⟩
  obtain ⟨D, m, c', e, k1, k2, k3, k4⟩ := hat q hq
  rcases ho.2 with ⟨e0, h0⟩ | ⟨g, cap, cur, e0, hB, hg, hcc, hmm, hsz, htk⟩
  · omega
  · injection e0 with e1 _ e3
    subst e1 e3
    refine ⟨⟨g, 0, none⟩, D, m, c', rfl, ?_, k1, by omega, k3.same hs fun a e => (k4 a e).imp id fun k => f _ k.1, fun a e => (k4 a e).imp id fun k => hx _ k.1⟩
    rw [show (⟨g, 0, none⟩ : Addr).add q = ⟨g, q, none⟩ by unfold Addr.add; split <;> simp_all]
    exact ((World.cell?_of_block (w := W) (a := ⟨g, q, none⟩) (f g hB)).trans (ho.cellAt q (by omega))).trans e
set_option maxRecDepth 100000 in
set_option maxHeartbeats 4000000 in
theorem few7_any (nm : ByteArray) (A : Option Addr) (n c : Nat) (key : Int) (U : Option Addr) (m cu : Nat) (R : Option Addr) (p cr : Nat) (op : ByteArray) (k i : Int) (vs s : ByteArray) (B : Option Addr) (q d : Nat) (Ar : Option Addr) (nr ca : Nat) (cols : List Cl) (us : List Int) (rs : List Rf) (rows : List (List Vl)) (w : World) (ht : TbIn w nm A n c key U m cu R p cr op k i vs s B q d cols us rs) (hr : RowsIn w Ar nr rows) :
    Calls Tryz.prog 9 #[.agg #[.string nm, .slice A n c, .int .i64 key, .slice U m cu, .slice R p cr, .string op, .int .i64 k, .int .i64 i, .string vs, .string s, .slice B q d, .slice Ar nr ca]] w fun e w' => (∃ v, e = .returned v ∧ RelR w' w.heap.size v rows) ∧ Below w.heap.size w w' := by
  have HR := Lib.hid hr
  have HL := Lib.hid hr.1
  have hnr := hr.2.1
  unfold maxLen at hnr
  have HF6 : Hid (∀ W, Below w.heap.size w W → Calls Tryz.prog 22 #[.agg #[.string nm, .slice A n c, .int .i64 key, .slice U m cu, .slice R p cr, .string op, .int .i64 k, .int .i64 i, .string vs, .string s, .slice B q d]] W fun e w' => (∃ v, e = .returned v ∧ TbR w' W.heap.size v) ∧ Below W.heap.size W w') := Lib.hid fun W hW => few6_any nm A n c key U m cu R p cr op k i vs s B q d cols us rs W (ht.at7 hW)
  clear hr ht
  go_enter Tryz.func9, Tryz.ntmps9
  go_upto_region 1 with (fail)
  refine wp_gen (fun W => Below w.heap.size w W ∧ W.heap[w.heap.size]? = some (.cells #[.string nm, .slice A n c, .int .i64 key, .slice U m cu, .slice R p cr, .string op, .int .i64 k, .int .i64 i, .string vs, .string s, .slice B q d, .slice Ar nr ca] 34 (0, 0)) ∧ W.heap[w.heap.size + 1]? = some (.cells #[.string ⟨#[]⟩, .slice none 0 0, .int .i64 0, .slice none 0 0, .slice none 0 0, .string ⟨#[]⟩, .int .i64 0, .int .i64 0, .string ⟨#[]⟩, .string ⟨#[]⟩, .slice none 0 0, .slice none 0 0] 34 (0, 0))) ⟨((Below.refl _ _).alloc (Nat.le_refl _) _).alloc (by simp) _, (Below.heap_alloc _ _ _ (by simp)).trans (alloc_at rfl _), alloc_at (by simp) _⟩ fun w0 hw0 => ?_
  have H0 := Lib.hid hw0
  have g0 := Lib.cell_of_heap hw0.2.1 0
  have g1 := Lib.cell_of_heap hw0.2.1 1
  have g2 := Lib.cell_of_heap hw0.2.1 2
  have g3 := Lib.cell_of_heap hw0.2.1 3
  have g4 := Lib.cell_of_heap hw0.2.1 4
  have g5 := Lib.cell_of_heap hw0.2.1 5
  have g6 := Lib.cell_of_heap hw0.2.1 6
  have g7 := Lib.cell_of_heap hw0.2.1 7
  have g8 := Lib.cell_of_heap hw0.2.1 8
  have g9 := Lib.cell_of_heap hw0.2.1 9
  have g10 := Lib.cell_of_heap hw0.2.1 10
  have g11 := Lib.cell_of_heap hw0.2.1 11
  simp only [List.getElem?_toArray, List.getElem?_cons_zero, List.getElem?_cons_succ] at g0 g1 g2 g3 g4 g5 g6 g7 g8 g9 g10 g11
  have hz1 := lt_of_block hw0.2.2
  have hz0 : w.heap.size < w0.heap.size := by omega
  clear hw0
  go_upto_region 2 with (first
    | (go_at_call 22; (with_reducible refine (HF6.out _ H0.out.1).mono ?_); rintro e w1 ⟨⟨v, rfl, htb⟩, hb1⟩; obtain ⟨nm', A', n', c', key', U', m', cu', R', p', cr', op', k', i', vs', s', B', q', d', cols', us', rs', l', rfl, ht1, f1, f2, f3, fok⟩ := htb; have HOK := Lib.hid fok; have HT1 := Lib.hid (And.intro ht1 (And.intro f1 (And.intro f2 f3))); have HB1 := Lib.hid hb1; clear ht1 f1 f2 f3 fok hb1; have hst : (w1.alloc (.cells #[.string ⟨#[]⟩, .slice none 0 0, .int .i64 0, .slice none 0 0, .slice none 0 0, .string ⟨#[]⟩, .int .i64 0, .int .i64 0, .string ⟨#[]⟩, .string ⟨#[]⟩, .slice none 0 0, .slice none 0 0] 34)).heap[w1.heap.size]? = some (.cells #[.string ⟨#[]⟩, .slice none 0 0, .int .i64 0, .slice none 0 0, .slice none 0 0, .string ⟨#[]⟩, .int .i64 0, .int .i64 0, .string ⟨#[]⟩, .string ⟨#[]⟩, .slice none 0 0, .slice none 0 0] 34 (0, 0)) := alloc_at rfl _)
    | (refine wpList_store_row rfl 34 (.tmp 3) (.tmp 9) rfl w1.heap.size #[.string nm', .slice A' n' c', .int .i64 key', .slice U' m' cu', .slice R' p' cr', .string op', .int .i64 k', .int .i64 i', .string vs', .string s', .slice B' q' d', .slice none 0 0] rfl rfl 34 _ hst relSize rfl (rel_one _ _ _ _ _ _ _ _ _ _ _ _ _ _ _ _ _ _ _ _ _ _) ?_))
  have H1 : Hid (Below w.heap.size w w1 ∧ w1.heap[w.heap.size]? = some (.cells #[.string nm, .slice A n c, .int .i64 key, .slice U m cu, .slice R p cr, .string op, .int .i64 k, .int .i64 i, .string vs, .string s, .slice B q d, .slice Ar nr ca] 34 (0, 0)) ∧ w1.heap[w.heap.size + 1]? = some (.cells #[.string ⟨#[]⟩, .slice none 0 0, .int .i64 0, .slice none 0 0, .slice none 0 0, .string ⟨#[]⟩, .int .i64 0, .int .i64 0, .string ⟨#[]⟩, .string ⟨#[]⟩, .slice none 0 0, .slice none 0 0] 34 (0, 0)) ∧ w0.heap.size ≤ w1.heap.size) := Lib.hid ⟨H0.out.1.trans (HB1.out.mono H0.out.1.size), (HB1.out.block _ hz0).trans H0.out.2.1, (HB1.out.block _ hz1).trans H0.out.2.2, HB1.out.size⟩
  have hw01 := HB1.out.size
  refine wp_gen (fun W => Below w1.heap.size w1 W ∧ W.heap[w1.heap.size]? = some (.cells #[.string nm', .slice A' n' c', .int .i64 key', .slice U' m' cu', .slice R' p' cr', .string op', .int .i64 k', .int .i64 i', .string vs', .string s', .slice B' q' d', .slice none 0 0] 34 (0, 0))) ⟨below_row ((Below.refl _ _).alloc (Nat.le_refl _) _) _ (Nat.le_refl _), setRow_heap _ _ _ _ _ _ hst⟩ fun w2 hw2 => ?_
  have H2 := Lib.hid hw2
  have hd2 := lt_of_block hw2.2
  have hn2 := (hw2.1.block _ (by omega)).trans H1.out.2.1
  clear hw2 hst H0 HB1 HF6 g0 g1 g2 g3 g4 g5 g6 g7 g8 g9 g10 g11
  have g11 := Lib.cell_of_heap hn2 11
  simp only [List.getElem?_toArray, List.getElem?_cons_zero, List.getElem?_cons_succ] at g11
  have hni := lt_of_block hn2
  clear hn2
  by_cases hM : 200 < nr
  · have dM : decide (200 < (nr : Int)) = true := decide_eq_true (by omega)
    go_upto_region 5 with (fail)
    clear g11 hni
    go_wp2_with (fail)
    go_loopw [5] (fun iv wr => ∃ (j : Nat) (RA : Option Addr) (rc : Nat), iv = .int .i64 j ∧ j ≤ nr ∧ j ≤ 201 ∧ Hid (Below w1.heap.size w1 wr ∧ w2.heap.size ≤ wr.heap.size ∧ wr.heap[w1.heap.size]? = some (.cells #[.string nm', .slice A' n' c', .int .i64 key', .slice U' m' cu', .slice R' p' cr', .string op', .int .i64 k', .int .i64 i', .string vs', .string s', .slice B' q' d', (.slice RA j rc)] 34 (0, 0)) ∧ Rws w2 wr (.slice RA j rc) j ((rows.take j).map fewL))) (fun iv _ => nr - (intOf iv).toNat)
    case atStart => exact ⟨0, none, 0, rfl, by omega, by omega, Lib.hid ⟨H2.out.1, Nat.le_refl _, H2.out.2, [], World.ownsRow_nil _ _ _ _, rfl, fun q hq => absurd hq (by simp)⟩⟩
    case round =>
      obtain ⟨j, RA, rc, rfl, hj, hjM, HS⟩ := hrel
      have hsz := HS.out.1.size
      have inn2 := (HS.out.1.block _ (by omega)).trans H1.out.2.1
      have g11 := Lib.cell_of_heap inn2 11
      simp only [List.getElem?_toArray, List.getElem?_cons_zero, List.getElem?_cons_succ] at g11
      have x11 := Lib.cell_of_heap HS.out.2.2.1 11
      simp only [List.getElem?_toArray, List.getElem?_cons_zero, List.getElem?_cons_succ] at x11
      have hzd := lt_of_block HS.out.2.2.1
      have hzi := lt_of_block inn2
      clear inn2
      by_cases hlt : j < nr
      · by_cases h10 : j < 201
        · have d2 : decide ((j : Int) < 201) = true := decide_eq_true (by omega)
          have hjl : j < rows.length := by rw [HL.out]; exact hlt
          have HBW : Hid (Below w.heap.size w wr) := H1.out.1.trans (HS.out.1.mono H1.out.1.size)
          obtain ⟨a, D, m, cd, e, hc, g1, g2, g3⟩ := (HR.out.below HBW.out).2.2 j hjl
          subst e
          have hel := World.block_lt_of_cell? wr _ hc
          have HE := Lib.hid hc
          have HFV : Hid (∀ W, Below wr.heap.size wr W → Calls Tryz.prog 23 #[.slice D m cd] W fun e w' => ∃ v, e = .returned v ∧ w'.ownsRow W.heap.size 26 3 v (fewL rows[j]).length (cellsOf (fewL rows[j])) ∧ Below W.heap.size W w') := Lib.hid fun W hW => few2_any D m cd rows[j] W g1 (g2.below hW) g3
          obtain ⟨r0, HR0⟩ : ∃ r, Hid (rows[j] = r) := ⟨_, Lib.hid rfl⟩
          rw [HR0.out] at HFV
          clear hc g1 g2 g3
          go_upto_region 8 with (fail)
          refine detL_begin [.val (.pointer (some ⟨w1.heap.size, 11, none⟩)), .val (.slice RA j rc), .val (.pointer (some ⟨w.heap.size, 11, none⟩)), .val (.slice (some a) nr ca), .val (.int .i64 j), .val (.pointer (some (a.add j))), .val (.slice D m cd), .rel (vfR wr.heap.size r0), .rel (nsR wr.heap.size r0)] 9 (by kernel_rfl) ?_
          refine detL_val (by kernel_rfl) (yields_of rfl fun w5 hb5 => ?_) ?_
          · have hc5 := bcellD hb5
            clear hb5
            go_simp
            exact Det1_same
          simp only [Act.put, List.setIfInBounds_toArray, List.set_cons_zero, List.set_cons_succ]
          refine detL_val (by kernel_rfl) (yields_of rfl fun w5 hb5 => ?_) ?_
          · have hc5 := bcellD hb5
            clear hb5
            go_simp
            exact Det1_same
          simp only [Act.put, List.setIfInBounds_toArray, List.set_cons_zero, List.set_cons_succ]
          refine detL_val (by kernel_rfl) (yields_of rfl fun w5 hb5 => ?_) ?_
          · have hc5 := bcellD hb5
            clear hb5
            go_simp
            exact Det1_same
          simp only [Act.put, List.setIfInBounds_toArray, List.set_cons_zero, List.set_cons_succ]
          refine detL_val (by kernel_rfl) (yields_of rfl fun w5 hb5 => ?_) ?_
          · have hc5 := bcellD hb5
            clear hb5
            go_simp
            exact Det1_same
          simp only [Act.put, List.setIfInBounds_toArray, List.set_cons_zero, List.set_cons_succ]
          refine detL_val (by kernel_rfl) (yields_of rfl fun w5 hb5 => ?_) ?_
          · have hc5 := bcellD hb5
            clear hb5
            go_simp
            exact Det1_same
          simp only [Act.put, List.setIfInBounds_toArray, List.set_cons_zero, List.set_cons_succ]
          refine detL_val (by kernel_rfl) (yields_of rfl fun w5 hb5 => ?_) ?_
          · have hc5 := bcellD hb5
            clear hb5
            go_simp
            exact Det1_same
          simp only [Act.put, List.setIfInBounds_toArray, List.set_cons_zero, List.set_cons_succ]
          refine detL_val (by kernel_rfl) (yields_of rfl fun w5 hb5 => ?_) ?_
          · have hc5 := bcellD hb5
            have m1 := (hb5.cell (p := a.add j) hel).trans HE.out
            clear hb5
            go_simp
            exact Det1_same
          simp only [Act.put, List.setIfInBounds_toArray, List.set_cons_zero, List.set_cons_succ]
          refine detL_rel (by kernel_rfl) (yields_rel (by rfl) vfR_lasting fun w5 hw5 => ?_) ?_
          · have hb5 := hw5.below
            have hc5 := bcellD hb5
            have HBx := Lib.hid hb5
            clear hb5 hw5
            go_simp
            exact vfR_enter (HFV.out _ ((Below.refl _ _).drew.trans HBx.out)) (((Below.refl _ _).drew.trans HBx.out : Below wr.heap.size wr w5).size)
          rintro v G7 w5 hw5
          have qq : vfR wr.heap.size r0 v G7 w5 := (hw5.ents _ List.mem_cons_self).1
          clear hw5
          unfold vfR at qq
          obtain ⟨rfl, D7, m7, c7, rfl, -⟩ := qq
          simp only [Act.put, List.setIfInBounds_toArray, List.set_cons_zero, List.set_cons_succ]
          refine detL_rel (by kernel_rfl) (yields_rel (by rfl) nsR_lasting fun w5 hw5 => ?_) ?_
          · have hb5 := hw5.below
            have hc5 := bcellD hb5
            have HBx := Lib.hid hb5
            have q7 : vfR wr.heap.size r0 (.slice D7 m7 c7) [] w5 := (hw5.ents _ (List.mem_filter.2 ⟨List.mem_cons_self, by first | kernel_rfl | simp [depB, Region.binds] | decide⟩)).1
            clear hb5 hw5
            go_simp
            exact nsR_made q7
          rintro v G8 w5 hw5
          have qq : nsR wr.heap.size r0 v G8 w5 := (hw5.ents _ List.mem_cons_self).1
          clear hw5
          unfold nsR at qq
          obtain ⟨b5, D8, m8, c8, rfl, rfl, -⟩ := qq
          simp only [Act.put, List.setIfInBounds_toArray, List.set_cons_zero, List.set_cons_succ]
          refine detL_tail rfl (by kernel_rfl) fun w11 hw11 => ?_
          have q8 : nsR wr.heap.size r0 (.slice (some ⟨b5, 0, none⟩) 1 1) [b5] w11 := (hw11.ents _ List.mem_cons_self).1
          have hbel : Below wr.heap.size wr w11 := (Below.refl _ _).drew.trans hw11.below
          clear hw11
          obtain ⟨b9, D9, m9, c9, e9, _, h9, k1, k2, k3, k4⟩ := q8
          obtain rfl : b5 = b9 := by injection e9
          have hs11 := hbel.size
          have hb11 := (hbel.block _ hzd).trans HS.out.2.2.1
          obtain ⟨ss, ho, hl, hat⟩ := HS.out.2.2.2.below hbel
          have hss : ss.length = j := by have := ho.1; omega
          have HO1 := Lib.hid ho
          have HAT := Lib.hid (And.intro hl hat)
          have HB1 := Lib.hid hbel
          have HX1 := Lib.hid hb11
          have HZ5 := Lib.hid h9
          have HK := Lib.hid (And.intro k1 (And.intro k2 (And.intro k3 k4)))
          have hl5 := lt_of_block h9
          clear hbel hb11 ho hl hat h9 k1 k2 k3 k4 g11 x11 hel
          obtain ⟨i1, hi, hz0, hz1, hz2⟩ := info_parts infoVs
          go_wp2_with (at_builtin; refine wpList_append_kept rfl _ _ 32 rfl w2.heap.size 47 i1 _ 1 24 Tryz.underlying32 hi hz0 hz1 hz2 rfl (by decide) (.slice RA j rc) j ss rfl HO1.out ⟨b5, 0, none⟩ 1 1 [.slice D9 m9 c9] rfl rfl ?c1 ?c2 (by omega) ?c3 ?c4 ?c5 ?_)
          case c1 =>
            intro q u hq
            have := newSl_cells HZ5.out q u hq
            first
              | exact this
              | (rwa [show (⟨b5, 0, none⟩ : Addr).add q = ⟨b5, q, none⟩ by unfold Addr.add; split <;> simp_all] at this)
          case c2 => first | (intro u hu; simp at hu; subst hu; rfl) | rfl | simp [Value.oneCell']
          case c3 => unfold maxLen; omega
          case c4 => omega
          case c5 => have := HS.out.2.1; omega
          intro v' w6 hown' hgrow hwhere
          obtain ⟨RA', rc', rfl⟩ := own_form hown'
          have hne : ∀ q, (Value.slice RA j rc).ownBlock = some q → w2.heap.size ≤ q := own_geN HO1.out
          have hb6 := (hgrow.block w1.heap.size (by omega) (fun e => by have := hne _ e.symm; omega)).trans HX1.out
          have HBN : Hid (Below w1.heap.size w1 w6) := Lib.hid ⟨hgrow.os.trans (HB1.out.os.trans HS.out.1.os), hgrow.tape.trans (HB1.out.tape.trans HS.out.1.tape), hgrow.output.trans (HB1.out.output.trans HS.out.1.output), by have := hgrow.size; omega, fun q hq => (hgrow.block q (by omega) (fun e => by have := hne _ e.symm; omega)).trans ((HB1.out.block q (by omega)).trans (HS.out.1.block q hq))⟩
          have HRN : Hid (Rws w2 w6 (.slice RA' (j + 1) rc') (j + 1) ((rows.take j).map fewL ++ [fewL r0])) := Lib.hid (Rws.snoc hss HAT.out.1 HAT.out.2 hown' hgrow hwhere HK.out.1 HK.out.2.1 HK.out.2.2.1 (fun a' e => (HK.out.2.2.2 a' e).imp id fun h => ⟨by have := HS.out.2.1; omega, fun e' => by
            obtain ⟨ss', ho', _⟩ := HS.out.2.2.2
            have := (ho'.lt _ e').2
            omega⟩))
          have bf := Lib.frozen_of_heap hb6
          have x11 := Lib.cell_of_heap hb6 11
          simp only [List.getElem?_toArray, List.getElem?_cons_zero, List.getElem?_cons_succ] at x11
          have hd6 := lt_of_block hb6
          have HX6 := Lib.hid hb6
          have hs6 := hgrow.size
          clear hown' hgrow hb6 hwhere
          go_wp2_with (fail)
          go_roundw
          case rel => exact ⟨j + 1, RA', rc', by go_num, by omega, by omega, Lib.hid ⟨HBN.out.setCell (Nat.le_refl _) _, by have := HS.out.2.1; simp [World.setCell]; omega, any_set6 HX6.out 11 _, by rw [List.take_succ_eq_append_getElem hjl, List.map_append, HR0.out]; exact HRN.out.setd hd2 11 _⟩⟩
          case measure => simp [intOf]; omega
        · have d2 : decide ((j : Int) < 201) = false := decide_eq_false (by omega)
          go_upto_region 9 with (fail)
          have hbx := HS.out.2.2.1
          have hres : wr.heap[w.heap.size + 1]? = some (.cells #[.string ⟨#[]⟩, .slice none 0 0, .int .i64 0, .slice none 0 0, .slice none 0 0, .string ⟨#[]⟩, .int .i64 0, .int .i64 0, .string ⟨#[]⟩, .string ⟨#[]⟩, .slice none 0 0, .slice none 0 0] 34 (0, 0)) := (HS.out.1.block _ (by omega)).trans H1.out.2.2.1
          clear g11 x11
          go_wp2_with (first
            | (refine wpList_load_row rfl 34 (.tmp 3) rfl w1.heap.size rfl 34 #[.string nm', .slice A' n' c', .int .i64 key', .slice U' m' cu', .slice R' p' cr', .string op', .int .i64 k', .int .i64 i', .string vs', .string s', .slice B' q' d', (.slice RA j rc)] (0, 0) _ hbx Tryz.underlying34 rfl relSize ?_)
            | (refine wpList_store_row rfl 34 (.tmp 2) (.tmp 37) rfl (w.heap.size + 1) #[.string nm', .slice A' n' c', .int .i64 key', .slice U' m' cu', .slice R' p' cr', .string op', .int .i64 k', .int .i64 i', .string vs', .string s', .slice B' q' d', (.slice RA j rc)] rfl rfl 34 _ hres relSize rfl (rel_one _ _ _ _ _ _ _ _ _ _ _ _ _ _ _ _ _ _ _ _ _ _) ?_))
          have f : ∀ b, w0.heap.size ≤ b → (wr.setRow (w.heap.size + 1) #[.string nm', .slice A' n' c', .int .i64 key', .slice U' m' cu', .slice R' p' cr', .string op', .int .i64 k', .int .i64 i', .string vs', .string s', .slice B' q' d', (.slice RA j rc)]).heap[b]? = wr.heap[b]? := fun b hb => setRow_other _ _ _ _ (by omega)
          have hws : w.heap.size ≤ w0.heap.size := by omega
          refine bodyPost_ret (results_cell_row rfl _ _ (w.heap.size + 1) 34 #[.string nm', .slice A' n' c', .int .i64 key', .slice U' m' cu', .slice R' p' cr', .string op', .int .i64 k', .int .i64 i', .string vs', .string s', .slice B' q' d', (.slice RA j rc)] (0, 0) _ rfl (setRow_heap _ _ _ _ _ _ hres) Tryz.underlying34 rfl relSize) rfl ⟨⟨_, rfl, nm', A', n', c', key', U', m', cu', R', p', cr', op', k', i', vs', s', B', q', d', cols', us', rs', l', RA, j, rc, (rows.take j).map fewL, rfl, ?_, fun a e => (HT1.out.2.1 a e).imp id (Nat.le_trans hws), fun a e => (HT1.out.2.2.1 a e).imp id (Nat.le_trans hws), fun a e => (HT1.out.2.2.2 a e).imp id (Nat.le_trans hws), ?_, by omega, ?_, ?_, HOK.out, rfl⟩, ?_⟩
          · have h := (HT1.out.1.below HS.out.1).away7 HT1.out.2.1 HT1.out.2.2.1 HT1.out.2.2.2 f
            exact ⟨h.hcols, h.cap, h.hus, h.hrs, h.chk.keep (fun _ _ _ => rfl) (fun b hb _ => Nat.le_trans hws hb), h.len, h.hnm, h.nc, h.nr⟩
          · exact HS.out.2.2.2.nil
          · exact HS.out.2.2.2.rows (by omega) (fun b hb => f b (by have := H2.out.1.size; have := H1.out.2.2.2; omega)) (fun b hb => by have := H2.out.1.size; have := H1.out.2.2.2; show ¬ b < w.heap.size; omega)
          · exact fun a e => .inr (by have := HS.out.2.2.2.blk a e; have := H2.out.1.size; omega)
          · exact ⟨HS.out.1.os.trans H1.out.1.os, HS.out.1.tape.trans H1.out.1.tape, HS.out.1.output.trans H1.out.1.output, by rw [setRow_size]; have := H1.out.1.size; omega, fun q hq => (setRow_other _ _ _ _ (by omega)).trans ((HS.out.1.block q (by omega)).trans (H1.out.1.block q hq))⟩
      · skip
        go_upto_region 9 with (fail)
        have hbx := HS.out.2.2.1
        have hres : wr.heap[w.heap.size + 1]? = some (.cells #[.string ⟨#[]⟩, .slice none 0 0, .int .i64 0, .slice none 0 0, .slice none 0 0, .string ⟨#[]⟩, .int .i64 0, .int .i64 0, .string ⟨#[]⟩, .string ⟨#[]⟩, .slice none 0 0, .slice none 0 0] 34 (0, 0)) := (HS.out.1.block _ (by omega)).trans H1.out.2.2.1
        clear g11 x11
        go_wp2_with (first
          | (refine wpList_load_row rfl 34 (.tmp 3) rfl w1.heap.size rfl 34 #[.string nm', .slice A' n' c', .int .i64 key', .slice U' m' cu', .slice R' p' cr', .string op', .int .i64 k', .int .i64 i', .string vs', .string s', .slice B' q' d', (.slice RA j rc)] (0, 0) _ hbx Tryz.underlying34 rfl relSize ?_)
          | (refine wpList_store_row rfl 34 (.tmp 2) (.tmp 37) rfl (w.heap.size + 1) #[.string nm', .slice A' n' c', .int .i64 key', .slice U' m' cu', .slice R' p' cr', .string op', .int .i64 k', .int .i64 i', .string vs', .string s', .slice B' q' d', (.slice RA j rc)] rfl rfl 34 _ hres relSize rfl (rel_one _ _ _ _ _ _ _ _ _ _ _ _ _ _ _ _ _ _ _ _ _ _) ?_))
        have f : ∀ b, w0.heap.size ≤ b → (wr.setRow (w.heap.size + 1) #[.string nm', .slice A' n' c', .int .i64 key', .slice U' m' cu', .slice R' p' cr', .string op', .int .i64 k', .int .i64 i', .string vs', .string s', .slice B' q' d', (.slice RA j rc)]).heap[b]? = wr.heap[b]? := fun b hb => setRow_other _ _ _ _ (by omega)
        have hws : w.heap.size ≤ w0.heap.size := by omega
        refine bodyPost_ret (results_cell_row rfl _ _ (w.heap.size + 1) 34 #[.string nm', .slice A' n' c', .int .i64 key', .slice U' m' cu', .slice R' p' cr', .string op', .int .i64 k', .int .i64 i', .string vs', .string s', .slice B' q' d', (.slice RA j rc)] (0, 0) _ rfl (setRow_heap _ _ _ _ _ _ hres) Tryz.underlying34 rfl relSize) rfl ⟨⟨_, rfl, nm', A', n', c', key', U', m', cu', R', p', cr', op', k', i', vs', s', B', q', d', cols', us', rs', l', RA, j, rc, (rows.take j).map fewL, rfl, ?_, fun a e => (HT1.out.2.1 a e).imp id (Nat.le_trans hws), fun a e => (HT1.out.2.2.1 a e).imp id (Nat.le_trans hws), fun a e => (HT1.out.2.2.2 a e).imp id (Nat.le_trans hws), ?_, by omega, ?_, ?_, HOK.out, rfl⟩, ?_⟩
        · have h := (HT1.out.1.below HS.out.1).away7 HT1.out.2.1 HT1.out.2.2.1 HT1.out.2.2.2 f
          exact ⟨h.hcols, h.cap, h.hus, h.hrs, h.chk.keep (fun _ _ _ => rfl) (fun b hb _ => Nat.le_trans hws hb), h.len, h.hnm, h.nc, h.nr⟩
        · exact HS.out.2.2.2.nil
        · exact HS.out.2.2.2.rows (by omega) (fun b hb => f b (by have := H2.out.1.size; have := H1.out.2.2.2; omega)) (fun b hb => by have := H2.out.1.size; have := H1.out.2.2.2; show ¬ b < w.heap.size; omega)
        · exact fun a e => .inr (by have := HS.out.2.2.2.blk a e; have := H2.out.1.size; omega)
        · exact ⟨HS.out.1.os.trans H1.out.1.os, HS.out.1.tape.trans H1.out.1.tape, HS.out.1.output.trans H1.out.1.output, by rw [setRow_size]; have := H1.out.1.size; omega, fun q hq => (setRow_other _ _ _ _ (by omega)).trans ((HS.out.1.block q (by omega)).trans (H1.out.1.block q hq))⟩
  · have dM : decide (200 < (nr : Int)) = false := decide_eq_false (by omega)
    go_upto_region 5 with (fail)
    clear g11 hni
    go_wp2_with (fail)
    go_loopw [5] (fun iv wr => ∃ (j : Nat) (RA : Option Addr) (rc : Nat), iv = .int .i64 j ∧ j ≤ nr ∧ j ≤ 40 ∧ Hid (Below w1.heap.size w1 wr ∧ w2.heap.size ≤ wr.heap.size ∧ wr.heap[w1.heap.size]? = some (.cells #[.string nm', .slice A' n' c', .int .i64 key', .slice U' m' cu', .slice R' p' cr', .string op', .int .i64 k', .int .i64 i', .string vs', .string s', .slice B' q' d', (.slice RA j rc)] 34 (0, 0)) ∧ Rws w2 wr (.slice RA j rc) j ((rows.take j).map fewL))) (fun iv _ => nr - (intOf iv).toNat)
    case atStart => exact ⟨0, none, 0, rfl, by omega, by omega, Lib.hid ⟨H2.out.1, Nat.le_refl _, H2.out.2, [], World.ownsRow_nil _ _ _ _, rfl, fun q hq => absurd hq (by simp)⟩⟩
    case round =>
      obtain ⟨j, RA, rc, rfl, hj, hjM, HS⟩ := hrel
      have hsz := HS.out.1.size
      have inn2 := (HS.out.1.block _ (by omega)).trans H1.out.2.1
      have g11 := Lib.cell_of_heap inn2 11
      simp only [List.getElem?_toArray, List.getElem?_cons_zero, List.getElem?_cons_succ] at g11
      have x11 := Lib.cell_of_heap HS.out.2.2.1 11
      simp only [List.getElem?_toArray, List.getElem?_cons_zero, List.getElem?_cons_succ] at x11
      have hzd := lt_of_block HS.out.2.2.1
      have hzi := lt_of_block inn2
      clear inn2
      by_cases hlt : j < nr
      · by_cases h10 : j < 40
        · have d2 : decide ((j : Int) < 40) = true := decide_eq_true (by omega)
          have hjl : j < rows.length := by rw [HL.out]; exact hlt
          have HBW : Hid (Below w.heap.size w wr) := H1.out.1.trans (HS.out.1.mono H1.out.1.size)
          obtain ⟨a, D, m, cd, e, hc, g1, g2, g3⟩ := (HR.out.below HBW.out).2.2 j hjl
          subst e
          have hel := World.block_lt_of_cell? wr _ hc
          have HE := Lib.hid hc
          have HFV : Hid (∀ W, Below wr.heap.size wr W → Calls Tryz.prog 23 #[.slice D m cd] W fun e w' => ∃ v, e = .returned v ∧ w'.ownsRow W.heap.size 26 3 v (fewL rows[j]).length (cellsOf (fewL rows[j])) ∧ Below W.heap.size W w') := Lib.hid fun W hW => few2_any D m cd rows[j] W g1 (g2.below hW) g3
          obtain ⟨r0, HR0⟩ : ∃ r, Hid (rows[j] = r) := ⟨_, Lib.hid rfl⟩
          rw [HR0.out] at HFV
          clear hc g1 g2 g3
          go_upto_region 8 with (fail)
          refine detL_begin [.val (.pointer (some ⟨w1.heap.size, 11, none⟩)), .val (.slice RA j rc), .val (.pointer (some ⟨w.heap.size, 11, none⟩)), .val (.slice (some a) nr ca), .val (.int .i64 j), .val (.pointer (some (a.add j))), .val (.slice D m cd), .rel (vfR wr.heap.size r0), .rel (nsR wr.heap.size r0)] 9 (by kernel_rfl) ?_
          refine detL_val (by kernel_rfl) (yields_of rfl fun w5 hb5 => ?_) ?_
          · have hc5 := bcellD hb5
            clear hb5
            go_simp
            exact Det1_same
          simp only [Act.put, List.setIfInBounds_toArray, List.set_cons_zero, List.set_cons_succ]
          refine detL_val (by kernel_rfl) (yields_of rfl fun w5 hb5 => ?_) ?_
          · have hc5 := bcellD hb5
            clear hb5
            go_simp
            exact Det1_same
          simp only [Act.put, List.setIfInBounds_toArray, List.set_cons_zero, List.set_cons_succ]
          refine detL_val (by kernel_rfl) (yields_of rfl fun w5 hb5 => ?_) ?_
          · have hc5 := bcellD hb5
            clear hb5
            go_simp
            exact Det1_same
          simp only [Act.put, List.setIfInBounds_toArray, List.set_cons_zero, List.set_cons_succ]
          refine detL_val (by kernel_rfl) (yields_of rfl fun w5 hb5 => ?_) ?_
          · have hc5 := bcellD hb5
            clear hb5
            go_simp
            exact Det1_same
          simp only [Act.put, List.setIfInBounds_toArray, List.set_cons_zero, List.set_cons_succ]
          refine detL_val (by kernel_rfl) (yields_of rfl fun w5 hb5 => ?_) ?_
          · have hc5 := bcellD hb5
            clear hb5
            go_simp
            exact Det1_same
          simp only [Act.put, List.setIfInBounds_toArray, List.set_cons_zero, List.set_cons_succ]
          refine detL_val (by kernel_rfl) (yields_of rfl fun w5 hb5 => ?_) ?_
          · have hc5 := bcellD hb5
            clear hb5
            go_simp
            exact Det1_same
          simp only [Act.put, List.setIfInBounds_toArray, List.set_cons_zero, List.set_cons_succ]
          refine detL_val (by kernel_rfl) (yields_of rfl fun w5 hb5 => ?_) ?_
          · have hc5 := bcellD hb5
            have m1 := (hb5.cell (p := a.add j) hel).trans HE.out
            clear hb5
            go_simp
            exact Det1_same
          simp only [Act.put, List.setIfInBounds_toArray, List.set_cons_zero, List.set_cons_succ]
          refine detL_rel (by kernel_rfl) (yields_rel (by rfl) vfR_lasting fun w5 hw5 => ?_) ?_
          · have hb5 := hw5.below
            have hc5 := bcellD hb5
            have HBx := Lib.hid hb5
            clear hb5 hw5
            go_simp
            exact vfR_enter (HFV.out _ ((Below.refl _ _).drew.trans HBx.out)) (((Below.refl _ _).drew.trans HBx.out : Below wr.heap.size wr w5).size)
          rintro v G7 w5 hw5
          have qq : vfR wr.heap.size r0 v G7 w5 := (hw5.ents _ List.mem_cons_self).1
          clear hw5
          unfold vfR at qq
          obtain ⟨rfl, D7, m7, c7, rfl, -⟩ := qq
          simp only [Act.put, List.setIfInBounds_toArray, List.set_cons_zero, List.set_cons_succ]
          refine detL_rel (by kernel_rfl) (yields_rel (by rfl) nsR_lasting fun w5 hw5 => ?_) ?_
          · have hb5 := hw5.below
            have hc5 := bcellD hb5
            have HBx := Lib.hid hb5
            have q7 : vfR wr.heap.size r0 (.slice D7 m7 c7) [] w5 := (hw5.ents _ (List.mem_filter.2 ⟨List.mem_cons_self, by first | kernel_rfl | simp [depB, Region.binds] | decide⟩)).1
            clear hb5 hw5
            go_simp
            exact nsR_made q7
          rintro v G8 w5 hw5
          have qq : nsR wr.heap.size r0 v G8 w5 := (hw5.ents _ List.mem_cons_self).1
          clear hw5
          unfold nsR at qq
          obtain ⟨b5, D8, m8, c8, rfl, rfl, -⟩ := qq
          simp only [Act.put, List.setIfInBounds_toArray, List.set_cons_zero, List.set_cons_succ]
          refine detL_tail rfl (by kernel_rfl) fun w11 hw11 => ?_
          have q8 : nsR wr.heap.size r0 (.slice (some ⟨b5, 0, none⟩) 1 1) [b5] w11 := (hw11.ents _ List.mem_cons_self).1
          have hbel : Below wr.heap.size wr w11 := (Below.refl _ _).drew.trans hw11.below
          clear hw11
          obtain ⟨b9, D9, m9, c9, e9, _, h9, k1, k2, k3, k4⟩ := q8
          obtain rfl : b5 = b9 := by injection e9
          have hs11 := hbel.size
          have hb11 := (hbel.block _ hzd).trans HS.out.2.2.1
          obtain ⟨ss, ho, hl, hat⟩ := HS.out.2.2.2.below hbel
          have hss : ss.length = j := by have := ho.1; omega
          have HO1 := Lib.hid ho
          have HAT := Lib.hid (And.intro hl hat)
          have HB1 := Lib.hid hbel
          have HX1 := Lib.hid hb11
          have HZ5 := Lib.hid h9
          have HK := Lib.hid (And.intro k1 (And.intro k2 (And.intro k3 k4)))
          have hl5 := lt_of_block h9
          clear hbel hb11 ho hl hat h9 k1 k2 k3 k4 g11 x11 hel
          obtain ⟨i1, hi, hz0, hz1, hz2⟩ := info_parts infoVs
          go_wp2_with (at_builtin; refine wpList_append_kept rfl _ _ 32 rfl w2.heap.size 47 i1 _ 1 24 Tryz.underlying32 hi hz0 hz1 hz2 rfl (by decide) (.slice RA j rc) j ss rfl HO1.out ⟨b5, 0, none⟩ 1 1 [.slice D9 m9 c9] rfl rfl ?c1 ?c2 (by omega) ?c3 ?c4 ?c5 ?_)
          case c1 =>
            intro q u hq
            have := newSl_cells HZ5.out q u hq
            first
              | exact this
              | (rwa [show (⟨b5, 0, none⟩ : Addr).add q = ⟨b5, q, none⟩ by unfold Addr.add; split <;> simp_all] at this)
          case c2 => first | (intro u hu; simp at hu; subst hu; rfl) | rfl | simp [Value.oneCell']
          case c3 => unfold maxLen; omega
          case c4 => omega
          case c5 => have := HS.out.2.1; omega
          intro v' w6 hown' hgrow hwhere
          obtain ⟨RA', rc', rfl⟩ := own_form hown'
          have hne : ∀ q, (Value.slice RA j rc).ownBlock = some q → w2.heap.size ≤ q := own_geN HO1.out
          have hb6 := (hgrow.block w1.heap.size (by omega) (fun e => by have := hne _ e.symm; omega)).trans HX1.out
          have HBN : Hid (Below w1.heap.size w1 w6) := Lib.hid ⟨hgrow.os.trans (HB1.out.os.trans HS.out.1.os), hgrow.tape.trans (HB1.out.tape.trans HS.out.1.tape), hgrow.output.trans (HB1.out.output.trans HS.out.1.output), by have := hgrow.size; omega, fun q hq => (hgrow.block q (by omega) (fun e => by have := hne _ e.symm; omega)).trans ((HB1.out.block q (by omega)).trans (HS.out.1.block q hq))⟩
          have HRN : Hid (Rws w2 w6 (.slice RA' (j + 1) rc') (j + 1) ((rows.take j).map fewL ++ [fewL r0])) := Lib.hid (Rws.snoc hss HAT.out.1 HAT.out.2 hown' hgrow hwhere HK.out.1 HK.out.2.1 HK.out.2.2.1 (fun a' e => (HK.out.2.2.2 a' e).imp id fun h => ⟨by have := HS.out.2.1; omega, fun e' => by
            obtain ⟨ss', ho', _⟩ := HS.out.2.2.2
            have := (ho'.lt _ e').2
            omega⟩))
          have bf := Lib.frozen_of_heap hb6
          have x11 := Lib.cell_of_heap hb6 11
          simp only [List.getElem?_toArray, List.getElem?_cons_zero, List.getElem?_cons_succ] at x11
          have hd6 := lt_of_block hb6
          have HX6 := Lib.hid hb6
          have hs6 := hgrow.size
          clear hown' hgrow hb6 hwhere
          go_wp2_with (fail)
          go_roundw
          case rel => exact ⟨j + 1, RA', rc', by go_num, by omega, by omega, Lib.hid ⟨HBN.out.setCell (Nat.le_refl _) _, by have := HS.out.2.1; simp [World.setCell]; omega, any_set6 HX6.out 11 _, by rw [List.take_succ_eq_append_getElem hjl, List.map_append, HR0.out]; exact HRN.out.setd hd2 11 _⟩⟩
          case measure => simp [intOf]; omega
        · have d2 : decide ((j : Int) < 40) = false := decide_eq_false (by omega)
          go_upto_region 9 with (fail)
          have hbx := HS.out.2.2.1
          have hres : wr.heap[w.heap.size + 1]? = some (.cells #[.string ⟨#[]⟩, .slice none 0 0, .int .i64 0, .slice none 0 0, .slice none 0 0, .string ⟨#[]⟩, .int .i64 0, .int .i64 0, .string ⟨#[]⟩, .string ⟨#[]⟩, .slice none 0 0, .slice none 0 0] 34 (0, 0)) := (HS.out.1.block _ (by omega)).trans H1.out.2.2.1
          clear g11 x11
          go_wp2_with (first
            | (refine wpList_load_row rfl 34 (.tmp 3) rfl w1.heap.size rfl 34 #[.string nm', .slice A' n' c', .int .i64 key', .slice U' m' cu', .slice R' p' cr', .string op', .int .i64 k', .int .i64 i', .string vs', .string s', .slice B' q' d', (.slice RA j rc)] (0, 0) _ hbx Tryz.underlying34 rfl relSize ?_)
            | (refine wpList_store_row rfl 34 (.tmp 2) (.tmp 37) rfl (w.heap.size + 1) #[.string nm', .slice A' n' c', .int .i64 key', .slice U' m' cu', .slice R' p' cr', .string op', .int .i64 k', .int .i64 i', .string vs', .string s', .slice B' q' d', (.slice RA j rc)] rfl rfl 34 _ hres relSize rfl (rel_one _ _ _ _ _ _ _ _ _ _ _ _ _ _ _ _ _ _ _ _ _ _) ?_))
          have f : ∀ b, w0.heap.size ≤ b → (wr.setRow (w.heap.size + 1) #[.string nm', .slice A' n' c', .int .i64 key', .slice U' m' cu', .slice R' p' cr', .string op', .int .i64 k', .int .i64 i', .string vs', .string s', .slice B' q' d', (.slice RA j rc)]).heap[b]? = wr.heap[b]? := fun b hb => setRow_other _ _ _ _ (by omega)
          have hws : w.heap.size ≤ w0.heap.size := by omega
          refine bodyPost_ret (results_cell_row rfl _ _ (w.heap.size + 1) 34 #[.string nm', .slice A' n' c', .int .i64 key', .slice U' m' cu', .slice R' p' cr', .string op', .int .i64 k', .int .i64 i', .string vs', .string s', .slice B' q' d', (.slice RA j rc)] (0, 0) _ rfl (setRow_heap _ _ _ _ _ _ hres) Tryz.underlying34 rfl relSize) rfl ⟨⟨_, rfl, nm', A', n', c', key', U', m', cu', R', p', cr', op', k', i', vs', s', B', q', d', cols', us', rs', l', RA, j, rc, (rows.take j).map fewL, rfl, ?_, fun a e => (HT1.out.2.1 a e).imp id (Nat.le_trans hws), fun a e => (HT1.out.2.2.1 a e).imp id (Nat.le_trans hws), fun a e => (HT1.out.2.2.2 a e).imp id (Nat.le_trans hws), ?_, by omega, ?_, ?_, HOK.out, rfl⟩, ?_⟩
          · have h := (HT1.out.1.below HS.out.1).away7 HT1.out.2.1 HT1.out.2.2.1 HT1.out.2.2.2 f
            exact ⟨h.hcols, h.cap, h.hus, h.hrs, h.chk.keep (fun _ _ _ => rfl) (fun b hb _ => Nat.le_trans hws hb), h.len, h.hnm, h.nc, h.nr⟩
          · exact HS.out.2.2.2.nil
          · exact HS.out.2.2.2.rows (by omega) (fun b hb => f b (by have := H2.out.1.size; have := H1.out.2.2.2; omega)) (fun b hb => by have := H2.out.1.size; have := H1.out.2.2.2; show ¬ b < w.heap.size; omega)
          · exact fun a e => .inr (by have := HS.out.2.2.2.blk a e; have := H2.out.1.size; omega)
          · exact ⟨HS.out.1.os.trans H1.out.1.os, HS.out.1.tape.trans H1.out.1.tape, HS.out.1.output.trans H1.out.1.output, by rw [setRow_size]; have := H1.out.1.size; omega, fun q hq => (setRow_other _ _ _ _ (by omega)).trans ((HS.out.1.block q (by omega)).trans (H1.out.1.block q hq))⟩
      · skip
        go_upto_region 9 with (fail)
        have hbx := HS.out.2.2.1
        have hres : wr.heap[w.heap.size + 1]? = some (.cells #[.string ⟨#[]⟩, .slice none 0 0, .int .i64 0, .slice none 0 0, .slice none 0 0, .string ⟨#[]⟩, .int .i64 0, .int .i64 0, .string ⟨#[]⟩, .string ⟨#[]⟩, .slice none 0 0, .slice none 0 0] 34 (0, 0)) := (HS.out.1.block _ (by omega)).trans H1.out.2.2.1
        clear g11 x11
        go_wp2_with (first
          | (refine wpList_load_row rfl 34 (.tmp 3) rfl w1.heap.size rfl 34 #[.string nm', .slice A' n' c', .int .i64 key', .slice U' m' cu', .slice R' p' cr', .string op', .int .i64 k', .int .i64 i', .string vs', .string s', .slice B' q' d', (.slice RA j rc)] (0, 0) _ hbx Tryz.underlying34 rfl relSize ?_)
          | (refine wpList_store_row rfl 34 (.tmp 2) (.tmp 37) rfl (w.heap.size + 1) #[.string nm', .slice A' n' c', .int .i64 key', .slice U' m' cu', .slice R' p' cr', .string op', .int .i64 k', .int .i64 i', .string vs', .string s', .slice B' q' d', (.slice RA j rc)] rfl rfl 34 _ hres relSize rfl (rel_one _ _ _ _ _ _ _ _ _ _ _ _ _ _ _ _ _ _ _ _ _ _) ?_))
        have f : ∀ b, w0.heap.size ≤ b → (wr.setRow (w.heap.size + 1) #[.string nm', .slice A' n' c', .int .i64 key', .slice U' m' cu', .slice R' p' cr', .string op', .int .i64 k', .int .i64 i', .string vs', .string s', .slice B' q' d', (.slice RA j rc)]).heap[b]? = wr.heap[b]? := fun b hb => setRow_other _ _ _ _ (by omega)
        have hws : w.heap.size ≤ w0.heap.size := by omega
        refine bodyPost_ret (results_cell_row rfl _ _ (w.heap.size + 1) 34 #[.string nm', .slice A' n' c', .int .i64 key', .slice U' m' cu', .slice R' p' cr', .string op', .int .i64 k', .int .i64 i', .string vs', .string s', .slice B' q' d', (.slice RA j rc)] (0, 0) _ rfl (setRow_heap _ _ _ _ _ _ hres) Tryz.underlying34 rfl relSize) rfl ⟨⟨_, rfl, nm', A', n', c', key', U', m', cu', R', p', cr', op', k', i', vs', s', B', q', d', cols', us', rs', l', RA, j, rc, (rows.take j).map fewL, rfl, ?_, fun a e => (HT1.out.2.1 a e).imp id (Nat.le_trans hws), fun a e => (HT1.out.2.2.1 a e).imp id (Nat.le_trans hws), fun a e => (HT1.out.2.2.2 a e).imp id (Nat.le_trans hws), ?_, by omega, ?_, ?_, HOK.out, rfl⟩, ?_⟩
        · have h := (HT1.out.1.below HS.out.1).away7 HT1.out.2.1 HT1.out.2.2.1 HT1.out.2.2.2 f
          exact ⟨h.hcols, h.cap, h.hus, h.hrs, h.chk.keep (fun _ _ _ => rfl) (fun b hb _ => Nat.le_trans hws hb), h.len, h.hnm, h.nc, h.nr⟩
        · exact HS.out.2.2.2.nil
        · exact HS.out.2.2.2.rows (by omega) (fun b hb => f b (by have := H2.out.1.size; have := H1.out.2.2.2; omega)) (fun b hb => by have := H2.out.1.size; have := H1.out.2.2.2; show ¬ b < w.heap.size; omega)
        · exact fun a e => .inr (by have := HS.out.2.2.2.blk a e; have := H2.out.1.size; omega)
        · exact ⟨HS.out.1.os.trans H1.out.1.os, HS.out.1.tape.trans H1.out.1.tape, HS.out.1.output.trans H1.out.1.output, by rw [setRow_size]; have := H1.out.1.size; omega, fun q hq => (setRow_other _ _ _ _ (by omega)).trans ((HS.out.1.block q (by omega)).trans (H1.out.1.block q hq))⟩
end Go.Proofs.YtmhkmliebhbkdaaGreat

/- rel's columns: a row's value; the first row that has a value. -/
namespace Go.Proofs.YtmhkmliebhbkdaaGreat
open Go.RowKit Go.Lib

theorem results_row_tmp7 {P : Program} {fn : Func} {p u : Tmp} {ty : TypeId} (h : fn.results = #[.cell p ty, .tmp u]) (tmps : Array Value) (w : World) (g : Nat) (t : TypeId) (cs : Array Value) (fr : Nat × Nat) (d : TypeDesc)
    (hp : tmps.getD p undef = .pointer (some ⟨g, 0, none⟩)) (hg : w.heap[g]? = some (.cells cs t fr))
    (hu : P.underlying ty = some d) (hd : (match d with | .struct _ | .array _ _ => true | _ => false) = true) (hi : (P.info? ty).map (·.size) = some cs.size) (v : Value) (hv : tmps.getD u undef = v) :
    (results fn tmps).run P w = .ok (.tuple #[.agg cs, v]) w := by
  rw [results_cell_tmp h, hp, hv]
  simp [asAddr, run_loadVar_row w g t ty cs fr d hg hu hd hi, Result.andThen]
def nulV7 : Vl := ⟨0, 0, ⟨#[]⟩⟩
/-- A row's value of a column. -/
def ofV (k : Nat) (row : List Vl) : Vl := row.getD k nulV7
theorem valSize : (Tryz.prog.info? 26).map (·.size) = some 3 := by kernel_rfl
theorem val_one (x : Vl) : (#[.int .i64 x.k, .int .i64 x.i, .string x.s] : Array Value).all (·.oneCell') = true := by simp [Value.oneCell']
set_option maxRecDepth 100000 in
set_option maxHeartbeats 4000000 in
theorem of_any (k : Nat) (D : Option Addr) (m cd : Nat) (row : List Vl) (w : World) (hm : m ≤ 1000) (hv : Vals w w.heap.size D m row) :
    Calls Tryz.prog 61 #[.int .i64 k, .slice D m cd] w fun e w' => e = .returned (.tuple #[.agg #[.int .i64 (ofV k row).k, .int .i64 (ofV k row).i, .string (ofV k row).s], .bool (decide (k < m))]) ∧ Below w.heap.size w w' := by
  have hl := hv.1
  by_cases hk : k < m
  · obtain ⟨a, e, hx, hb⟩ := hv.2 k (by omega)
    subst e
    have ho : ofV k row = row[k] := by unfold ofV; rw [List.getD_eq_getElem?_getD, List.getElem?_eq_getElem (by omega)]; rfl
    rw [ho, decide_eq_true hk]
    obtain ⟨x, HX⟩ : ∃ x, Hid (row[k] = x) := ⟨_, Lib.hid rfl⟩
    rw [HX.out] at hx ⊢
    have e0 := hx.k
    have e1 := hx.i
    have e2 := hx.s
    have hbl : (a.add (k * 3)).block < w.heap.size := by rw [add_block]; exact hb
    have d1 : decide ((m : Int) ≤ (k : Int)) = false := decide_eq_false (by omega)
    clear hx hv
    have hz : (w.alloc (.cells #[.int .i64 0, .int .i64 0, .string ⟨#[]⟩] 26)).heap[w.heap.size]? = some (.cells #[.int .i64 0, .int .i64 0, .string ⟨#[]⟩] 26 (0, 0)) := alloc_at rfl _
    go_enter Tryz.func61, Tryz.ntmps61
    go_wp2_with (refine wpList_store_row rfl 26 (.tmp 4) (.tmp 14) rfl w.heap.size #[.int .i64 x.k, .int .i64 x.i, .string x.s] rfl rfl 26 _ hz valSize rfl (val_one x) ?_)
    refine bodyPost_ret (results_row_tmp7 rfl _ _ w.heap.size 26 #[.int .i64 x.k, .int .i64 x.i, .string x.s] (0, 0) _ rfl (setRow_heap _ _ _ _ _ _ hz) Tryz.underlying26 rfl valSize _ rfl) rfl ⟨rfl, below_row ((Below.refl _ _).alloc (Nat.le_refl _) _) _ (Nat.le_refl _)⟩
  · have ho : ofV k row = nulV7 := by unfold ofV; rw [List.getD_eq_getElem?_getD, List.getElem?_eq_none (by omega)]; rfl
    rw [ho, decide_eq_false hk]
    have d1 : decide ((m : Int) ≤ (k : Int)) = true := decide_eq_true (by omega)
    clear hv
    have hz : (w.alloc (.cells #[.int .i64 0, .int .i64 0, .string ⟨#[]⟩] 26)).heap[w.heap.size]? = some (.cells #[.int .i64 0, .int .i64 0, .string ⟨#[]⟩] 26 (0, 0)) := alloc_at rfl _
    go_enter Tryz.func61, Tryz.ntmps61
    go_wp2_with (refine wpList_store_row rfl 26 (.tmp 4) (.tmp 10) rfl w.heap.size #[.int .i64 0, .int .i64 0, .string ⟨#[]⟩] rfl rfl 26 _ hz valSize rfl (val_one nulV7) ?_)
    refine bodyPost_ret (results_row_tmp7 rfl _ _ w.heap.size 26 #[.int .i64 0, .int .i64 0, .string ⟨#[]⟩] (0, 0) _ rfl (setRow_heap _ _ _ _ _ _ hz) Tryz.underlying26 rfl valSize _ rfl) rfl ⟨rfl, below_row ((Below.refl _ _).alloc (Nat.le_refl _) _) _ (Nat.le_refl _)⟩
end Go.Proofs.YtmhkmliebhbkdaaGreat

/- rel's columns: the first row that has a value. -/
namespace Go.Proofs.YtmhkmliebhbkdaaGreat
open Go.RowKit Go.Lib

/-- Has a row this value of a column? -/
def firstP (k : Nat) (v : Vl) (row : List Vl) : Bool := decide (k < row.length) && (decide ((ofV k row).k = v.k) && (decide ((ofV k row).i = v.i) && decide ((ofV k row).s.toList = v.s.toList)))
def Bxs (k : Nat) (v : Vl) (b1 b2 : Nat) (W : World) : Prop := W.cell? ⟨b1, 0, none⟩ = some (.int .i64 k) ∧ W.cell? ⟨b2, 0, none⟩ = some (.int .i64 v.k) ∧ W.cell? ⟨b2, 1, none⟩ = some (.int .i64 v.i) ∧ W.cell? ⟨b2, 2, none⟩ = some (.string v.s)
theorem Bxs.below {k : Nat} {v : Vl} {b1 b2 : Nat} {W W' : World} (h : Bxs k v b1 b2 W) (hb : Below W.heap.size W W') : Bxs k v b1 b2 W' :=
  have h1 := World.block_lt_of_cell? W _ h.1
  have h2 := World.block_lt_of_cell? W _ h.2.1
  ⟨(hb.cell (p := ⟨b1, 0, none⟩) h1).trans h.1, (hb.cell (p := ⟨b2, 0, none⟩) h2).trans h.2.1, (hb.cell (p := ⟨b2, 1, none⟩) h2).trans h.2.2.1, (hb.cell (p := ⟨b2, 2, none⟩) h2).trans h.2.2.2⟩
set_option maxRecDepth 100000 in
set_option maxHeartbeats 4000000 in
theorem first1_any (k : Nat) (v : Vl) (b1 b2 : Nat) (D : Option Addr) (m cd : Nat) (row : List Vl) (w : World) (hm : m ≤ 1000) (hv : Vals w w.heap.size D m row) (hb : Bxs k v b1 b2 w) :
    Calls Tryz.prog 121 #[.slice D m cd, .pointer (some ⟨b1, 0, none⟩), .pointer (some ⟨b2, 0, none⟩)] w fun e w' => e = .returned (.bool (firstP k v row)) ∧ Below w.heap.size w w' := by
  obtain ⟨z, hz⟩ : ∃ z, firstP k v row = z := ⟨_, rfl⟩
  rw [hz]
  have HZ := Lib.hid hz
  have hl := hv.1
  have c0 := hb.1
  have c1 := hb.2.1
  have c2 := hb.2.2.1
  have c3 := hb.2.2.2
  have l1 := World.block_lt_of_cell? w _ c0
  have l2 := World.block_lt_of_cell? w _ c1
  have HO := Lib.hid (of_any k D m cd row w hm hv)
  clear hz hv hb
  obtain ⟨x, HX⟩ : ∃ x, Hid (ofV k row = x) := ⟨_, Lib.hid rfl⟩
  rw [HX.out] at HO
  by_cases hk : k < m
  · rw [decide_eq_true hk] at HO
    have hk' : k < row.length := by omega
    go_enter Tryz.func121, Tryz.ntmps121
    go_wp2_with (go_at_call 61; (with_reducible refine HO.out.mono ?_); rintro e w1 ⟨rfl, hb1⟩; have HB1 := Lib.hid hb1; have hc1 := (bcell hb1).1; have hf1 := (bcell hb1).2; have hy1 := hb1.size; (try simp at hy1); have l11 : b1 < w1.heap.size := (by omega); have l21 : b2 < w1.heap.size := (by omega); clear hb1)
    all_goals go_ret
    all_goals exact ⟨congrArg (fun b => Ending.returned (Value.bool b)) (show _ = z from by rw [← HZ.out]; unfold firstP; rw [HX.out, decide_eq_true hk']; simp [*]), HB1.out.alloc HB1.out.size _⟩
  · rw [decide_eq_false hk] at HO
    have hk' : ¬ k < row.length := by omega
    go_enter Tryz.func121, Tryz.ntmps121
    go_wp2_with (go_at_call 61; (with_reducible refine HO.out.mono ?_); rintro e w1 ⟨rfl, hb1⟩; have HB1 := Lib.hid hb1; have hc1 := (bcell hb1).1; have hf1 := (bcell hb1).2; have hy1 := hb1.size; (try simp at hy1); have l11 : b1 < w1.heap.size := (by omega); have l21 : b2 < w1.heap.size := (by omega); clear hb1)
    all_goals go_ret
    all_goals exact ⟨congrArg (fun b => Ending.returned (Value.bool b)) (show _ = z from by rw [← HZ.out]; unfold firstP; rw [decide_eq_false hk']; rfl), HB1.out.alloc HB1.out.size _⟩
set_option maxRecDepth 100000 in
set_option maxHeartbeats 4000000 in
theorem index_rows (k : Nat) (v : Vl) (b1 b2 : Nat) (X : Nat → Prop) (A : Option Addr) (n c : Nat) (rows : List (List Vl)) (w : World) (hr : RowsAt w X A n rows) (hb : Bxs k v b1 b2 w) :
    Calls Tryz.prog 120 #[.slice A n c, .func (.func 121) #[] #[.pointer (some ⟨b1, 0, none⟩), .pointer (some ⟨b2, 0, none⟩)]] w fun e w' => e = .returned (.int .i64 (idxP (firstP k v) rows 0)) ∧ Below w.heap.size w w' := by
  have HR := Lib.hid hr
  have HL := Lib.hid hr.1
  have HBX := Lib.hid hb
  have hn1 := hr.2.1
  clear hr hb
  go_enter Tryz.func120, Tryz.ntmps120
  go_wp2_with (fail)
  go_loopw [8] (fun i wr => ∃ j : Nat, i = .int .i64 j ∧ j ≤ n ∧ Hid (Below w.heap.size w wr) ∧ Hid (idxP (firstP k v) rows 0 = idxP (firstP k v) (rows.drop j) j)) (fun i _ => n - (intOf i).toNat)
  case atStart => exact ⟨0, rfl, by omega, Below.refl _ _, rfl⟩
  case round =>
    obtain ⟨j, rfl, hj, HB, HI⟩ := hrel
    have hbs := HB.out.size
    by_cases hlt : j < n
    · have hjl : j < rows.length := by rw [HL.out]; exact hlt
      obtain ⟨a, D, m, cd, e, hc, g1, g2, g3, _⟩ := (HR.out.below HB.out).2.2 j hjl
      subst e
      have hel := World.block_lt_of_cell? wr _ hc
      have HD : Hid (rows.drop j = rows[j] :: rows.drop (j + 1)) := List.drop_eq_getElem_cons hjl
      have HF := Lib.hid (first1_any k v b1 b2 D m cd rows[j] wr g2 g3 (HBX.out.below HB.out))
      have HI2 : Hid (idxP (firstP k v) rows 0 = if firstP k v rows[j] = true then (j : Int) else idxP (firstP k v) (rows.drop (j + 1)) ((j : Int) + 1)) := Lib.hid (by rw [HI.out, HD.out]; rfl)
      clear HI g1 g3
      generalize firstP k v rows[j] = z at HF HI2
      cases z with
      | true =>
        go_wp2_with (go_at_call 121; (with_reducible refine HF.out.mono ?_); rintro e w1 ⟨rfl, hb1⟩; have HB1 := Lib.hid (HB.out.trans (hb1.mono hbs)); clear hb1)
        go_ret
        exact ⟨by rw [HI2.out]; simp, HB1.out⟩
      | false =>
        go_wp2_with (go_at_call 121; (with_reducible refine HF.out.mono ?_); rintro e w1 ⟨rfl, hb1⟩; have HB1 := Lib.hid (HB.out.trans (hb1.mono hbs)); clear hb1)
        go_roundw
        case rel => exact ⟨j + 1, by go_num, by omega, HB1.out, Lib.hid (by rw [HI2.out]; simp)⟩
        case measure => simp [intOf]; omega
    · go_wp2_with (fail)
      go_ret
      exact ⟨by rw [HI.out, List.drop_of_length_le (by have := HL.out; omega)]; rfl, HB.out⟩
set_option maxRecDepth 100000 in
set_option maxHeartbeats 4000000 in
theorem cfirst_any (k : Nat) (v : Vl) (X : Nat → Prop) (A : Option Addr) (n c : Nat) (rows : List (List Vl)) (w : World) (hr : RowsAt w X A n rows) :
    Calls Tryz.prog 80 #[.int .i64 k, .slice A n c, .agg #[.int .i64 v.k, .int .i64 v.i, .string v.s]] w fun e w' => e = .returned (.int .i64 (idxP (firstP k v) rows 0)) ∧ Below w.heap.size w w' := by
  have HB0 : Hid (Below w.heap.size w ((w.alloc (.cells #[.int .i64 k] 61)).alloc (.cells #[.int .i64 v.k, .int .i64 v.i, .string v.s] 26))) := ((Below.refl _ _).alloc (Nat.le_refl _) _).alloc (by simp) _
  have HK := Lib.hid (index_rows k v w.heap.size (w.heap.size + 1) X A n c rows ((w.alloc (.cells #[.int .i64 k] 61)).alloc (.cells #[.int .i64 v.k, .int .i64 v.i, .string v.s] 26)) (hr.below HB0.out) ⟨by simp [go_sem], by simp [go_sem], by simp [go_sem], by simp [go_sem]⟩)
  clear hr
  go_enter Tryz.func80, Tryz.ntmps80
  go_wp2_with (go_at_call 120; (with_reducible refine HK.out.mono ?_); rintro e w1 ⟨rfl, hb1⟩; have HB1 : Hid (Below w.heap.size w w1) := HB0.out.trans (hb1.mono (by simp; omega)); clear hb1)
  go_ret
  exact ⟨rfl, HB1.out⟩
set_option maxRecDepth 100000 in
set_option maxHeartbeats 4000000 in
theorem find_any (nm : ByteArray) (A : Option Addr) (n c : Nat) (key : Int) (U : Option Addr) (m cu : Nat) (R : Option Addr) (p cr : Nat) (op : ByteArray) (k i : Int) (vs s : ByteArray) (B : Option Addr) (q d : Nat) (Ar : Option Addr) (nr ca : Nat) (cols : List Cl) (us : List Int) (rs : List Rf) (l : List Ex) (P : Nat → Prop) (N : Nat) (rows : List (List Vl)) (X : Nat → Prop) (v : Vl) (k' : Nat) (w : World) (hk : key = k') (ht : TbS w nm A n c key U m cu R p cr op k i vs s B q d cols us rs l P N) (hr : RowsAt w X Ar nr rows) (hM : tableB n nm key cols us rs (.mk op ⟨k, i, vs⟩ s l) = true) :
    Calls Tryz.prog 39 #[.agg #[.string nm, .slice A n c, .int .i64 key, .slice U m cu, .slice R p cr, .string op, .int .i64 k, .int .i64 i, .string vs, .string s, .slice B q d, .slice Ar nr ca], .agg #[.int .i64 v.k, .int .i64 v.i, .string v.s]] w fun e w' => e = .returned (.int .i64 (idxP (firstP k' v) rows 0)) ∧ Below w.heap.size w w' := by
  have HT := Lib.hid ht
  have HR := Lib.hid hr
  have HM : Hid (∀ W, Below w.heap.size w W → Calls Tryz.prog 27 #[.agg #[.string nm, .slice A n c, .int .i64 key, .slice U m cu, .slice R p cr, .string op, .int .i64 k, .int .i64 i, .string vs, .string s, .slice B q d]] W fun e w' => e = .returned (.bool true) ∧ Below W.heap.size W w') := Lib.hid fun W hW => by
    have h := tmay6_any nm A n c key U m cu R p cr op k i vs s B q d cols us rs l P N W (HT.out.below hW)
    rw [hM] at h
    exact h
  have HF : Hid (∀ W, Below w.heap.size w W → Calls Tryz.prog 80 #[.int .i64 k', .slice Ar nr ca, .agg #[.int .i64 v.k, .int .i64 v.i, .string v.s]] W fun e w' => e = .returned (.int .i64 (idxP (firstP k' v) rows 0)) ∧ Below W.heap.size W w') := Lib.hid fun W hW => cfirst_any k' v X Ar nr ca rows W (HR.out.below hW)
  subst hk
  clear ht hr hM
  go_enter Tryz.func39, Tryz.ntmps39
  go_upto_region 1 with (fail)
  refine wp_gen (fun W => Below w.heap.size w W ∧ W.heap[w.heap.size]? = some (.cells #[.string nm, .slice A n c, .int .i64 k', .slice U m cu, .slice R p cr, .string op, .int .i64 k, .int .i64 i, .string vs, .string s, .slice B q d, .slice Ar nr ca] 34 (0, 0)) ∧ W.heap[w.heap.size + 1]? = some (.cells #[.int .i64 v.k, .int .i64 v.i, .string v.s] 26 (0, 0))) ⟨((Below.refl _ _).alloc (Nat.le_refl _) _).alloc (by simp) _, (Below.heap_alloc _ _ _ (by simp)).trans (alloc_at rfl _), alloc_at (by simp) _⟩ fun w0 hw0 => ?_
  have H0 := Lib.hid hw0
  have g0 := Lib.cell_of_heap hw0.2.1 0
  have g1 := Lib.cell_of_heap hw0.2.1 1
  have g2 := Lib.cell_of_heap hw0.2.1 2
  have g3 := Lib.cell_of_heap hw0.2.1 3
  have g4 := Lib.cell_of_heap hw0.2.1 4
  have g5 := Lib.cell_of_heap hw0.2.1 5
  have g6 := Lib.cell_of_heap hw0.2.1 6
  have g7 := Lib.cell_of_heap hw0.2.1 7
  have g8 := Lib.cell_of_heap hw0.2.1 8
  have g9 := Lib.cell_of_heap hw0.2.1 9
  have g10 := Lib.cell_of_heap hw0.2.1 10
  have g11 := Lib.cell_of_heap hw0.2.1 11
  simp only [List.getElem?_toArray, List.getElem?_cons_zero, List.getElem?_cons_succ] at g0 g1 g2 g3 g4 g5 g6 g7 g8 g9 g10 g11
  have h0 := Lib.cell_of_heap hw0.2.2 0
  have h1 := Lib.cell_of_heap hw0.2.2 1
  have h2 := Lib.cell_of_heap hw0.2.2 2
  simp only [List.getElem?_toArray, List.getElem?_cons_zero, List.getElem?_cons_succ] at h0 h1 h2
  have hz1 := lt_of_block hw0.2.2
  have hz0 := lt_of_block hw0.2.1
  clear hw0
  go_wp2_with (first
    | (go_at_call 27; (with_reducible refine (HM.out _ H0.out.1).mono ?_); rintro e w1 ⟨rfl, hb1⟩; have HB1 := Lib.hid (H0.out.1.trans (hb1.mono H0.out.1.size)); have hc1 := (bcell hb1).1; have hy1 := hb1.size; have hz11 : w.heap.size + 1 < w1.heap.size := (by omega); have hz01 : w.heap.size < w1.heap.size := (by omega); clear hb1)
    | (go_at_call 80; (with_reducible refine (HF.out _ HB1.out).mono ?_); rintro e w2 ⟨rfl, hb2⟩; have HB2 := Lib.hid (HB1.out.trans (hb2.mono HB1.out.size)); clear hb2))
  go_ret
  exact ⟨rfl, HB2.out⟩
end Go.Proofs.YtmhkmliebhbkdaaGreat
