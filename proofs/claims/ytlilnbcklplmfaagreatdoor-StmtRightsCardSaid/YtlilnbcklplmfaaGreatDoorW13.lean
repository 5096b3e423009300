import Derived.Test.YtlilnbcklplmfaaGreatDoorW12
import Derived.Shelf.Strings.OnBuilder
import Derived.Ground.GgwProg
import Derived.Ground.Names2Prog
import Derived.Test.YtlilnbcklplmfaaGreatDoorProg
import Derived.Shelf.Lays
import Derived.Test.YtlilnbcklplmfaaGreatDoorW02
import Derived.Test.YtlilnbcklplmfaaGreatDoorW07

/- The statement parser: an expression; WHERE; SELECT. -/
namespace Go.Proofs.YtlilnbcklplmfaaGreatDoor
open Go.RowKit Go.Lib

theorem Sz.put2 {W : World} {g : Nat} {A : Option Addr} {c : Nat} {l : List Tn} {at' : Nat} {failed : Bool} (h : Sz W g A c l at' failed) (f : Bool) : Sz (W.setCell ⟨g, 2, none⟩ (.bool f)) g A c l at' f := by
  refine ⟨?_, fun j hj => ?_, h.libs _ _⟩
  · have := h.st
    simp [World.setCell, Array.getElem?_modify, this]
  · obtain ⟨a, e, hne, hc⟩ := h.tk j hj
    exact ⟨a, e, hne, hc.keep (Below.heap_setCell _ _ _ _ (by rw [add_block]; show _ ≠ g; omega))⟩
theorem Sz.set6 {W : World} {g : Nat} {A : Option Addr} {c : Nat} {l : List Tn} {at' : Nat} {failed : Bool} (h : Sz W g A c l at' failed) {b : Nat} (hb : g < b) (x y z u v r : Value) : Sz (set6 W b x y z u v r) g A c l at' failed :=
  (((((h.other x hb).other y hb).other z hb).other u hb).other v hb).other r hb
theorem set6_heap {W : World} {b : Nat} {a0 a1 a2 a3 a4 a5 : Value} {T : TypeId} (h : W.heap[b]? = some (.cells #[a0, a1, a2, a3, a4, a5] T (0, 0))) (x y z u v r : Value) : (set6 W b x y z u v r).heap[b]? = some (.cells #[x, y, z, u, v, r] T (0, 0)) :=
  any_set (any_set (any_set (any_set (any_set (any_set h 0 x) 1 y) 2 z) 3 u) 4 v) 5 r
theorem add_add (a : Addr) (n m : Nat) : (a.add n).add m = a.add (n + m) := by
  unfold Addr.add
  by_cases hn : n = 0
  · subst hn; simp
  · by_cases hm : m = 0
    · subst hm; simp
    · rw [if_neg hn, if_neg hm, if_neg (by omega)]
      simp [Nat.add_assoc]
/-- The tokens from a place on. -/
theorem Sz.rest {W W' : World} {g : Nat} {a : Addr} {c : Nat} {l : List Tn} {at' : Nat} {failed : Bool} (h : Sz W g (some a) c l at' failed) (hb : ∀ q, q < g → W'.heap[q]? = W.heap[q]?) (k : Nat) :
    ∀ j (hj : j < (l.drop k).length), ∃ a', some (a.add (k * 2)) = some a' ∧ TnAt W' (a'.add (j * 2)) (l.drop k)[j] := fun j hj => by
  have hj' : k + j < l.length := by rw [List.length_drop] at hj; omega
  obtain ⟨a', e, h1, h2⟩ := h.tk (k + j) hj'
  injection e with e
  subst e
  refine ⟨_, rfl, ?_⟩
  rw [add_add, show k * 2 + j * 2 = (k + j) * 2 by omega, List.getElem_drop]
  exact h2.keep (hb _ (by rw [add_block]; exact h1))
/-- What a fresh box of an expression is. -/
def newS : Value → List Nat → World → Prop := fun v F W => ∃ b, v = .pointer (some ⟨b, 0, none⟩) ∧ F = [b] ∧ W.heap[b]? = some (.cells #[.string ⟨#[]⟩, .int .i64 0, .int .i64 0, .string ⟨#[]⟩, .string ⟨#[]⟩, .slice none 0 0] 30 (0, 0))
theorem newS_lasting : ∀ u F, Lasting (newS u F) := fun u F W W' hb ⟨b, h1, h2, h3⟩ => ⟨b, h1, h2, (hb.block _ (lt_of_block h3)).trans h3⟩
theorem newS_made {P : Program} {w : World} : Rel1 P newS w (.ok (.value (.pointer (some ⟨w.heap.size, 0, none⟩))) (w.alloc (.cells #[.string ⟨#[]⟩, .int .i64 0, .int .i64 0, .string ⟨#[]⟩, .string ⟨#[]⟩, .slice none 0 0] 30))) :=
  ⟨[w.heap.size], ⟨_, rfl, rfl, alloc_at rfl _⟩, fun b hb => by simp at hb; subst hb; simp, (Below.refl _ _).alloc (Nat.le_refl _) _⟩
/-- What a parsed expression is. -/
def parR (t : Ex) (N n2 : Nat) : Value → List Nat → World → Prop := fun v F W => ∃ u, v = .tuple #[EVt t u, .int .i64 n2, .int .i64 0] ∧ Tr W (fun b => b ∈ F) N t u
theorem parR_lasting (t : Ex) (N n2 : Nat) : ∀ u F, Lasting (parR t N n2 u F) := fun u F W W' hb ⟨x, h1, h2⟩ => ⟨x, h1, h2.below hb⟩
/-- An expression that is parsed, in block b; the parser behind it. -/
structure Xs (w : World) (g : Nat) (A : Option Addr) (c : Nat) (l : List Tn) (at' : Nat) (failed : Bool) (t : Ex) (u : Value) (N b : Nat) (W : World) : Prop where
  sz : Sz W g A c l at' failed
  gr : w.grownBy W (some g)
  lg : g < w.heap.size
  lb : w.heap.size < b
  tr : Tr W (fun q => w.heap.size < q ∧ q ≠ b) N t u
  box : W.heap[b]? = some (.cells #[.string t.op, .int .i64 t.x.k, .int .i64 t.x.i, .string t.x.s, .string t.s, u] 30 (0, 0))
  res : W.heap[w.heap.size]? = some (.cells #[.string ⟨#[]⟩, .int .i64 0, .int .i64 0, .string ⟨#[]⟩, .string ⟨#[]⟩, .slice none 0 0] 30 (0, 0))
section
variable {w W W' : World} {g : Nat} {A : Option Addr} {c : Nat} {l : List Tn} {at' at2 : Nat} {failed f2 : Bool} {t : Ex} {u : Value} {N b : Nat}
theorem Xs.put (h : Xs w g A c l at' failed t u N b W) {o : Nat} {v : Value} (hs : Sz (W.setCell ⟨g, o, none⟩ v) g A c l at2 f2) : Xs w g A c l at2 f2 t u N b (W.setCell ⟨g, o, none⟩ v) := by
  have h1 := h.lg
  have h2 := h.lb
  exact ⟨hs, grow_trans h.gr (grow_set _ _ _ _), h.lg, h.lb, h.tr.keep (fun q hq _ => Below.heap_setCell _ _ _ _ (by show q ≠ g; omega)) (fun _ hq _ => hq), (Below.heap_setCell _ _ _ _ (by show b ≠ g; omega)).trans h.box, (Below.heap_setCell _ _ _ _ (by show w.heap.size ≠ g; omega)).trans h.res⟩
end

set_option maxRecDepth 100000 in
set_option maxHeartbeats 4000000 in
theorem sexpr_ok {N : Nat} (g : Nat) (a : Addr) (c : Nat) (l : List Tn) (at' : Nat) (t : Ex) (n2 : Nat) (w : World) (hz : Sz w g (some a) c l at' false) (hl : l.length ≤ 100000) (ha : at' ≤ l.length) (hcc : at' < c)
    (hor : ∀ (g' : Nat) (W : World), Pz W g' (some (a.add (at' * 2))) (c - (at')) (l.drop (at')) 0 0 false → Calls Tryz.prog 215 #[.pointer (some ⟨g', 0, none⟩)] W (Res W g' (some (a.add (at' * 2))) (c - (at')) (l.drop (at')) N (fun _ => False) t n2 0 false)) (hn2 : n2 ≤ 100000) :
    Calls Tryz.prog 141 #[.pointer (some ⟨g, 0, none⟩)] w fun e w' => ∃ u, e = .returned (EVt t u) ∧ Tr w' (fun b => w.heap.size ≤ b) N t u ∧ Sz w' g (some a) c l (at' + n2) false ∧ w.grownBy w' (some g) := by
  have HZ := Lib.hid hz
  have HO := Lib.hid hor
  have hgl := hz.lt
  have e0 := hz.c0
  have e1 := hz.c1
  have e2 := hz.c2
  have hld : (l.drop at').length = l.length - at' := List.length_drop ..
  have HPA : Hid (∀ W : World, LibE W → (∀ q, q < g → W.heap[q]? = w.heap[q]?) → Calls Tryz.prog 181 #[.slice (some (a.add (at' * 2))) (l.length - at') (c - at')] W fun e w' => ∃ u, e = .returned (.tuple #[EVt t u, .int .i64 n2, .int .i64 0]) ∧ Tr w' (fun b => W.heap.size ≤ b) N t u ∧ Below W.heap.size W w') := Lib.hid fun W hL hb => by
    have := parse_ok (N := N) (some (a.add (at' * 2))) (c - at') (l.drop at') t n2 W (HZ.out.rest hb at') hL HO.out
    rw [hld] at this
    exact this
  clear hz hor hld
  obtain ⟨n, HN⟩ : ∃ n, Hid (l.length = n) := ⟨_, Lib.hid rfl⟩
  rw [HN.out] at e0 hl ha HPA
  have hcn : ¬ c = at' := by omega
  have hslc : ∀ W : World, (Instr.sliceAt 55 (.slice (some a) n c) (some (.int .i64 at')) none none).run Tryz.prog W = .ok (.slice (some (a.add (at' * 2))) (n - at') (c - at')) W := fun W => by
    have hq : (0 : Int) ≤ at' ∧ (at' : Int) ≤ n := by omega
    simp [Instr.sliceAt, Instr.slice, Instr.sliceBounds, Instr.sliceBound, run_underlying Tryz.underlying55, go_sem, hq, hcn]
    intro h
    omega
  go_enter Tryz.func141, Tryz.ntmps141
  go_upto_region 3 with (fail)
  refine wp_gen (fun W : World => Hid (Sz W g (some a) c l at' false ∧ w.grownBy W (some g) ∧ W.heap[w.heap.size]? = some (.cells #[.string ⟨#[]⟩, .int .i64 0, .int .i64 0, .string ⟨#[]⟩, .string ⟨#[]⟩, .slice none 0 0] 30 (0, 0)) ∧ Below w.heap.size w W)) (Lib.hid ⟨HZ.out.alloc _, grow_alloc _ _ _, alloc_at rfl _, (Below.refl _ _).alloc (Nat.le_refl _) _⟩) fun wa hwa => ?_
  have f0 := hwa.out.1.c0
  have f1 := hwa.out.1.c1
  have f2 := hwa.out.1.c2
  rw [HN.out] at f0
  have hgl2 := hwa.out.1.lt
  have hsa : w.heap.size < wa.heap.size := lt_of_block hwa.out.2.2.1
  clear e0 e1 e2
  refine detM_begin [.val (.pointer (some ⟨g, 0, none⟩)), .val (.pointer (some ⟨g, 0, none⟩)), .val (.pointer (some ⟨g, 0, none⟩)), .val (.slice (some a) n c), .val (.pointer (some ⟨g, 0, none⟩)), .val (.pointer (some ⟨g, 0, none⟩)), .val (.pointer (some ⟨g, 1, none⟩)), .val (.int .i64 at'), .val (.slice (some (a.add (at' * 2))) (n - at') (c - at')), .rel (parR t N n2), .pure, .pure, .pure, .pure, .rel newS] 15 18 (by kernel_rfl) (by kernel_rfl) ?_
  refine detM_val 0 (by kernel_rfl) rfl rfl (yields_of rfl fun w1 hb1 => ?_) ?_
  · have hc1 := bcellD hb1
    have HBx := Lib.hid hb1
    clear hb1
    go_simp
    exact Det1_same
  simp only [Act.put]
  refine detM_val 1 (by kernel_rfl) rfl rfl (yields_of rfl fun w1 hb1 => ?_) ?_
  · have hc1 := bcellD hb1
    have HBx := Lib.hid hb1
    clear hb1
    go_simp
    exact Det1_same
  simp only [Act.put]
  refine detM_val 2 (by kernel_rfl) rfl rfl (yields_of rfl fun w1 hb1 => ?_) ?_
  · have hc1 := bcellD hb1
    have HBx := Lib.hid hb1
    clear hb1
    go_simp
    exact Det1_same
  simp only [Act.put]
  refine detM_val 3 (by kernel_rfl) rfl rfl (yields_of rfl fun w1 hb1 => ?_) ?_
  · have hc1 := bcellD hb1
    have HBx := Lib.hid hb1
    clear hb1
    go_simp
    exact Det1_same
  simp only [Act.put]
  refine detM_val 4 (by kernel_rfl) rfl rfl (yields_of rfl fun w1 hb1 => ?_) ?_
  · have hc1 := bcellD hb1
    have HBx := Lib.hid hb1
    clear hb1
    go_simp
    exact Det1_same
  simp only [Act.put]
  refine detM_val 5 (by kernel_rfl) rfl rfl (yields_of rfl fun w1 hb1 => ?_) ?_
  · have hc1 := bcellD hb1
    have HBx := Lib.hid hb1
    clear hb1
    go_simp
    exact Det1_same
  simp only [Act.put]
  refine detM_val 6 (by kernel_rfl) rfl rfl (yields_of rfl fun w1 hb1 => ?_) ?_
  · have hc1 := bcellD hb1
    have HBx := Lib.hid hb1
    clear hb1
    go_simp
    exact Det1_same
  simp only [Act.put]
  refine detM_val 7 (by kernel_rfl) rfl rfl (yields_of rfl fun w1 hb1 => ?_) ?_
  · have hc1 := bcellD hb1
    have HBx := Lib.hid hb1
    clear hb1
    go_simp
    exact Det1_same
  simp only [Act.put]
  refine detM_val 8 (by kernel_rfl) rfl rfl (yields_of rfl fun w1 hb1 => ?_) ?_
  · have hc1 := bcellD hb1
    have HBx := Lib.hid hb1
    clear hb1
    go_simp
    exact Det1_same
  simp only [Act.put]
  refine detM_rel 9 (by kernel_rfl) rfl rfl (yields_rel (by rfl) (parR_lasting t N n2) fun w1 hw1 => ?_) ?_
  · have HB1 := Lib.hid hw1.below
    clear hw1
    go_simp
    refine (HPA.out w1 (hwa.out.1.drew.libE.keep HB1.out (Nat.le_refl _)) (fun q hq => (HB1.out.block q (by show q < wa.heap.size; omega)).trans (hwa.out.2.2.2.block q (by omega)))).mono ?_
    rintro e w2 ⟨u, rfl, ht, hb2⟩
    refine ⟨_, List.range' w1.heap.size (w2.heap.size - w1.heap.size), rfl, ⟨u, rfl, ht.keep (fun _ _ _ => rfl) (fun b h1 h2 => by rw [List.mem_range'_1]; omega)⟩, fun b hb => ?_, hb2⟩
    rw [List.mem_range'_1] at hb
    have := hb2.size
    omega
  rintro v9 F9 w9 hw9
  have q90 : parR t N n2 v9 F9 w9 := (hw9.ents _ List.mem_cons_self).1
  unfold parR at q90
  obtain ⟨u, hv9, hu9⟩ := q90
  obtain ⟨Bu, qu, hBu, -⟩ := hu9.form
  subst hBu
  subst hv9
  clear hu9
  clear hw9
  simp only [Act.put]
  refine detM_pure 10 (.tuple #[EVt t (.slice Bu t.l.length qu), .int .i64 n2, .int .i64 0]) (by kernel_rfl) rfl rfl rfl (fun w1 => ?_) ?_
  · go_simp
  simp only [Act.put]
  refine detM_pure 11 (EVt t (.slice Bu t.l.length qu)) (by kernel_rfl) rfl rfl rfl (fun w1 => ?_) ?_
  · go_simp
  simp only [Act.put]
  refine detM_rel 14 (by kernel_rfl) rfl rfl (yields_rel (by rfl) newS_lasting fun w1 hw1 => ?_) ?_
  · clear hw1
    go_simp
    exact newS_made
  rintro v14 F14 w14 hw14
  have q14 : newS v14 F14 w14 := (hw14.ents _ List.mem_cons_self).1
  clear hw14
  unfold newS at q14
  obtain ⟨b, hv14, hF14, -⟩ := q14
  subst hv14
  subst hF14
  simp only [Act.put]
  refine detM_pair 12 13 (.int .i64 n2) (.int .i64 0) (by kernel_rfl) rfl rfl ?a3 ?a4 ?a5 ?a6 ?a7 ?a8 ?a9 ?a10 ?a11 ?a12 ?a13 ?a14 ?a15 ?a16
  case a3 => rfl
  case a4 => rfl
  case a7 => rfl
  case a8 => rfl
  case a9 => rfl
  case a10 => rfl
  case a15 => exact Act.put_comm _ _ _ (fun d h => by cases h; decide)
  case a5 => exact fun _ _ _ h => h
  case a6 => exact fun _ _ _ h => h
  case a11 => intro w1; go_simp
  case a12 => intro w1; simp only [Act.put]; go_simp
  case a13 => intro w1; go_simp
  case a14 => intro w1; simp only [Act.put]; go_simp
  case a16 =>
  intro w1 hw1
  refine wpAny_chain [15, 16, 17] _ _ _ _ (by kernel_rfl) (by decide) ?_
  refine (congrFun (congrFun (wpOps_picked [15, 16, 17] [_, _, _] rfl) _) _).mpr ?_
  simp only [Act.put, EVt]
  have q14 := hw1.ents _ List.mem_cons_self
  have q9 := hw1.ents _ (List.mem_cons_of_mem _ List.mem_cons_self)
  have ap := hw1.apart
  simp only [List.pairwise_cons, List.mem_cons, List.not_mem_nil, or_false, forall_eq_or_imp, forall_eq] at ap
  have HB1 : Hid (Below wa.heap.size wa w1) := ((Below.refl _ _).drew).trans (hw1.below)
  have z14 : newS (.pointer (some ⟨b, 0, none⟩)) [b] w1 := q14.1
  have z9 : parR t N n2 (.tuple #[EVt t (.slice Bu t.l.length qu), .int .i64 n2, .int .i64 0]) F9 w1 := q9.1
  unfold newS at z14
  unfold parR at z9
  obtain ⟨b', hb', -, hbx⟩ := z14
  obtain ⟨u', hu', htr⟩ := z9
  have hu2 : u' = (.slice Bu t.l.length qu) := by
    injection hu' with hu'
    have := congrArg (fun x : Array Value => x[0]?) hu'
    simp [EVt] at this
    exact this.symm
  clear hu'
  rw [hu2] at htr
  injection hb' with hb'; injection hb' with hb'; injection hb' with hb'
  subst hb'
  have Z14 := Lib.hid hbx
  have hgb : wa.heap.size ≤ b := (q14.2.2 b List.mem_cons_self).1
  have hnF : ¬ b ∈ F9 := ap.1
  have hX : Xs w g (some a) c l at' false t (.slice Bu t.l.length qu) N b (set6 w1 b (.string t.op) (.int .i64 t.x.k) (.int .i64 t.x.i) (.string t.x.s) (.string t.s) (.slice Bu t.l.length qu)) :=
    ⟨(hwa.out.1.below HB1.out).set6 (by omega) _ _ _ _ _ _, grow_set6 (grow_trans hwa.out.2.1 (grow_below HB1.out _)) (by omega) _ _ _ _ _ _, hgl, by omega,
      htr.set6 (fun hq => hnF hq) (fun q hq _ => ⟨by have h : wa.heap.size ≤ q := (q9.2.2 q hq).1; omega, fun e => hnF (e ▸ hq)⟩) _ _ _ _ _ _, set6_heap hbx _ _ _ _ _ _, (set6_block _ _ _ _ _ _ _ _ (by omega)).trans ((HB1.out.block _ hsa).trans hwa.out.2.2.1)⟩
  have HX := Lib.hid hX
  have hlb : b < w1.heap.size := lt_of_block hbx
  have EZ := box_cells (t := zT) hbx; have y0 := EZ.c0; have y1 := EZ.c1; have y2 := EZ.c2; have y3 := EZ.c3; have y4 := EZ.c4; have y5 := EZ.c5; have yf := Lib.frozen_of_heap hbx; simp only [Nat.zero_add] at y0 y1 y2 y3 y4 y5; clear EZ
  clear f0 f1 f2 q14 q9 ap htr hX hw1
  go_upto_region 4 with (fail)
  refine wp_gen (Xs w g (some a) c l at' false t (.slice Bu t.l.length qu) N b) HX.out fun w3 h3 => ?_
  have H3 := Lib.hid h3
  clear h3 y0 y1 y2 y3 y4 y5 yf hbx Z14
  have d1 := H3.out.sz.c1
  have df := H3.out.sz.fz 1
  have dl := H3.out.sz.lt
  go_upto_region 5 with (fail)
  refine wp_gen (Xs w g (some a) c l (at' + n2) false t (.slice Bu t.l.length qu) N b) (H3.out.put (H3.out.sz.goto (at' + n2))) fun w4 h4 => ?_
  have H4 := Lib.hid h4
  clear h4 d1 df dl
  have d2 := H4.out.sz.c2
  have df := H4.out.sz.fz 2
  have dl := H4.out.sz.lt
  go_upto_region 6 with (fail)
  refine wp_gen (Xs w g (some a) c l (at' + n2) false t (.slice Bu t.l.length qu) N b) (H4.out.put (H4.out.sz.put2 false)) fun w5 h5 => ?_
  have H5 := Lib.hid h5
  clear h5 d2 df dl
  have EX := box_cells H5.out.box
  have k0 := EX.c0; have k1 := EX.c1; have k2 := EX.c2; have k3 := EX.c3; have k4 := EX.c4; have k5 := EX.c5
  simp only [Nat.zero_add] at k0 k1 k2 k3 k4 k5
  clear EX
  have hbx := H5.out.res
  have hl5 := lt_of_block hbx
  have EZ := box_cells (t := zT) hbx; have y0 := EZ.c0; have y1 := EZ.c1; have y2 := EZ.c2; have y3 := EZ.c3; have y4 := EZ.c4; have y5 := EZ.c5; have yf := Lib.frozen_of_heap hbx; simp only [Nat.zero_add] at y0 y1 y2 y3 y4 y5; clear EZ
  go_wp2
  refine bodyPost_ret (v := EVt t (.slice Bu t.l.length qu)) (by simp [results, Tryz.results141, go_sem, EVt, *]) rfl ⟨(.slice Bu t.l.length qu), rfl, ?_⟩
  exact ⟨H5.out.tr.set6 (fun h => absurd h.1 (by omega)) (fun q hq _ => by omega) _ _ _ _ _ _, H5.out.sz.set6 hgl _ _ _ _ _ _, grow_set6 H5.out.gr (Nat.le_refl _) _ _ _ _ _ _⟩

end Go.Proofs.YtlilnbcklplmfaaGreatDoor

/- The statement parser: WHERE; SELECT. -/
namespace Go.Proofs.YtlilnbcklplmfaaGreatDoor
open Go.RowKit Go.Lib

set_option maxRecDepth 100000 in
set_option maxHeartbeats 4000000 in
theorem swhere_ok {N : Nat} (g : Nat) (a : Addr) (c : Nat) (l : List Tn) (at' : Nat) (t : Ex) (n2 : Nat) (w : World) (hz : Sz w g (some a) c l at' false) (hl : l.length ≤ 100000) (ha : at' + 1 ≤ l.length) (hcc : at' + 1 < c) (ht : Ny l at' false ⟨1, ⟨#[87, 72, 69, 82, 69]⟩⟩)
    (hor : ∀ (g' : Nat) (W : World), Pz W g' (some (a.add ((at' + 1) * 2))) (c - (at' + 1)) (l.drop (at' + 1)) 0 0 false → Calls Tryz.prog 215 #[.pointer (some ⟨g', 0, none⟩)] W (Res W g' (some (a.add ((at' + 1) * 2))) (c - (at' + 1)) (l.drop (at' + 1)) N (fun _ => False) t n2 0 false)) (hn2 : n2 ≤ 100000) :
    Calls Tryz.prog 96 #[.pointer (some ⟨g, 0, none⟩)] w fun e w' => ∃ u, e = .returned (EVt t u) ∧ Tr w' (fun b => w.heap.size ≤ b) N t u ∧ Sz w' g (some a) c l (at' + 1 + n2) false ∧ w.grownBy w' (some g) := by
  have HZ := Lib.hid (And.intro hz ht)
  have HO := Lib.hid hor
  have hgl := hz.lt
  clear hz hor ht
  go_enter Tryz.func96, Tryz.ntmps96
  go_wp2_with (first
    | (go_at_call 136; (with_reducible refine (take1_any g (some a) c l at' false (w.heap.size + 1) 1 ⟨#[87, 72, 69, 82, 69]⟩ ⟨1, ⟨#[87, 72, 69, 82, 69]⟩⟩ ((w.alloc (.cells #[.string ⟨#[]⟩, .int .i64 0, .int .i64 0, .string ⟨#[]⟩, .string ⟨#[]⟩, .slice none 0 0] 30)).alloc (.cells #[.string ⟨#[87, 72, 69, 82, 69]⟩] 9)) ((HZ.out.1.alloc _).alloc _) hl (by omega) (by omega) (wds1 _ (by simp) _) HZ.out.2).mono ?_); rintro e w1 ⟨rfl, hz1, hg1⟩; rw [show isB ⟨1, ⟨#[87, 72, 69, 82, 69]⟩⟩ ⟨#[87, 72, 69, 82, 69]⟩ = true by simp [isB]] at hz1 ⊢; rw [if_pos rfl] at hz1; have HB1 : Hid (Sz w1 g (some a) c l (at' + 1) false ∧ w.grownBy w1 (some g) ∧ w1.heap[w.heap.size]? = some (.cells #[.string ⟨#[]⟩, .int .i64 0, .int .i64 0, .string ⟨#[]⟩, .string ⟨#[]⟩, .slice none 0 0] 30 (0, 0))) := ⟨hz1, grow_trans (grow_trans (grow_alloc _ _ _) (grow_alloc _ _ _)) hg1, (hg1.block _ (by simp; omega) (fun e => by injection e with e; omega)).trans ((Below.heap_alloc _ _ _ (by simp)).trans (alloc_at rfl _))⟩; clear hz1 hg1)
    | (go_at_call 141; (with_reducible refine (sexpr_ok (N := N) g a c l (at' + 1) t n2 w1 HB1.out.1 hl ha hcc HO.out hn2).mono ?_); rintro e w2 ⟨u, rfl, ht2, hz2, hg2⟩; obtain ⟨Bu, qu, rfl, _⟩ := ht2.form; have hs1 := lt_of_block HB1.out.2.2; have hbx : w2.heap[w.heap.size]? = some (.cells #[.string ⟨#[]⟩, .int .i64 0, .int .i64 0, .string ⟨#[]⟩, .string ⟨#[]⟩, .slice none 0 0] 30 (0, 0)) := (hg2.block _ hs1 (fun e => by injection e with e; omega)).trans HB1.out.2.2; have hl2 := lt_of_block hbx; have H2 := Lib.hid (And.intro ht2 (And.intro hz2 (grow_trans HB1.out.2.1 hg2))); clear ht2 hz2 hg2; unfold EVt; have EZ := box_cells (t := zT) hbx; have y0 := EZ.c0; have y1 := EZ.c1; have y2 := EZ.c2; have y3 := EZ.c3; have y4 := EZ.c4; have y5 := EZ.c5; have yf := Lib.frozen_of_heap hbx; simp only [Nat.zero_add] at y0 y1 y2 y3 y4 y5; clear EZ))
  refine bodyPost_ret (v := EVt t (.slice Bu t.l.length qu)) (by simp [results, Tryz.results96, go_sem, EVt, *]) rfl ⟨.slice Bu t.l.length qu, rfl, ?_⟩
  exact ⟨H2.out.1.set6 (b := w.heap.size) (fun h => by omega) (fun q hq _ => by omega) _ _ _ _ _ _, H2.out.2.1.set6 hgl _ _ _ _ _ _, grow_set6 H2.out.2.2 (Nat.le_refl _) _ _ _ _ _ _⟩

def tsS : List Tk := [⟨1, [83, 69, 76, 69, 67, 84]⟩, ⟨4, [42]⟩, ⟨1, [70, 82, 79, 77]⟩, ⟨1, [116]⟩, ⟨1, [87, 72, 69, 82, 69]⟩, ⟨1, [107]⟩, ⟨4, [61]⟩, ⟨2, [49]⟩]
def tsI : List Tk := [⟨1, [73, 78, 83, 69, 82, 84]⟩, ⟨1, [73, 78, 84, 79]⟩, ⟨1, [116]⟩, ⟨1, [86, 65, 76, 85, 69, 83]⟩, ⟨4, [40]⟩, ⟨2, [49]⟩, ⟨4, [44]⟩, ⟨3, [97]⟩, ⟨4, [44]⟩, ⟨1, [78, 85, 76, 76]⟩, ⟨4, [41]⟩]
theorem ls8 : (tsS.map tnOf).length ≤ 100000 := by decide
theorem li11 : (tsI.map tnOf).length ≤ 100000 := by decide
def selC (u : Value) : Array Value := #[.string ⟨#[115, 101, 108, 101, 99, 116]⟩, .string ⟨#[116]⟩, .string ⟨#[]⟩, .slice none 0 0, .slice none 0 0, .string ⟨#[]⟩, .slice none 0 0, .slice none 0 0, .string ⟨#[]⟩, .int .i64 0, .int .i64 0, .string ⟨#[]⟩, .string ⟨#[]⟩, .slice none 0 0, .slice none 0 0, .slice none 0 0, .string ⟨#[61]⟩, .int .i64 0, .int .i64 0, .string ⟨#[]⟩, .string ⟨#[]⟩, u, .string ⟨#[]⟩]
def SelC (n : Nat) (W : World) (cs : Array Value) : Prop := ∃ u, cs = selC u ∧ u.oneCell' = true ∧ Tr W (fun b => n ≤ b) 1 keT u
theorem sel_one (u : Value) (h : u.oneCell' = true) : (selC u).all (·.oneCell') = true := by simp [selC, Value.oneCell'] at h ⊢; exact h
theorem selKp : Kp SelC where
  mono := fun ⟨u, h1, h2, h3⟩ hm => ⟨u, h1, h2, h3.keep (fun _ _ _ => rfl) (fun _ h _ => Nat.le_trans hm h)⟩
  keep := fun ⟨u, h1, h2, h3⟩ hk => ⟨u, h1, h2, h3.keep hk (fun _ h _ => h)⟩
  one := fun ⟨u, h1, h2, _⟩ => h1 ▸ sel_one u h2
  size := fun ⟨u, h1, _, _⟩ => by rw [h1]; rfl
theorem ns3 : Ny (tsS.map tnOf) 3 false ⟨1, ⟨#[116]⟩⟩ := .inr (.inr ⟨rfl, rfl⟩)
theorem ns4 : Ny (tsS.map tnOf) 4 false ⟨1, ⟨#[87, 72, 69, 82, 69]⟩⟩ := .inr (.inr ⟨rfl, rfl⟩)
theorem here_s : ∀ j, Here (tsS.map tnOf) 1 false [⟨#[42]⟩, ⟨#[70, 82, 79, 77]⟩] j true := fun j hj => by
  have hj' : j < 2 := hj
  rcases j with _ | _ | j
  · exact ⟨⟨4, ⟨#[42]⟩⟩, .inr (.inr ⟨rfl, rfl⟩), by simp [isB]⟩
  · exact ⟨⟨1, ⟨#[70, 82, 79, 77]⟩⟩, .inr (.inr ⟨rfl, rfl⟩), by simp [isB]⟩
  · omega
theorem nm_t : isNm ⟨1, ⟨#[116]⟩⟩ = true := by
  unfold isNm nmB
  rw [res_no (by decide), show nameB ⟨#[116]⟩ = true by decide]
  rfl
theorem nmof_t : nmOf ⟨1, ⟨#[116]⟩⟩ = ⟨#[116]⟩ := by unfold nmOf; rw [if_pos nm_t]
set_option maxRecDepth 100000 in
set_option maxHeartbeats 4000000 in
theorem sselect_ok (g : Nat) (a : Addr) (c : Nat) (w : World) (hz : Sz w g (some a) c (tsS.map tnOf) 1 false) (hcc : 8 ≤ c) :
    Calls Tryz.prog 47 #[.pointer (some ⟨g, 0, none⟩)] w fun e w' => ∃ cs, e = .returned (.agg cs) ∧ SelC w.heap.size w' cs ∧ Sz w' g (some a) c (tsS.map tnOf) 8 false ∧ w.grownBy w' (some g) := by
  have HZ := Lib.hid hz
  have hgl := hz.lt
  clear hz
  go_enter Tryz.func47, Tryz.ntmps47
  go_wp2_with (first
    | (go_at_call 85; refine (must_all g (some a) c (tsS.map tnOf) 1 false (w.heap.size + 1) 2 [⟨#[42]⟩, ⟨#[70, 82, 79, 77]⟩] ((w.alloc (.cells #[.string ⟨#[]⟩, .string ⟨#[]⟩, .string ⟨#[]⟩, .slice none 0 0, .slice none 0 0, .string ⟨#[]⟩, .slice none 0 0, .slice none 0 0, .string ⟨#[]⟩, .int .i64 0, .int .i64 0, .string ⟨#[]⟩, .string ⟨#[]⟩, .slice none 0 0, .slice none 0 0, .slice none 0 0, .string ⟨#[]⟩, .int .i64 0, .int .i64 0, .string ⟨#[]⟩, .string ⟨#[]⟩, .slice none 0 0, .string ⟨#[]⟩] 34)).alloc (.cells #[.string ⟨#[42]⟩, .string ⟨#[70, 82, 79, 77]⟩] 9)) ((HZ.out.alloc _).alloc _) ls8 (by omega) (by omega) (wds2 _ (by simp) _ _) (by simp) here_s).mono ?_; rintro e w1 ⟨rfl, hz1, hg1⟩; have HB1 : Hid (Sz w1 g (some a) c (tsS.map tnOf) 3 false ∧ w.grownBy w1 (some g) ∧ w1.heap[w.heap.size]? = some (.cells #[.string ⟨#[]⟩, .string ⟨#[]⟩, .string ⟨#[]⟩, .slice none 0 0, .slice none 0 0, .string ⟨#[]⟩, .slice none 0 0, .slice none 0 0, .string ⟨#[]⟩, .int .i64 0, .int .i64 0, .string ⟨#[]⟩, .string ⟨#[]⟩, .slice none 0 0, .slice none 0 0, .slice none 0 0, .string ⟨#[]⟩, .int .i64 0, .int .i64 0, .string ⟨#[]⟩, .string ⟨#[]⟩, .slice none 0 0, .string ⟨#[]⟩] 34 (0, 0))) := ⟨hz1, grow_trans (grow_trans (grow_alloc _ _ _) (grow_alloc _ _ _)) hg1, (hg1.block _ (by simp; omega) (fun e => by injection e with e; omega)).trans ((Below.heap_alloc _ _ _ (by simp)).trans (alloc_at rfl _))⟩; clear hz1 hg1)
    | (go_at_call 86; (with_reducible refine (sname_any g (some a) c (tsS.map tnOf) 3 false ⟨1, ⟨#[116]⟩⟩ w1 HB1.out.1 ls8 (by omega) ns3 (by decide)).mono ?_); rintro e w2 ⟨rfl, hz2, hg2⟩; rw [nmof_t]; rw [nm_t] at hz2; have HB2 : Hid (Sz w2 g (some a) c (tsS.map tnOf) 4 false ∧ w.grownBy w2 (some g) ∧ w2.heap[w.heap.size]? = some (.cells #[.string ⟨#[]⟩, .string ⟨#[]⟩, .string ⟨#[]⟩, .slice none 0 0, .slice none 0 0, .string ⟨#[]⟩, .slice none 0 0, .slice none 0 0, .string ⟨#[]⟩, .int .i64 0, .int .i64 0, .string ⟨#[]⟩, .string ⟨#[]⟩, .slice none 0 0, .slice none 0 0, .slice none 0 0, .string ⟨#[]⟩, .int .i64 0, .int .i64 0, .string ⟨#[]⟩, .string ⟨#[]⟩, .slice none 0 0, .string ⟨#[]⟩] 34 (0, 0))) := ⟨hz2, grow_trans HB1.out.2.1 hg2, (hg2.block _ (lt_of_block HB1.out.2.2) (fun e => by injection e with e; omega)).trans HB1.out.2.2⟩; clear hz2 hg2)
    | (go_at_call 96; (with_reducible refine (swhere_ok (N := 1) g a c (tsS.map tnOf) 4 keT 3 w2 HB2.out.1 ls8 (by decide) (by omega) ns4 (fun g' W hp => run_ke _ _ g' W hp) (by omega)).mono ?_); rintro e w3 ⟨u, rfl, ht3, hz3, hg3⟩; have hbx : w3.heap[w.heap.size]? = some (.cells #[.string ⟨#[]⟩, .string ⟨#[]⟩, .string ⟨#[]⟩, .slice none 0 0, .slice none 0 0, .string ⟨#[]⟩, .slice none 0 0, .slice none 0 0, .string ⟨#[]⟩, .int .i64 0, .int .i64 0, .string ⟨#[]⟩, .string ⟨#[]⟩, .slice none 0 0, .slice none 0 0, .slice none 0 0, .string ⟨#[]⟩, .int .i64 0, .int .i64 0, .string ⟨#[]⟩, .string ⟨#[]⟩, .slice none 0 0, .string ⟨#[]⟩] 34 (0, 0)) := (hg3.block _ (lt_of_block HB2.out.2.2) (fun e => by injection e with e; omega)).trans HB2.out.2.2; have hu : u.oneCell' = true := (by obtain ⟨B, q, rfl, _⟩ := ht3.form; rfl); have hs2 := lt_of_block HB2.out.2.2; have H3 := Lib.hid (And.intro ht3 (And.intro hz3 (grow_trans HB2.out.2.1 hg3))); clear ht3 hz3 hg3)
    | (refine wpList_buildTo rfl 34 _ rfl _ rfl (selC u) (by as_aux_lemma => kernel_rfl) ?_)
    | (refine wpList_store_row rfl 34 (.tmp 2) (.tmp 10) rfl w.heap.size (selC u) rfl rfl 34 _ hbx stSize rfl (sel_one u hu) ?_))
  refine bodyPost_ret (results_cell_row rfl _ _ w.heap.size 34 (selC u) (0, 0) _ rfl (setRow_heap _ _ _ _ _ _ hbx) Tryz.underlying34 rfl stSize) rfl ⟨selC u, rfl, ⟨u, rfl, hu, ?_⟩, H3.out.2.1.row _ hgl, grow_row _ H3.out.2.2 (Nat.le_refl _)⟩
  exact H3.out.1.keep (fun q hq _ => setRow_other _ _ _ _ (by omega)) (fun q hq _ => by omega)
end Go.Proofs.YtlilnbcklplmfaaGreatDoor

/- The statement parser: a value. -/
namespace Go.Proofs.YtlilnbcklplmfaaGreatDoor
open Go.RowKit Go.Lib

set_option maxRecDepth 100000 in
set_option maxHeartbeats 4000000 in
theorem svalue_ok (g : Nat) (a : Addr) (c : Nat) (l : List Tn) (at' : Nat) (tn : Tn) (x : Vl) (w : World) (hz : Sz w g (some a) c l at' false) (hl : l.length ≤ 100000) (ha : at' ≤ l.length) (hcc : at' < c) (ht : Ny l at' false tn) (hno : isB tn ⟨#[40]⟩ = false)
    (hor : ∀ (g' : Nat) (W : World), Pz W g' (some (a.add (at' * 2))) (c - at') (l.drop at') 0 0 false → Calls Tryz.prog 215 #[.pointer (some ⟨g', 0, none⟩)] W (Res W g' (some (a.add (at' * 2))) (c - at') (l.drop at') 0 (fun _ => False) (litT x) 1 0 false)) :
    Calls Tryz.prog 93 #[.pointer (some ⟨g, 0, none⟩)] w fun e w' => e = .returned (.agg #[.int .i64 x.k, .int .i64 x.i, .string x.s]) ∧ Sz w' g (some a) c l (at' + 1) false ∧ w.grownBy w' (some g) := by
  have HZ := Lib.hid (And.intro hz (And.intro ht hno))
  have HO := Lib.hid hor
  have hgl := hz.lt
  clear hz hor ht hno
  go_enter Tryz.func93, Tryz.ntmps93
  go_wp2_with (first
    | (go_at_call 84; (with_reducible refine (snext_any g (some a) c l at' false _ (HZ.out.1.alloc _) hl tn HZ.out.2.1).mono ?_); rintro e w1 ⟨rfl, hb1⟩; have HB1 : Hid (Below w.heap.size w w1 ∧ w1.heap[w.heap.size]? = some (.cells #[.int .i64 0, .int .i64 0, .string ⟨#[]⟩] 27 (0, 0))) := ⟨((Below.refl _ _).alloc (Nat.le_refl _) _).trans (hb1.mono (by simp)), (hb1.block _ (by simp)).trans (alloc_at rfl _)⟩; clear hb1)
    | (go_at_call 140; refine (is_any tn ⟨#[40]⟩ _).mono ?_; rintro e w2 ⟨rfl, hb2⟩; rw [HZ.out.2.2]; have HB2 : Hid (Below w.heap.size w w2 ∧ w2.heap[w.heap.size]? = some (.cells #[.int .i64 0, .int .i64 0, .string ⟨#[]⟩] 27 (0, 0))) := ⟨HB1.out.1.trans (hb2.mono HB1.out.1.size), (hb2.block _ (lt_of_block HB1.out.2)).trans HB1.out.2⟩; clear hb2)
    | (go_at_call 141; (with_reducible refine (sexpr_ok (N := 0) g a c l at' (litT x) 1 w2 (HZ.out.1.below HB2.out.1) hl ha hcc HO.out (by omega)).mono ?_); rintro e w3 ⟨u, rfl, ht3, hz3, hg3⟩; obtain ⟨Bu, qu, rfl, _⟩ := ht3.form; have hbv : w3.heap[w.heap.size]? = some (.cells #[.int .i64 0, .int .i64 0, .string ⟨#[]⟩] 27 (0, 0)) := (hg3.block _ (lt_of_block HB2.out.2) (fun e => by injection e with e; omega)).trans HB2.out.2; have hlv := lt_of_block hbv; have v0 := Lib.cell_of_heap hbv 0; have v1 := Lib.cell_of_heap hbv 1; have v2 := Lib.cell_of_heap hbv 2; have vf := Lib.frozen_of_heap hbv; simp only [List.getElem?_toArray, List.getElem?_cons_zero, List.getElem?_cons_succ] at v0 v1 v2; have hlt3 : w.heap.size < w3.heap.size + 1 := (by omega); have H3 := Lib.hid (And.intro hz3 (grow_trans (grow_below HB2.out.1 _) hg3)); clear ht3 hz3 hg3; simp only [EVt, litT, Ex.op, Ex.x, Ex.s, Ex.l, List.length_nil]))
  refine bodyPost_ret (v := .agg #[.int .i64 x.k, .int .i64 x.i, .string x.s]) (by simp [results, Tryz.results93, go_sem, litT, Ex.x, *]) rfl ⟨rfl, ?_⟩
  exact ⟨(((H3.out.1.other _ hgl).other _ hgl).other _ hgl).alloc _, grow_trans (grow_setn (grow_setn (grow_setn H3.out.2 (Nat.le_refl _)) (Nat.le_refl _)) (Nat.le_refl _)) (grow_alloc _ _ _)⟩
end Go.Proofs.YtlilnbcklplmfaaGreatDoor

/- The statement parser: INSERT: one value more. -/
namespace Go.Proofs.YtlilnbcklplmfaaGreatDoor
open Go.RowKit Go.Lib

def insC (v : Value) : Array Value := #[.string ⟨#[105, 110, 115, 101, 114, 116]⟩, .string ⟨#[116]⟩, .string ⟨#[]⟩, .slice none 0 0, .slice none 0 0, .string ⟨#[]⟩, .slice none 0 0, .slice none 0 0, .string ⟨#[]⟩, .int .i64 0, .int .i64 0, .string ⟨#[]⟩, .string ⟨#[]⟩, .slice none 0 0, v, .slice none 0 0, .string ⟨#[]⟩, .int .i64 0, .int .i64 0, .string ⟨#[]⟩, .string ⟨#[]⟩, .slice none 0 0, .string ⟨#[]⟩]
theorem ins_one (v : Value) (h : v.oneCell' = true) : (insC v).all (·.oneCell') = true := by simp [insC, Value.oneCell'] at h ⊢; exact h
theorem own_ge {W : World} {b : Nat} {e : TypeId} {sz n : Nat} {v : Value} {xs : List Value} (h : W.ownsRow b e sz v n xs) : ∀ q, v.ownBlock = some q → b ≤ q := fun q hq => by
  rcases h.2 with ⟨rfl, _⟩ | ⟨r, cap, cur, rfl, hr, _⟩
  · cases hq
  · have : r = q := by simpa [Value.ownBlock] using hq
    omega
theorem own_cell {W : World} {b : Nat} {e : TypeId} {sz n : Nat} {v : Value} {xs : List Value} (h : W.ownsRow b e sz v n xs) : v.oneCell' = true := by
  rcases h.2 with ⟨rfl, _⟩ | ⟨r, cap, cur, rfl, hr, _⟩ <;> rfl
/-- INSERT, with some of its values: the parser, its box, the statement's box, its row. -/
structure Is (w : World) (g : Nat) (a : Addr) (c sb : Nat) (v : Value) (k : Nat) (rv : List Vl) (at' : Nat) (W : World) : Prop where
  sz : Sz W g (some a) c (tsI.map tnOf) at' false
  gr : w.grownBy W (some g)
  lg : g < w.heap.size
  b1 : W.heap[w.heap.size]? = some (.cells #[.pointer (some ⟨g, 0, none⟩)] 58 (0, 0))
  res : W.heap[w.heap.size + 1]? = some (.cells #[.string ⟨#[]⟩, .string ⟨#[]⟩, .string ⟨#[]⟩, .slice none 0 0, .slice none 0 0, .string ⟨#[]⟩, .slice none 0 0, .slice none 0 0, .string ⟨#[]⟩, .int .i64 0, .int .i64 0, .string ⟨#[]⟩, .string ⟨#[]⟩, .slice none 0 0, .slice none 0 0, .slice none 0 0, .string ⟨#[]⟩, .int .i64 0, .int .i64 0, .string ⟨#[]⟩, .string ⟨#[]⟩, .slice none 0 0, .string ⟨#[]⟩] 34 (0, 0))
  ls : w.heap.size + 1 < sb
  box : W.heap[sb]? = some (.cells (insC v) 34 (0, 0))
  row : W.ownsRow (sb + 1) 27 3 v k (cellsOf rv)
section
variable {w W W' : World} {g : Nat} {a : Addr} {c sb : Nat} {v v' : Value} {k k' : Nat} {rv rv' : List Vl} {at' at2 : Nat}
theorem Is.call (h : Is w g a c sb v k rv at' W) (hs : Sz W' g (some a) c (tsI.map tnOf) at2 false) (hg : W.grownBy W' (some g)) : Is w g a c sb v k rv at2 W' := by
  have h1 := h.lg
  have h2 := h.ls
  exact ⟨hs, grow_trans h.gr hg, h.lg, (hg.block _ (lt_of_block h.b1) (fun e => by injection e with e; omega)).trans h.b1, (hg.block _ (lt_of_block h.res) (fun e => by injection e with e; omega)).trans h.res, h.ls,
    (hg.block _ (lt_of_block h.box) (fun e => by injection e with e; omega)).trans h.box, World.ownsRow.kept h.row hg (by
      cases e : v.ownBlock with
      | none => exact .inl rfl
      | some q => exact .inr (fun e2 => by injection e2 with e2; have := own_ge h.row q e; omega))⟩
theorem Is.drew (h : Is w g a c sb v k rv at' W) : Is w g a c sb v k rv at' W.drew := h.call h.sz.drew ⟨rfl, rfl, rfl, Nat.le_refl _, fun _ _ _ => rfl⟩
theorem Is.alloc (h : Is w g a c sb v k rv at' W) (o : Obj) : Is w g a c sb v k rv at' (W.alloc o) := h.call (h.sz.alloc o) (grow_alloc _ _ _)
/-- Behind an append: the box as it was, another row. -/
structure Ia' (w : World) (g : Nat) (a : Addr) (c sb : Nat) (v v' : Value) (k : Nat) (rv : List Vl) (at' : Nat) (W : World) : Prop where
  sz : Sz W g (some a) c (tsI.map tnOf) at' false
  gr : w.grownBy W (some g)
  lg : g < w.heap.size
  b1 : W.heap[w.heap.size]? = some (.cells #[.pointer (some ⟨g, 0, none⟩)] 58 (0, 0))
  res : W.heap[w.heap.size + 1]? = some (.cells #[.string ⟨#[]⟩, .string ⟨#[]⟩, .string ⟨#[]⟩, .slice none 0 0, .slice none 0 0, .string ⟨#[]⟩, .slice none 0 0, .slice none 0 0, .string ⟨#[]⟩, .int .i64 0, .int .i64 0, .string ⟨#[]⟩, .string ⟨#[]⟩, .slice none 0 0, .slice none 0 0, .slice none 0 0, .string ⟨#[]⟩, .int .i64 0, .int .i64 0, .string ⟨#[]⟩, .string ⟨#[]⟩, .slice none 0 0, .string ⟨#[]⟩] 34 (0, 0))
  ls : w.heap.size + 1 < sb
  box : W.heap[sb]? = some (.cells (insC v) 34 (0, 0))
  row : W.ownsRow (sb + 1) 27 3 v' k (cellsOf rv)
theorem Is.app (h : Is w g a c sb v k rv at' W) (hr : W'.ownsRow (sb + 1) 27 3 v' k' (cellsOf rv')) (hg : W.grownBy W' v.ownBlock) : Ia' w g a c sb v v' k' rv' at' W' := by
  have h1 := h.lg
  have h2 := h.ls
  have hge := own_ge h.row
  have hb : ∀ q, q ≤ sb → q < W.heap.size → W'.heap[q]? = W.heap[q]? := fun q hq hl => hg.block q hl (fun e => by have := hge q e.symm; omega)
  exact ⟨h.sz.keep (fun q hq => hb q (by omega) (by have := h.sz.lt; omega)) (fun w0 hw0 kk => ⟨hg.os.trans kk.os, hg.tape.trans kk.tape, hg.output.trans kk.output, Nat.le_trans kk.size hg.size, fun q hq => (hb q (by omega) (by have := kk.size; omega)).trans (kk.block q hq)⟩),
    ⟨hg.os.trans h.gr.os, hg.tape.trans h.gr.tape, hg.output.trans h.gr.output, Nat.le_trans h.gr.size hg.size, fun q hq hn => (hb q (by omega) (by have := h.gr.size; omega)).trans (h.gr.block q hq hn)⟩,
    h.lg, (hb _ (by omega) (lt_of_block h.b1)).trans h.b1, (hb _ (by omega) (lt_of_block h.res)).trans h.res, h.ls, (hb _ (Nat.le_refl _) (lt_of_block h.box)).trans h.box, hr⟩
theorem Ia'.store (h : Ia' w g a c sb v v' k rv at' W) : Is w g a c sb v' k rv at' (W.setCell ⟨sb, 14, none⟩ v') := by
  have h1 := h.lg
  have h2 := h.ls
  have hge := own_ge h.row
  exact ⟨h.sz.other _ (by omega), grow_setn h.gr (by omega), h.lg, (Below.heap_setCell _ _ _ _ (by show w.heap.size ≠ sb; omega)).trans h.b1, (Below.heap_setCell _ _ _ _ (by show w.heap.size + 1 ≠ sb; omega)).trans h.res, h.ls, any_set h.box 14 _,
    World.ownsRow.kept (row := some sb) h.row (grow_set _ _ _ _) (by
      cases e : v'.ownBlock with
      | none => exact .inl rfl
      | some q => exact .inr (fun e2 => by injection e2 with e2; have := hge q e; omega))⟩
end
theorem wpOp_ok {P : Program} {ops : Array Oper} {Q : Exit → Act → World → Prop} {i : Nat} {oi : Oper} {v : Value} {a : Act} {w w' : World} {Kt : Act → World → Prop} (hi : ops[i]? = some oi) (hg : Region.wanted oi (yielded ops a.tmps) = true) (hr : (execOp a.eval oi).run P w = .ok (.value v) w')
    (hK : Kt (a.put oi.dst v) w') : wpOp P ops Q i Kt a w := by
  unfold wpOp
  simp only [hi, hg, if_true]
  refine .inl ?_
  unfold Oper.wp
  rw [hr]
  exact hK
theorem wpOp_enter {P : Program} {ops : Array Oper} {Q : Exit → Act → World → Prop} {i : Nat} {oi : Oper} {f : FuncId} {args : Array Value} {a : Act} {w w' : World} {Kt : Act → World → Prop} (hi : ops[i]? = some oi) (hg : Region.wanted oi (yielded ops a.tmps) = true) (hr : (execOp a.eval oi).run P w = .ok (.enter f args) w')
    (hK : Calls P f args w' fun e w'' => ∃ v, e = .returned v ∧ Kt (a.put oi.dst v) w'') : wpOp P ops Q i Kt a w := by
  unfold wpOp
  simp only [hi, hg, if_true]
  refine .inl ?_
  unfold Oper.wp
  rw [hr]
  show Calls _ _ _ _ _
  refine hK.mono ?_
  rintro e w'' ⟨v, rfl, h⟩
  exact h
set_option maxRecDepth 100000 in
set_option maxHeartbeats 4000000 in
theorem insert_one (w : World) (g : Nat) (a : Addr) (c sb : Nat) (v : Value) (k : Nat) (rv : List Vl) (at' : Nat) (W : World) (tn : Tn) (x : Vl) (h : Is w g a c sb v k rv at' W) (ht : Ny (tsI.map tnOf) at' false tn) (hno : isB tn ⟨#[40]⟩ = false) (hcc : 11 ≤ c) (hat : at' ≤ 10) (hk : k ≤ 100)
    (hor : ∀ (g' : Nat) (W : World), Pz W g' (some (a.add (at' * 2))) (c - at') ((tsI.map tnOf).drop at') 0 0 false → Calls Tryz.prog 215 #[.pointer (some ⟨g', 0, none⟩)] W (Res W g' (some (a.add (at' * 2))) (c - at') ((tsI.map tnOf).drop at') 0 (fun _ => False) (litT x) 1 0 false)) :
    Calls Tryz.prog 92 #[.pointer (some ⟨sb, 0, none⟩), .pointer (some ⟨w.heap.size, 0, none⟩)] W fun e w' => e = .returned (.tuple #[]) ∧ ∃ v', Is w g a c sb v' (k + 1) (rv ++ [x]) (at' + 1) w' := by
  have hgl := h.lg
  have hls := h.ls
  have H0 := Lib.hid h
  have HV : Hid (∀ W1 : World, Sz W1 g (some a) c (tsI.map tnOf) at' false → Calls Tryz.prog 93 #[.pointer (some ⟨g, 0, none⟩)] W1 fun e w' => e = .returned (.agg #[.int .i64 x.k, .int .i64 x.i, .string x.s]) ∧ Sz w' g (some a) c (tsI.map tnOf) (at' + 1) false ∧ W1.grownBy w' (some g)) :=
    Lib.hid fun W1 hz => svalue_ok g a c (tsI.map tnOf) at' tn x W1 hz li11 (by have : (tsI.map tnOf).length = 11 := rfl; omega) (by omega) ht hno hor
  clear h ht hno hor
  obtain ⟨i0, hi, hz0, hz1, hz2⟩ := info_parts infoVal
  go_enter Tryz.func92, Tryz.ntmps92
  go_wp2
  refine wp_region_any (by kernel_rfl) ?_
  change wpAny _ _ _ _ (7 + 1) _ _ (World.drew _)
  have D0 := Lib.hid H0.out.drew
  have b0 : W.drew.cell? ⟨sb, 14, none⟩ = some v := Lib.cell_of_heap D0.out.box 14
  have p0 : W.drew.cell? ⟨w.heap.size, 0, none⟩ = some (.pointer (some ⟨g, 0, none⟩)) := Lib.cell_of_heap D0.out.b1 0
  refine wpAny_take (i := 0) (v := .pointer (some ⟨sb, 14, none⟩)) rfl (by kernel_rfl) (by kernel_rfl) (by kernel_rfl) (fun _ _ _ h => h) (.inl ⟨rfl, fun W2 => by go_simp⟩) ?_
  simp only [Act.put]
  refine wpAny_all (rs := [1, 2]) (by kernel_rfl) (by simp) ?_
  intro i hi1
  simp only [List.mem_cons, List.not_mem_nil, or_false] at hi1
  rcases hi1 with rfl | rfl
  · refine wpOp_value (v := v) rfl rfl (by go_simp) ?_
    refine wpAny_chain [2, 3, 4, 5, 6, 7] _ _ _ _ (by kernel_rfl) (by decide) ?_
    refine (congrFun (congrFun (wpOps_picked [2, 3, 4, 5, 6, 7] [_, _, _, _, _, _] rfl) _) _).mpr ?_
    simp only [Act.put, List.getElem_toArray, List.getElem_cons_succ, List.getElem_cons_zero]
    go_wp2_with (first
      | (go_at_call 93; refine (HV.out _ D0.out.sz).mono ?_; rintro e w1 ⟨rfl, hz1, hg1⟩; have D1 := Lib.hid (D0.out.call hz1 hg1); have b1 : w1.cell? ⟨sb, 14, none⟩ = some v := Lib.cell_of_heap D1.out.box 14; clear hz1 hg1)
      | (at_builtin; refine wpList_append_own _ rfl _ _ 31 rfl (sb + 1) 27 i0 _ 3 32 Tryz.underlying31 hi hz0 hz1 hz2 rfl (by decide) v k (cellsOf rv) rfl (D1.out.alloc _).row ⟨w1.heap.size, 0, none⟩ 1 1 (Vl.cells x) rfl rfl ?c1a ?c2a ?c3a ?c4a ?c5a ?_))
    case c1a => exact new_cells
    case c2a => intro u hu; exact cells_one [x] u (by simpa [cellsOf] using hu)
    case c3a => unfold maxLen; omega
    case c4a => omega
    case c5a => have := D1.out.ls; have := lt_of_block D1.out.box; simp; omega
    intro v' w2 hown hgrow _
    have DA := Lib.hid ((D1.out.alloc (.cells #[.int .i64 x.k, .int .i64 x.i, .string x.s] 27)).app (rv' := rv ++ [x]) (by rw [cells_snoc]; exact hown) hgrow)
    have bf := Lib.frozen_of_heap DA.out.box
    have bx : w2.cell? ⟨sb, 14, none⟩ = some v := Lib.cell_of_heap DA.out.box 14
    have bl := lt_of_block DA.out.box
    clear hown hgrow
    obtain ⟨A', q', rfl, -⟩ := Vals.of_own DA.out.row
    go_wp2
    go_end0
    exact ⟨rfl, .slice A' (k + 1) q', DA.out.store⟩
  · refine wpOp_value (v := .pointer (some ⟨g, 0, none⟩)) rfl rfl (by go_simp) ?_
    simp only [Act.put]
    refine wpAny_all (rs := [1, 3]) (by kernel_rfl) (by simp) ?_
    intro i hi1
    simp only [List.mem_cons, List.not_mem_nil, or_false] at hi1
    rcases hi1 with rfl | rfl
    · refine wpOp_value (v := v) rfl rfl (by go_simp) ?_
      refine wpAny_chain [3, 4, 5, 6, 7] _ _ _ _ (by kernel_rfl) (by decide) ?_
      refine (congrFun (congrFun (wpOps_picked [3, 4, 5, 6, 7] [_, _, _, _, _] rfl) _) _).mpr ?_
      simp only [Act.put, List.getElem_toArray, List.getElem_cons_succ, List.getElem_cons_zero]
      go_wp2_with (first
      | (go_at_call 93; refine (HV.out _ D0.out.sz).mono ?_; rintro e w1 ⟨rfl, hz1, hg1⟩; have D1 := Lib.hid (D0.out.call hz1 hg1); have b1 : w1.cell? ⟨sb, 14, none⟩ = some v := Lib.cell_of_heap D1.out.box 14; clear hz1 hg1)
      | (at_builtin; refine wpList_append_own _ rfl _ _ 31 rfl (sb + 1) 27 i0 _ 3 32 Tryz.underlying31 hi hz0 hz1 hz2 rfl (by decide) v k (cellsOf rv) rfl (D1.out.alloc _).row ⟨w1.heap.size, 0, none⟩ 1 1 (Vl.cells x) rfl rfl ?c1b ?c2b ?c3b ?c4b ?c5b ?_))
      case c1b => exact new_cells
      case c2b => intro u hu; exact cells_one [x] u (by simpa [cellsOf] using hu)
      case c3b => unfold maxLen; omega
      case c4b => omega
      case c5b => have := D1.out.ls; have := lt_of_block D1.out.box; simp; omega
      intro v' w2 hown hgrow _
      have DA := Lib.hid ((D1.out.alloc (.cells #[.int .i64 x.k, .int .i64 x.i, .string x.s] 27)).app (rv' := rv ++ [x]) (by rw [cells_snoc]; exact hown) hgrow)
      have bf := Lib.frozen_of_heap DA.out.box
      have bx : w2.cell? ⟨sb, 14, none⟩ = some v := Lib.cell_of_heap DA.out.box 14
      have bl := lt_of_block DA.out.box
      clear hown hgrow
      obtain ⟨A', q', rfl, -⟩ := Vals.of_own DA.out.row
      go_wp2
      go_end0
      exact ⟨rfl, .slice A' (k + 1) q', DA.out.store⟩
    · refine wpOp_enter (f := 93) (args := #[.pointer (some ⟨g, 0, none⟩)]) (w' := W.drew) rfl rfl (by go_simp) ?_
      refine (HV.out _ D0.out.sz).mono ?_
      rintro e w1 ⟨rfl, hz1, hg1⟩
      refine ⟨_, rfl, ?_⟩
      have D1 := Lib.hid (D0.out.call hz1 hg1)
      have b1 : w1.cell? ⟨sb, 14, none⟩ = some v := Lib.cell_of_heap D1.out.box 14
      clear hz1 hg1
      simp only [Act.put]
      refine wpAny_all (rs := [1, 4]) (by kernel_rfl) (by simp) ?_
      intro i hi1
      simp only [List.mem_cons, List.not_mem_nil, or_false] at hi1
      rcases hi1 with rfl | rfl
      · refine wpOp_value (v := v) rfl rfl (by go_simp) ?_
        refine wpAny_chain [4, 5, 6, 7] _ _ _ _ (by kernel_rfl) (by decide) ?_
        refine (congrFun (congrFun (wpOps_picked [4, 5, 6, 7] [_, _, _, _] rfl) _) _).mpr ?_
        simp only [Act.put, List.getElem_toArray, List.getElem_cons_succ, List.getElem_cons_zero]
        go_wp2_with (at_builtin; refine wpList_append_own _ rfl _ _ 31 rfl (sb + 1) 27 i0 _ 3 32 Tryz.underlying31 hi hz0 hz1 hz2 rfl (by decide) v k (cellsOf rv) rfl (D1.out.alloc _).row ⟨w1.heap.size, 0, none⟩ 1 1 (Vl.cells x) rfl rfl ?c1c ?c2c ?c3c ?c4c ?c5c ?_)
        case c1c => exact new_cells
        case c2c => intro u hu; exact cells_one [x] u (by simpa [cellsOf] using hu)
        case c3c => unfold maxLen; omega
        case c4c => omega
        case c5c => have := D1.out.ls; have := lt_of_block D1.out.box; simp; omega
        intro v' w2 hown hgrow _
        have DA := Lib.hid ((D1.out.alloc (.cells #[.int .i64 x.k, .int .i64 x.i, .string x.s] 27)).app (rv' := rv ++ [x]) (by rw [cells_snoc]; exact hown) hgrow)
        have bf := Lib.frozen_of_heap DA.out.box
        have bx : w2.cell? ⟨sb, 14, none⟩ = some v := Lib.cell_of_heap DA.out.box 14
        have bl := lt_of_block DA.out.box
        clear hown hgrow
        obtain ⟨A', q', rfl, -⟩ := Vals.of_own DA.out.row
        go_wp2
        go_end0
        exact ⟨rfl, .slice A' (k + 1) q', DA.out.store⟩
      · refine wpOp_ok (v := .slice (some ⟨w1.heap.size, 0, none⟩) 1 1) (w' := w1.alloc (.cells #[.int .i64 x.k, .int .i64 x.i, .string x.s] 27)) rfl rfl (by go_simp) ?_
        have b2 : (w1.alloc (.cells #[.int .i64 x.k, .int .i64 x.i, .string x.s] 27)).cell? ⟨sb, 14, none⟩ = some v := Lib.cell_of_heap (D1.out.alloc _).box 14
        refine wpAny_chain [1, 5, 6, 7] _ _ _ _ (by kernel_rfl) (by decide) ?_
        refine (congrFun (congrFun (wpOps_picked [1, 5, 6, 7] [_, _, _, _] rfl) _) _).mpr ?_
        simp only [Act.put, List.getElem_toArray, List.getElem_cons_succ, List.getElem_cons_zero]
        go_wp2_with (at_builtin; refine wpList_append_own _ rfl _ _ 31 rfl (sb + 1) 27 i0 _ 3 32 Tryz.underlying31 hi hz0 hz1 hz2 rfl (by decide) v k (cellsOf rv) rfl (D1.out.alloc _).row ⟨w1.heap.size, 0, none⟩ 1 1 (Vl.cells x) rfl rfl ?c1d ?c2d ?c3d ?c4d ?c5d ?_)
        case c1d => exact new_cells
        case c2d => intro u hu; exact cells_one [x] u (by simpa [cellsOf] using hu)
        case c3d => unfold maxLen; omega
        case c4d => omega
        case c5d => have := D1.out.ls; have := lt_of_block D1.out.box; simp; omega
        intro v' w2 hown hgrow _
        have DA := Lib.hid ((D1.out.alloc (.cells #[.int .i64 x.k, .int .i64 x.i, .string x.s] 27)).app (rv' := rv ++ [x]) (by rw [cells_snoc]; exact hown) hgrow)
        have bf := Lib.frozen_of_heap DA.out.box
        have bx : w2.cell? ⟨sb, 14, none⟩ = some v := Lib.cell_of_heap DA.out.box 14
        have bl := lt_of_block DA.out.box
        clear hown hgrow
        obtain ⟨A', q', rfl, -⟩ := Vals.of_own DA.out.row
        go_wp2
        go_end0
        exact ⟨rfl, .slice A' (k + 1) q', DA.out.store⟩
end Go.Proofs.YtlilnbcklplmfaaGreatDoor

/- The statement parser: INSERT: its values; the statement. -/
namespace Go.Proofs.YtlilnbcklplmfaaGreatDoor
open Go.RowKit Go.Lib

def rowI : List Vl := [⟨1, 1, ⟨#[]⟩⟩, ⟨2, 0, ⟨#[97]⟩⟩, ⟨0, 0, ⟨#[]⟩⟩]
theorem ni0 : Ny (tsI.map tnOf) 0 false ⟨1, ⟨#[73, 78, 83, 69, 82, 84]⟩⟩ := .inr (.inr ⟨rfl, rfl⟩)
theorem ni1 : Ny (tsI.map tnOf) 1 false ⟨1, ⟨#[73, 78, 84, 79]⟩⟩ := .inr (.inr ⟨rfl, rfl⟩)
theorem ni2 : Ny (tsI.map tnOf) 2 false ⟨1, ⟨#[116]⟩⟩ := .inr (.inr ⟨rfl, rfl⟩)
theorem ni3 : Ny (tsI.map tnOf) 3 false ⟨1, ⟨#[86, 65, 76, 85, 69, 83]⟩⟩ := .inr (.inr ⟨rfl, rfl⟩)
theorem ni4 : Ny (tsI.map tnOf) 4 false ⟨4, ⟨#[40]⟩⟩ := .inr (.inr ⟨rfl, rfl⟩)
theorem ni6 : Ny (tsI.map tnOf) 6 false ⟨4, ⟨#[44]⟩⟩ := .inr (.inr ⟨rfl, rfl⟩)
theorem ni8 : Ny (tsI.map tnOf) 8 false ⟨4, ⟨#[44]⟩⟩ := .inr (.inr ⟨rfl, rfl⟩)
theorem ni10 : Ny (tsI.map tnOf) 10 false ⟨4, ⟨#[41]⟩⟩ := .inr (.inr ⟨rfl, rfl⟩)
theorem ins_0 {w : World} {g : Nat} {a : Addr} {c sb : Nat} {v : Value} {W : World} (h : Is w g a c sb v 0 [] 5 W) (hcc : 11 ≤ c) : Calls Tryz.prog 92 #[.pointer (some ⟨sb, 0, none⟩), .pointer (some ⟨w.heap.size, 0, none⟩)] W fun e w' => e = .returned (.tuple #[]) ∧ ∃ v', Is w g a c sb v' 1 [⟨1, 1, ⟨#[]⟩⟩] 6 w' :=
  insert_one w g a c sb v 0 [] 5 W ⟨2, ⟨#[49]⟩⟩ ⟨1, 1, ⟨#[]⟩⟩ h (.inr (.inr ⟨rfl, rfl⟩)) (by unfold isB; simp only [toList_data]; decide) hcc (by omega) (by omega) (fun g' W hp => run_La _ _ g' W hp)
theorem ins_1 {w : World} {g : Nat} {a : Addr} {c sb : Nat} {v : Value} {W : World} (h : Is w g a c sb v 1 [⟨1, 1, ⟨#[]⟩⟩] 7 W) (hcc : 11 ≤ c) : Calls Tryz.prog 92 #[.pointer (some ⟨sb, 0, none⟩), .pointer (some ⟨w.heap.size, 0, none⟩)] W fun e w' => e = .returned (.tuple #[]) ∧ ∃ v', Is w g a c sb v' 2 [⟨1, 1, ⟨#[]⟩⟩, ⟨2, 0, ⟨#[97]⟩⟩] 8 w' :=
  insert_one w g a c sb v 1 [⟨1, 1, ⟨#[]⟩⟩] 7 W ⟨3, ⟨#[97]⟩⟩ ⟨2, 0, ⟨#[97]⟩⟩ h (.inr (.inr ⟨rfl, rfl⟩)) (by unfold isB; simp only [toList_data]; decide) hcc (by omega) (by omega) (fun g' W hp => run_Lb _ _ g' W hp)
theorem ins_2 {w : World} {g : Nat} {a : Addr} {c sb : Nat} {v : Value} {W : World} (h : Is w g a c sb v 2 [⟨1, 1, ⟨#[]⟩⟩, ⟨2, 0, ⟨#[97]⟩⟩] 9 W) (hcc : 11 ≤ c) : Calls Tryz.prog 92 #[.pointer (some ⟨sb, 0, none⟩), .pointer (some ⟨w.heap.size, 0, none⟩)] W fun e w' => e = .returned (.tuple #[]) ∧ ∃ v', Is w g a c sb v' 3 [⟨1, 1, ⟨#[]⟩⟩, ⟨2, 0, ⟨#[97]⟩⟩, ⟨0, 0, ⟨#[]⟩⟩] 10 w' :=
  insert_one w g a c sb v 2 [⟨1, 1, ⟨#[]⟩⟩, ⟨2, 0, ⟨#[97]⟩⟩] 9 W ⟨1, ⟨#[78, 85, 76, 76]⟩⟩ ⟨0, 0, ⟨#[]⟩⟩ h (.inr (.inr ⟨rfl, rfl⟩)) (by unfold isB; simp only [toList_data]; decide) hcc (by omega) (by omega) (fun g' W hp => run_Lc _ _ g' W hp)
set_option maxRecDepth 100000 in
set_option maxHeartbeats 4000000 in
theorem slist_ok {w : World} {g : Nat} {a : Addr} {c sb : Nat} {v : Value} {W : World} (h : Is w g a c sb v 0 [] 5 W) (hcc : 11 ≤ c) : Calls Tryz.prog 91 #[.pointer (some ⟨g, 0, none⟩), .func (.func 92) #[] #[.pointer (some ⟨sb, 0, none⟩), .pointer (some ⟨w.heap.size, 0, none⟩)]] W fun e w' => e = .returned (.tuple #[]) ∧ ∃ v', Is w g a c sb v' 3 rowI 10 w' := by
  have H0 := Lib.hid h
  have hgl := h.lg
  clear h
  go_enter Tryz.func91, Tryz.ntmps91
  go_wp2_with (go_at_call 92; (with_reducible refine (ins_0 H0.out hcc).mono ?_); rintro e w1 ⟨rfl, v1, hh⟩; have H1 := Lib.hid hh; clear hh)
  refine wp_loop_rounds 3 ?_
  rw [rounds_succ]
  go_wp2_with (first
    | (go_at_call 136; (with_reducible refine (take1_any g (some a) c (tsI.map tnOf) 6 false w1.heap.size 1 ⟨#[44]⟩ ⟨4, ⟨#[44]⟩⟩ (w1.alloc (.cells #[.string ⟨#[44]⟩] 9)) (H1.out.alloc _).sz li11 (by omega) (by have := H1.out.sz.lt; omega) (word_at _ _) ni6).mono ?_); rintro e w2 ⟨rfl, hz, hg⟩; rw [show isB ⟨4, ⟨#[44]⟩⟩ ⟨#[44]⟩ = true by (unfold isB; simp only [toList_data]; decide)] at hz ⊢; rw [if_pos rfl] at hz; have H2 := Lib.hid ((H1.out.alloc _).call hz hg); clear hz hg)
    | (go_at_call 92; (with_reducible refine (ins_1 H2.out hcc).mono ?_); rintro e w3 ⟨rfl, v3, hh⟩; have H3 := Lib.hid hh; clear hh))
  show Code.rounds _ _ _ _ _ _
  rw [rounds_succ]
  go_wp2_with (first
    | (go_at_call 136; (with_reducible refine (take1_any g (some a) c (tsI.map tnOf) 8 false w3.heap.size 1 ⟨#[44]⟩ ⟨4, ⟨#[44]⟩⟩ (w3.alloc (.cells #[.string ⟨#[44]⟩] 9)) (H3.out.alloc _).sz li11 (by omega) (by have := H3.out.sz.lt; omega) (word_at _ _) ni8).mono ?_); rintro e w4 ⟨rfl, hz, hg⟩; rw [show isB ⟨4, ⟨#[44]⟩⟩ ⟨#[44]⟩ = true by (unfold isB; simp only [toList_data]; decide)] at hz ⊢; rw [if_pos rfl] at hz; have H4 := Lib.hid ((H3.out.alloc _).call hz hg); clear hz hg)
    | (go_at_call 92; (with_reducible refine (ins_2 H4.out hcc).mono ?_); rintro e w5 ⟨rfl, v5, hh⟩; have H5 := Lib.hid hh; clear hh))
  show Code.rounds _ _ _ _ _ _
  rw [rounds_succ]
  go_wp2_with (go_at_call 136; (with_reducible refine (take1_any g (some a) c (tsI.map tnOf) 10 false w5.heap.size 1 ⟨#[44]⟩ ⟨4, ⟨#[41]⟩⟩ (w5.alloc (.cells #[.string ⟨#[44]⟩] 9)) (H5.out.alloc _).sz li11 (by omega) (by have := H5.out.sz.lt; omega) (word_at _ _) ni10).mono ?_); rintro e w6 ⟨rfl, hz, hg⟩; rw [show isB ⟨4, ⟨#[41]⟩⟩ ⟨#[44]⟩ = false by (unfold isB; simp only [toList_data]; decide)] at hz ⊢; rw [if_neg (by decide)] at hz; have H6 := Lib.hid ((H5.out.alloc _).call hz hg); clear hz hg)
  go_end0
  exact ⟨rfl, _, H6.out⟩
set_option maxRecDepth 100000 in
set_option maxHeartbeats 4000000 in
theorem insert_all {w : World} {g : Nat} {a : Addr} {c sb : Nat} {v : Value} {W : World} (h : Is w g a c sb v 0 [] 5 W) (hcc : 11 ≤ c) : Calls Tryz.prog 90 #[.pointer (some ⟨w.heap.size, 0, none⟩), .pointer (some ⟨sb, 0, none⟩)] W fun e w' => e = .returned (.tuple #[]) ∧ ∃ v', Is w g a c sb v' 3 rowI 10 w' := by
  have H0 := Lib.hid h
  have b1 : W.cell? ⟨w.heap.size, 0, none⟩ = some (.pointer (some ⟨g, 0, none⟩)) := Lib.cell_of_heap h.b1 0
  clear h
  go_enter Tryz.func90, Tryz.ntmps90
  go_wp2_with (go_at_call 91; (with_reducible refine (slist_ok H0.out hcc).mono ?_); rintro e w1 ⟨rfl, v1, hh⟩; have H1 := Lib.hid hh; clear hh)
  go_end0
  exact ⟨rfl, _, H1.out⟩
set_option maxRecDepth 100000 in
set_option maxHeartbeats 4000000 in
theorem sbrack_ok {w : World} {g : Nat} {a : Addr} {c sb : Nat} {v : Value} {W : World} (h : Is w g a c sb v 0 [] 4 W) (hcc : 11 ≤ c) : Calls Tryz.prog 87 #[.pointer (some ⟨g, 0, none⟩), .func (.func 90) #[] #[.pointer (some ⟨w.heap.size, 0, none⟩), .pointer (some ⟨sb, 0, none⟩)]] W fun e w' => e = .returned (.tuple #[]) ∧ ∃ v', Is w g a c sb v' 3 rowI 11 w' := by
  have H0 := Lib.hid h
  clear h
  go_enter Tryz.func87, Tryz.ntmps87
  go_upto_region 2 with (first
    | (go_at_call 85; refine (must1_any g (some a) c (tsI.map tnOf) 4 false W.heap.size 1 ⟨#[40]⟩ ⟨4, ⟨#[40]⟩⟩ (W.alloc (.cells #[.string ⟨#[40]⟩] 9)) (H0.out.alloc _).sz li11 (by omega) (by have := H0.out.sz.lt; omega) (word_at _ _) ni4).mono ?_; rintro e w1 ⟨rfl, hz, hg⟩; rw [show isB ⟨4, ⟨#[40]⟩⟩ ⟨#[40]⟩ = true by simp [isB]] at hz; rw [if_pos rfl] at hz; have H1 := Lib.hid ((H0.out.alloc _).call hz hg); clear hz hg)
    | (go_at_call 90; (with_reducible refine (insert_all H1.out hcc).mono ?_); rintro e w2 ⟨rfl, v2, hh⟩; have H2 := Lib.hid hh; clear hh))
  go_wp2_with (go_at_call 85; refine (must1_any g (some a) c (tsI.map tnOf) 10 false w2.heap.size 1 ⟨#[41]⟩ ⟨4, ⟨#[41]⟩⟩ (w2.alloc (.cells #[.string ⟨#[41]⟩] 9)) (H2.out.alloc _).sz li11 (by omega) (by have := H2.out.sz.lt; omega) (word_at _ _) ni10).mono ?_; rintro e w3 ⟨rfl, hz, hg⟩; rw [show isB ⟨4, ⟨#[41]⟩⟩ ⟨#[41]⟩ = true by simp [isB]] at hz; rw [if_pos rfl] at hz; have H3 := Lib.hid ((H2.out.alloc _).call hz hg); clear hz hg)
  go_end0
  exact ⟨rfl, _, H3.out⟩
end Go.Proofs.YtlilnbcklplmfaaGreatDoor

/- The statement parser: INSERT INTO t VALUES (1, 'a', NULL). -/
namespace Go.Proofs.YtlilnbcklplmfaaGreatDoor
open Go.RowKit Go.Lib

def InsC (n : Nat) (W : World) (cs : Array Value) : Prop := ∃ v, cs = insC v ∧ W.ownsRow n 27 3 v 3 (cellsOf rowI)
theorem insKp : Kp InsC where
  mono := fun ⟨v, h1, h2⟩ hm => ⟨v, h1, h2.1, h2.2.imp id fun ⟨r, cap, cur, e, hr, k⟩ => ⟨r, cap, cur, e, Nat.le_trans hm hr, k⟩⟩
  keep := fun ⟨v, h1, h2⟩ hk => ⟨v, h1, h2.1, h2.2.imp id fun ⟨r, cap, cur, e, hr, k1, k⟩ => ⟨r, cap, cur, e, hr, (hk r hr (lt_of_block k1)).trans k1, k⟩⟩
  one := fun ⟨v, h1, h2⟩ => h1 ▸ ins_one v (own_cell h2)
  size := fun ⟨v, h1, _⟩ => by rw [h1]; rfl
set_option maxRecDepth 100000 in
set_option maxHeartbeats 4000000 in
theorem sinsert_ok (g : Nat) (a : Addr) (c : Nat) (w : World) (hz : Sz w g (some a) c (tsI.map tnOf) 1 false) (hcc : 11 ≤ c) :
    Calls Tryz.prog 44 #[.pointer (some ⟨g, 0, none⟩)] w fun e w' => ∃ cs, e = .returned (.agg cs) ∧ InsC w.heap.size w' cs ∧ Sz w' g (some a) c (tsI.map tnOf) 11 false ∧ w.grownBy w' (some g) := by
  have hgl := hz.lt
  have G0 : Hid (Sz ((w.alloc (.cells #[.pointer (some ⟨g, 0, none⟩)] 58)).alloc (.cells #[.string ⟨#[]⟩, .string ⟨#[]⟩, .string ⟨#[]⟩, .slice none 0 0, .slice none 0 0, .string ⟨#[]⟩, .slice none 0 0, .slice none 0 0, .string ⟨#[]⟩, .int .i64 0, .int .i64 0, .string ⟨#[]⟩, .string ⟨#[]⟩, .slice none 0 0, .slice none 0 0, .slice none 0 0, .string ⟨#[]⟩, .int .i64 0, .int .i64 0, .string ⟨#[]⟩, .string ⟨#[]⟩, .slice none 0 0, .string ⟨#[]⟩] 34)) g (some a) c (tsI.map tnOf) 1 false ∧ w.grownBy ((w.alloc (.cells #[.pointer (some ⟨g, 0, none⟩)] 58)).alloc (.cells #[.string ⟨#[]⟩, .string ⟨#[]⟩, .string ⟨#[]⟩, .slice none 0 0, .slice none 0 0, .string ⟨#[]⟩, .slice none 0 0, .slice none 0 0, .string ⟨#[]⟩, .int .i64 0, .int .i64 0, .string ⟨#[]⟩, .string ⟨#[]⟩, .slice none 0 0, .slice none 0 0, .slice none 0 0, .string ⟨#[]⟩, .int .i64 0, .int .i64 0, .string ⟨#[]⟩, .string ⟨#[]⟩, .slice none 0 0, .string ⟨#[]⟩] 34)) (some g) ∧ ((w.alloc (.cells #[.pointer (some ⟨g, 0, none⟩)] 58)).alloc (.cells #[.string ⟨#[]⟩, .string ⟨#[]⟩, .string ⟨#[]⟩, .slice none 0 0, .slice none 0 0, .string ⟨#[]⟩, .slice none 0 0, .slice none 0 0, .string ⟨#[]⟩, .int .i64 0, .int .i64 0, .string ⟨#[]⟩, .string ⟨#[]⟩, .slice none 0 0, .slice none 0 0, .slice none 0 0, .string ⟨#[]⟩, .int .i64 0, .int .i64 0, .string ⟨#[]⟩, .string ⟨#[]⟩, .slice none 0 0, .string ⟨#[]⟩] 34)).heap[w.heap.size]? = some (.cells #[.pointer (some ⟨g, 0, none⟩)] 58 (0, 0)) ∧ ((w.alloc (.cells #[.pointer (some ⟨g, 0, none⟩)] 58)).alloc (.cells #[.string ⟨#[]⟩, .string ⟨#[]⟩, .string ⟨#[]⟩, .slice none 0 0, .slice none 0 0, .string ⟨#[]⟩, .slice none 0 0, .slice none 0 0, .string ⟨#[]⟩, .int .i64 0, .int .i64 0, .string ⟨#[]⟩, .string ⟨#[]⟩, .slice none 0 0, .slice none 0 0, .slice none 0 0, .string ⟨#[]⟩, .int .i64 0, .int .i64 0, .string ⟨#[]⟩, .string ⟨#[]⟩, .slice none 0 0, .string ⟨#[]⟩] 34)).heap[w.heap.size + 1]? = some (.cells #[.string ⟨#[]⟩, .string ⟨#[]⟩, .string ⟨#[]⟩, .slice none 0 0, .slice none 0 0, .string ⟨#[]⟩, .slice none 0 0, .slice none 0 0, .string ⟨#[]⟩, .int .i64 0, .int .i64 0, .string ⟨#[]⟩, .string ⟨#[]⟩, .slice none 0 0, .slice none 0 0, .slice none 0 0, .string ⟨#[]⟩, .int .i64 0, .int .i64 0, .string ⟨#[]⟩, .string ⟨#[]⟩, .slice none 0 0, .string ⟨#[]⟩] 34 (0, 0))) := Lib.hid ⟨(hz.alloc _).alloc _, grow_trans (grow_alloc _ _ _) (grow_alloc _ _ _), (Below.heap_alloc _ _ _ (by simp)).trans (alloc_at rfl _), alloc_at (by simp) _⟩
  clear hz
  go_enter Tryz.func44, Tryz.ntmps44
  go_upto_region 2 with (go_at_call 85; refine (must1_any g (some a) c (tsI.map tnOf) 1 false (w.heap.size + 1 + 1) 1 ⟨#[73, 78, 84, 79]⟩ ⟨1, ⟨#[73, 78, 84, 79]⟩⟩ (((w.alloc (.cells #[.pointer (some ⟨g, 0, none⟩)] 58)).alloc (.cells #[.string ⟨#[]⟩, .string ⟨#[]⟩, .string ⟨#[]⟩, .slice none 0 0, .slice none 0 0, .string ⟨#[]⟩, .slice none 0 0, .slice none 0 0, .string ⟨#[]⟩, .int .i64 0, .int .i64 0, .string ⟨#[]⟩, .string ⟨#[]⟩, .slice none 0 0, .slice none 0 0, .slice none 0 0, .string ⟨#[]⟩, .int .i64 0, .int .i64 0, .string ⟨#[]⟩, .string ⟨#[]⟩, .slice none 0 0, .string ⟨#[]⟩] 34)).alloc (.cells #[.string ⟨#[73, 78, 84, 79]⟩] 9)) (G0.out.1.alloc _) li11 (by omega) (by omega) (wds1 _ (by simp) _) ni1).mono ?_; rintro e w1 ⟨rfl, hz, hg⟩; rw [show isB ⟨1, ⟨#[73, 78, 84, 79]⟩⟩ ⟨#[73, 78, 84, 79]⟩ = true by simp [isB]] at hz; rw [if_pos rfl] at hz; have hg' := grow_trans (grow_alloc ((w.alloc (.cells #[.pointer (some ⟨g, 0, none⟩)] 58)).alloc (.cells #[.string ⟨#[]⟩, .string ⟨#[]⟩, .string ⟨#[]⟩, .slice none 0 0, .slice none 0 0, .string ⟨#[]⟩, .slice none 0 0, .slice none 0 0, .string ⟨#[]⟩, .int .i64 0, .int .i64 0, .string ⟨#[]⟩, .string ⟨#[]⟩, .slice none 0 0, .slice none 0 0, .slice none 0 0, .string ⟨#[]⟩, .int .i64 0, .int .i64 0, .string ⟨#[]⟩, .string ⟨#[]⟩, .slice none 0 0, .string ⟨#[]⟩] 34)) (.cells #[.string ⟨#[73, 78, 84, 79]⟩] 9) (some g)) hg; have G1 : Hid (Sz w1 g (some a) c (tsI.map tnOf) 2 false ∧ w.grownBy w1 (some g) ∧ w1.heap[w.heap.size]? = some (.cells #[.pointer (some ⟨g, 0, none⟩)] 58 (0, 0)) ∧ w1.heap[w.heap.size + 1]? = some (.cells #[.string ⟨#[]⟩, .string ⟨#[]⟩, .string ⟨#[]⟩, .slice none 0 0, .slice none 0 0, .string ⟨#[]⟩, .slice none 0 0, .slice none 0 0, .string ⟨#[]⟩, .int .i64 0, .int .i64 0, .string ⟨#[]⟩, .string ⟨#[]⟩, .slice none 0 0, .slice none 0 0, .slice none 0 0, .string ⟨#[]⟩, .int .i64 0, .int .i64 0, .string ⟨#[]⟩, .string ⟨#[]⟩, .slice none 0 0, .string ⟨#[]⟩] 34 (0, 0))) := Lib.hid ⟨hz, grow_trans G0.out.2.1 hg', (hg'.block _ (lt_of_block G0.out.2.2.1) (fun e => by injection e with e; omega)).trans G0.out.2.2.1, (hg'.block _ (lt_of_block G0.out.2.2.2) (fun e => by injection e with e; omega)).trans G0.out.2.2.2⟩; have p1 : w1.cell? ⟨w.heap.size, 0, none⟩ = some (.pointer (some ⟨g, 0, none⟩)) := Lib.cell_of_heap G1.out.2.2.1 0; clear hz hg hg')
  go_upto_region 3 with (first
    | (go_at_call 86; (with_reducible refine (sname_any g (some a) c (tsI.map tnOf) 2 false ⟨1, ⟨#[116]⟩⟩ w1 G1.out.1 li11 (by omega) ni2 (by decide)).mono ?_); rintro e w2 ⟨rfl, hz, hg⟩; rw [nmof_t]; rw [nm_t] at hz; have G2 : Hid (Sz w2 g (some a) c (tsI.map tnOf) 3 false ∧ w.grownBy w2 (some g) ∧ w2.heap[w.heap.size]? = some (.cells #[.pointer (some ⟨g, 0, none⟩)] 58 (0, 0)) ∧ w2.heap[w.heap.size + 1]? = some (.cells #[.string ⟨#[]⟩, .string ⟨#[]⟩, .string ⟨#[]⟩, .slice none 0 0, .slice none 0 0, .string ⟨#[]⟩, .slice none 0 0, .slice none 0 0, .string ⟨#[]⟩, .int .i64 0, .int .i64 0, .string ⟨#[]⟩, .string ⟨#[]⟩, .slice none 0 0, .slice none 0 0, .slice none 0 0, .string ⟨#[]⟩, .int .i64 0, .int .i64 0, .string ⟨#[]⟩, .string ⟨#[]⟩, .slice none 0 0, .string ⟨#[]⟩] 34 (0, 0))) := Lib.hid ⟨hz, grow_trans G1.out.2.1 hg, (hg.block _ (lt_of_block G1.out.2.2.1) (fun e => by injection e with e; omega)).trans G1.out.2.2.1, (hg.block _ (lt_of_block G1.out.2.2.2) (fun e => by injection e with e; omega)).trans G1.out.2.2.2⟩; have hbx : (w2.alloc (.cells #[.string ⟨#[]⟩, .string ⟨#[]⟩, .string ⟨#[]⟩, .slice none 0 0, .slice none 0 0, .string ⟨#[]⟩, .slice none 0 0, .slice none 0 0, .string ⟨#[]⟩, .int .i64 0, .int .i64 0, .string ⟨#[]⟩, .string ⟨#[]⟩, .slice none 0 0, .slice none 0 0, .slice none 0 0, .string ⟨#[]⟩, .int .i64 0, .int .i64 0, .string ⟨#[]⟩, .string ⟨#[]⟩, .slice none 0 0, .string ⟨#[]⟩] 34)).heap[w2.heap.size]? = some (.cells #[.string ⟨#[]⟩, .string ⟨#[]⟩, .string ⟨#[]⟩, .slice none 0 0, .slice none 0 0, .string ⟨#[]⟩, .slice none 0 0, .slice none 0 0, .string ⟨#[]⟩, .int .i64 0, .int .i64 0, .string ⟨#[]⟩, .string ⟨#[]⟩, .slice none 0 0, .slice none 0 0, .slice none 0 0, .string ⟨#[]⟩, .int .i64 0, .int .i64 0, .string ⟨#[]⟩, .string ⟨#[]⟩, .slice none 0 0, .string ⟨#[]⟩] 34 (0, 0)) := alloc_at rfl _; clear hz hg)
    | (refine wpList_buildTo rfl 34 _ rfl _ rfl (insC (.slice none 0 0)) (by as_aux_lemma => kernel_rfl) ?_)
    | (refine wpList_store_row rfl 34 (.tmp 3) (.tmp 9) rfl w2.heap.size (insC (.slice none 0 0)) rfl rfl 34 _ hbx stSize rfl (ins_one _ rfl) ?_))
  have hs2 := lt_of_block G2.out.2.2.2
  refine wp_gen (Is w g a c w2.heap.size (.slice none 0 0) 0 [] 3) (W := (w2.alloc (.cells #[.string ⟨#[]⟩, .string ⟨#[]⟩, .string ⟨#[]⟩, .slice none 0 0, .slice none 0 0, .string ⟨#[]⟩, .slice none 0 0, .slice none 0 0, .string ⟨#[]⟩, .int .i64 0, .int .i64 0, .string ⟨#[]⟩, .string ⟨#[]⟩, .slice none 0 0, .slice none 0 0, .slice none 0 0, .string ⟨#[]⟩, .int .i64 0, .int .i64 0, .string ⟨#[]⟩, .string ⟨#[]⟩, .slice none 0 0, .string ⟨#[]⟩] 34)).setRow w2.heap.size (insC (.slice none 0 0))) ⟨(G2.out.1.alloc _).row _ (by omega), grow_row _ (grow_trans G2.out.2.1 (grow_alloc _ _ _)) (by omega), hgl, (setRow_other _ _ _ _ (by omega)).trans ((Below.heap_alloc _ _ _ (by omega)).trans G2.out.2.2.1), (setRow_other _ _ _ _ (by omega)).trans ((Below.heap_alloc _ _ _ (by omega)).trans G2.out.2.2.2), by omega, setRow_heap _ _ _ _ _ _ hbx, rfl, .inl ⟨rfl, rfl⟩⟩ fun w3 h3 => ?_
  have H3 := Lib.hid h3
  have p3 : w3.cell? ⟨w.heap.size, 0, none⟩ = some (.pointer (some ⟨g, 0, none⟩)) := Lib.cell_of_heap h3.b1 0
  clear h3 hbx p1
  go_upto_region 4 with (go_at_call 85; refine (must1_any g (some a) c (tsI.map tnOf) 3 false w3.heap.size 1 ⟨#[86, 65, 76, 85, 69, 83]⟩ ⟨1, ⟨#[86, 65, 76, 85, 69, 83]⟩⟩ (w3.alloc (.cells #[.string ⟨#[86, 65, 76, 85, 69, 83]⟩] 9)) (H3.out.alloc _).sz li11 (by omega) (by have := H3.out.sz.lt; omega) (word_at _ _) ni3).mono ?_; rintro e w4 ⟨rfl, hz, hg⟩; rw [show isB ⟨1, ⟨#[86, 65, 76, 85, 69, 83]⟩⟩ ⟨#[86, 65, 76, 85, 69, 83]⟩ = true by simp [isB]] at hz; rw [if_pos rfl] at hz; have H4 := Lib.hid ((H3.out.alloc _).call hz hg); clear hz hg)
  have p4 : w4.cell? ⟨w.heap.size, 0, none⟩ = some (.pointer (some ⟨g, 0, none⟩)) := Lib.cell_of_heap H4.out.b1 0
  have hls := H4.out.ls
  go_wp2_with (first
    | (go_at_call 87; (with_reducible refine (sbrack_ok H4.out hcc).mono ?_); rintro e w5 ⟨rfl, v5, hh⟩; have H5 := Lib.hid hh; have hb5 := hh.box; have hr5 := hh.res; have h51 : (insC v5).all (·.oneCell') = true := ins_one v5 (own_cell hh.row); clear hh)
    | (refine wpList_load_row rfl 34 (.tmp 3) rfl w2.heap.size rfl 34 (insC v5) (0, 0) _ hb5 Tryz.underlying34 rfl stSize ?_)
    | (refine wpList_store_row rfl 34 (.tmp 2) (.tmp 16) rfl (w.heap.size + 1) (insC v5) rfl rfl 34 _ hr5 stSize rfl h51 ?_))
  refine bodyPost_ret (results_cell_row rfl _ _ (w.heap.size + 1) 34 (insC v5) (0, 0) _ rfl (setRow_heap _ _ _ _ _ _ hr5) Tryz.underlying34 rfl stSize) rfl ⟨insC v5, rfl, insKp.mono (n := w2.heap.size + 1) (insKp.row ⟨v5, rfl, H5.out.row⟩ (by omega) _) (by omega), H5.out.sz.row _ (by omega), grow_row _ H5.out.gr (by omega)⟩
end Go.Proofs.YtlilnbcklplmfaaGreatDoor

/- Contracts of the library that this program comes to, laid at its own numbers by the kit's own programs (lay-shelf.mjs, lay-plain.mjs). -/
namespace Go.Proofs
open Go.Shelf
def Tryz.lays156_ren : Go.Shelf.Ren := ⟨fun | 156 => 156 | 165 => 203 | 166 => 204 | 169 => 205 | 240 => 227 | 241 => 228 | 276 => 249 | 277 => 250 | n => n, fun | 31 => 23 | 9 => 9 | 3 => 3 | 4 => 4 | 0 => 0 | 20 => 20 | 72 => 206 | 76 => 210 | 70 => 204 | 37 => 159 | 75 => 209 | 127 => 160 | 164 => 244 | 5 => 5 | 80 => 127 | n => n, fun | n => n⟩
theorem Tryz.lays156 : Go.Proofs.Lays.n156 Tryz.prog Tryz.lays156_ren := {
  mixed := by kernel_rfl
  f156 := Tryz.func156.trans (congrArg some (by kernel_rfl))
  f165 := Tryz.func203.trans (congrArg some (by kernel_rfl))
  f166 := Tryz.func204.trans (congrArg some (by kernel_rfl))
  f169 := Tryz.func205.trans (congrArg some (by kernel_rfl))
  f240 := Tryz.func227.trans (congrArg some (by kernel_rfl))
  f241 := Tryz.func228.trans (congrArg some (by kernel_rfl))
  f276 := Tryz.func249.trans (congrArg some (by kernel_rfl))
  f277 := Tryz.func250.trans (congrArg some (by kernel_rfl))
  t0 := Tryz.underlying0
  a0 := Tryz.isAgg0
  z0 := Tryz.sizeOf0
  v0 := Tryz.zeroValue0
  t3 := Tryz.underlying3
  a3 := Tryz.isAgg3
  z3 := Tryz.sizeOf3
  v3 := Tryz.zeroValue3
  t4 := Tryz.underlying4
  a4 := Tryz.isAgg4
  z4 := Tryz.sizeOf4
  v4 := Tryz.zeroValue4
  t9 := Tryz.underlying9
  a9 := Tryz.isAgg9
  z9 := Tryz.sizeOf9
  v9 := Tryz.zeroValue9
  t20 := Tryz.underlying20
  a20 := Tryz.isAgg20
  z20 := Tryz.sizeOf20
  v20 := Tryz.zeroValue20
  t31 := Tryz.underlying23
  a31 := Tryz.isAgg23
  z31 := Tryz.sizeOf23
  v31 := Tryz.zeroValue23
  t37 := Tryz.underlying159
  a37 := Tryz.isAgg159
  z37 := Tryz.sizeOf159
  v37 := Tryz.zeroValue159
  t70 := Tryz.underlying204
  a70 := Tryz.isAgg204
  z70 := Tryz.sizeOf204
  v70 := Tryz.zeroValue204
  t72 := Tryz.underlying206
  a72 := Tryz.isAgg206
  z72 := Tryz.sizeOf206
  v72 := Tryz.zeroValue206
  t75 := Tryz.underlying209
  a75 := Tryz.isAgg209
  z75 := Tryz.sizeOf209
  v75 := Tryz.zeroValue209
  t76 := Tryz.underlying210
  a76 := Tryz.isAgg210
  z76 := Tryz.sizeOf210
  v76 := Tryz.zeroValue210
  t127 := Tryz.underlying160
  a127 := Tryz.isAgg160
  z127 := Tryz.sizeOf160
  v127 := Tryz.zeroValue160
  t164 := Tryz.underlying244
  a164 := Tryz.isAgg244
  z164 := Tryz.sizeOf244
  v164 := Tryz.zeroValue244 }
theorem Tryz.Builder_Extra_156 : Builder.Extra Tryz.prog Tryz.lays156_ren := {
  sizeBuilder := by kernel_rfl
  liesBuilder := by kernel_rfl
  t5 := Tryz.underlying5
  a5 := Tryz.isAgg5
  z5 := Tryz.sizeOf5
  v5 := Tryz.zeroValue5
  infoByte := by kernel_rfl
  cellsByte := by kernel_rfl
  sizeByte := by kernel_rfl
  neB5 := by decide }
open Go.RowKit in
theorem Tryz.strings_Join (bk o c : Nat) (xs : List ByteArray) (sep : ByteArray) (w : World) (hcells : ∀ (j : Nat) x, xs[j]? = some x → w.cell? ⟨bk, o + j, none⟩ = some (.string x)) (hbk : bk < w.heap.size) (hN : xs.length ≤ 140737488355328) (hcap : xs.length ≤ c) (hlen : (Lib.join (xs.map (·.data.toList)) sep.data.toList).length ≤ 140737488355328) :
    Calls Tryz.prog 156 #[.slice (some ⟨bk, o, none⟩) xs.length c, .string sep] w fun e w' => e = .returned (.string ⟨(Lib.join (xs.map (·.data.toList)) sep.data.toList).toArray⟩) ∧ Below w.heap.size w w' := Any.strings_Join Tryz.lays156 Tryz.Builder_Extra_156 bk o c xs sep w hcells hbk hN hcap hlen

end Go.Proofs

/- The text of 'k = 1', and of a WHERE of it. -/
namespace Go.Proofs.YtlilnbcklplmfaaGreatDoor
open Go.RowKit Go.Lib

set_option maxRecDepth 100000 in
set_option maxHeartbeats 4000000 in
theorem upper_eq (w : World) : Calls Tryz.prog 272 #[.string ⟨#[61]⟩] w fun e w' => e = .returned (.string ⟨#[61]⟩) ∧ Below w.heap.size w w' := by
  go_enter Tryz.func272, Tryz.ntmps272
  go_wp2_with (fail)
  go_loopw [3, 4, 5] (fun a b v wr => ∃ j : Nat, j ≤ 1 ∧ v = .int .i64 j ∧ a = .bool true ∧ b = .bool false ∧ w = wr) (fun _ _ v _ => 1 - (intOf v).toNat)
  case atStart => exact ⟨0, by omega, rfl, rfl, rfl, rfl⟩
  case round =>
    obtain ⟨j, hj, rfl, rfl, rfl, rfl⟩ := hrel
    rcases (show j = 0 ∨ j = 1 by omega) with rfl | rfl
    · clear hj
      go_wp2_with (fail)
      go_roundw
      case rel => exact ⟨1, by omega, rfl, rfl, rfl, by first | rfl | trivial⟩
      case measure => simp [intOf]
    · clear hj
      go_wp2_with (fail)
      go_ret
      exact ⟨rfl, Below.refl _ _⟩
set_option maxRecDepth 100000 in
set_option maxHeartbeats 4000000 in
theorem xsame_no (u : Value) (w : World) : Calls Tryz.prog 60 #[.agg #[.string ⟨#[61]⟩, .int .i64 0, .int .i64 0, .string ⟨#[]⟩, .string ⟨#[]⟩, u], .agg #[.string ⟨#[]⟩, .int .i64 0, .int .i64 0, .string ⟨#[]⟩, .string ⟨#[]⟩, .slice none 0 0]] w fun e w' => e = .returned (.bool false) ∧ Below w.heap.size w w' := by
  go_enter Tryz.func60, Tryz.ntmps60
  go_wp2_with (fail)
  go_ret
  exact ⟨rfl, ((Below.refl _ _).alloc (Nat.le_refl _) _).alloc (by simp) _⟩
set_option maxRecDepth 100000 in
set_option maxHeartbeats 4000000 in
theorem none_ke (u : Value) (w : World) : Calls Tryz.prog 202 #[.agg #[.string ⟨#[61]⟩, .int .i64 0, .int .i64 0, .string ⟨#[]⟩, .string ⟨#[]⟩, u]] w fun e w' => e = .returned (.bool false) ∧ Below w.heap.size w w' := by
  go_enter Tryz.func202, Tryz.ntmps202
  go_wp2_with (go_at_call 60; (with_reducible refine (xsame_no u _).mono ?_); rintro e w1 ⟨rfl, hb1⟩; have HB1 := Lib.hid hb1; clear hb1)
  go_ret
  exact ⟨rfl, ((Below.refl _ _).alloc (Nat.le_refl _) _).trans (HB1.out.mono (by simp))⟩
theorem xmay_ke (Q : Nat → Prop) (N : Nat) (u : Value) (w : World) (ht : Tr w Q N keT u) : Calls Tryz.prog 35 #[.agg #[.string ⟨#[61]⟩, .int .i64 0, .int .i64 0, .string ⟨#[]⟩, .string ⟨#[]⟩, u]] w fun e w' => e = .returned (.bool true) ∧ Below w.heap.size w w' := by
  have := emay_any Q N keT u w ht
  rw [may_ke] at this
  exact this
set_option maxRecDepth 100000 in
set_option maxHeartbeats 4000000 in
theorem optional_ke (Q : Nat → Prop) (N : Nat) (u : Value) (w : World) (ht : Tr w Q N keT u) : Calls Tryz.prog 187 #[.agg #[.string ⟨#[61]⟩, .int .i64 0, .int .i64 0, .string ⟨#[]⟩, .string ⟨#[]⟩, u]] w fun e w' => e = .returned (.bool true) ∧ Below w.heap.size w w' := by
  have HT := Lib.hid ht
  clear ht
  have HB0 : Hid (Below w.heap.size w (w.alloc (.cells #[.string ⟨#[61]⟩, .int .i64 0, .int .i64 0, .string ⟨#[]⟩, .string ⟨#[]⟩, u] 30))) := (Below.refl _ _).alloc (Nat.le_refl _) _
  go_enter Tryz.func187, Tryz.ntmps187
  go_wp2_with (first
    | (go_at_call 202; (with_reducible refine (none_ke u _).mono ?_); rintro e w1 ⟨rfl, hb1⟩; have HB1 : Hid (Below w.heap.size w w1) := HB0.out.trans (hb1.mono (by simp)); have EK := hb1.block w.heap.size (by simp); rw [alloc_at rfl _] at EK; have k0 := Lib.cell_of_heap EK 0; have k1 := Lib.cell_of_heap EK 1; have k2 := Lib.cell_of_heap EK 2; have k3 := Lib.cell_of_heap EK 3; have k4 := Lib.cell_of_heap EK 4; have k5 := Lib.cell_of_heap EK 5; simp only [List.getElem?_toArray, List.getElem?_cons_zero, List.getElem?_cons_succ] at k0 k1 k2 k3 k4 k5; clear hb1 EK)
    | (go_at_call 35; (with_reducible refine (xmay_ke Q N u w1 (HT.out.below HB1.out)).mono ?_); rintro e w2 ⟨rfl, hb2⟩; have HB2 : Hid (Below w.heap.size w w2) := HB1.out.trans (hb2.mono HB1.out.size); clear hb2))
  go_ret
  exact ⟨rfl, HB2.out⟩
set_option maxRecDepth 100000 in
set_option maxHeartbeats 4000000 in
theorem written_1 (u : Value) (w : World) (hl : LibE w) : Calls Tryz.prog 248 #[.agg #[.string ⟨#[108, 105, 116]⟩, .int .i64 1, .int .i64 1, .string ⟨#[]⟩, .string ⟨#[]⟩, u]] w fun e w' => e = .returned (.string ⟨#[49]⟩) ∧ Below w.heap.size w w' := by
  have HL := Lib.hid hl
  have HX : Hid (∀ W : World, LibE W → Calls Tryz.prog 152 #[.agg #[.int .i64 1, .int .i64 1, .string ⟨#[]⟩]] W fun e w' => e = .returned (.string ⟨#[49]⟩) ∧ Below W.heap.size W w') := Lib.hid fun W hW => by
    have := text_any 1 1 ⟨#[]⟩ W hW.libs (by unfold In64; omega)
    rw [show (⟨(txtO 1 1 ⟨#[]⟩).toArray⟩ : ByteArray) = ⟨#[49]⟩ by kernel_rfl] at this
    exact this
  clear hl
  go_enter Tryz.func248, Tryz.ntmps248
  go_wp2_with (go_at_call 152; (with_reducible refine (HX.out _ (HL.out.keep ((Below.refl w.heap.size w).alloc (Nat.le_refl _) _) (Nat.le_refl _))).mono ?_); rintro e w1 ⟨rfl, hb1⟩; have HB1 := Lib.hid hb1; clear hb1)
  go_ret
  exact ⟨rfl, ((Below.refl _ _).alloc (Nat.le_refl _) _).trans (HB1.out.mono (by simp))⟩
set_option maxRecDepth 100000 in
set_option maxHeartbeats 4000000 in
theorem written_k (u : Value) (w : World) : Calls Tryz.prog 248 #[.agg #[.string ⟨#[99, 111, 108]⟩, .int .i64 0, .int .i64 0, .string ⟨#[]⟩, .string ⟨#[107]⟩, u]] w fun e w' => e = .returned (.string ⟨#[107]⟩) ∧ Below w.heap.size w w' := by
  go_enter Tryz.func248, Tryz.ntmps248
  go_wp2_with (fail)
  go_ret
  exact ⟨rfl, (Below.refl _ _).alloc (Nat.le_refl _) _⟩
set_option maxRecDepth 100000 in
set_option maxHeartbeats 4000000 in
theorem written_ke (Q : Nat → Prop) (N : Nat) (u : Value) (w : World) (ht : Tr w Q (N + 1) keT u) (hl : LibE w) : Calls Tryz.prog 248 #[.agg #[.string ⟨#[61]⟩, .int .i64 0, .int .i64 0, .string ⟨#[]⟩, .string ⟨#[]⟩, u]] w fun e w' => e = .returned (.string ⟨#[40, 107, 32, 61, 32, 49, 41]⟩) ∧ Below w.heap.size w w' := by
  obtain ⟨A, q, rfl, _⟩ := ht.form
  have hl2 : keT.l.length = 2 := rfl
  have hs : Sl w Q (N + 1) keT.l (.slice A keT.l.length q) := ht.2
  obtain ⟨a, u0, M0, rfl, _, x0, _⟩ := hs.at_ (j := 0) (by decide)
  obtain ⟨a', u1, M1, ea, _, x1, _⟩ := hs.at_ (j := 1) (by decide)
  injection ea with ea
  subst ea
  rw [hl2]
  have y0 : ExC w a (colT ⟨#[107]⟩) u0 := by rw [show a.add (0 * 6) = a by simp [Addr.add]] at x0; exact x0
  have y1 : ExC w ⟨a.block, a.off + 6, none⟩ (litT ⟨1, 1, ⟨#[]⟩⟩) u1 := by rw [show a.add (1 * 6) = ⟨a.block, a.off + 6, none⟩ from addE a 6 (by omega)] at x1; exact x1
  have HX := Lib.hid (And.intro y0 (And.intro y1 hl))
  have hal : a.block < w.heap.size := by have := x0.lt; rwa [add_block] at this
  clear ht hs hl2 x0 x1 y0 y1 hl
  go_enter Tryz.func248, Tryz.ntmps248
  go_upto_region 10 with (fail)
  refine detL_begin [.val (.pointer (some ⟨w.heap.size, 5, none⟩)), .val (.slice (some a) 2 q), .val (.pointer (some a)), .val (.agg #[.string ⟨#[99, 111, 108]⟩, .int .i64 0, .int .i64 0, .string ⟨#[]⟩, .string ⟨#[107]⟩, u0]), .val (.string ⟨#[107]⟩), .val (.string ⟨#[40, 107]⟩), .val (.string ⟨#[40, 107, 32]⟩), .val (.pointer (some ⟨w.heap.size, 0, none⟩)), .val (.string ⟨#[61]⟩), .val (.string ⟨#[61]⟩), .val (.string ⟨#[40, 107, 32, 61]⟩), .val (.string ⟨#[40, 107, 32, 61, 32]⟩), .val (.pointer (some ⟨w.heap.size, 5, none⟩)), .val (.slice (some a) 2 q), .val (.pointer (some ⟨a.block, a.off + 6, none⟩)), .val (.agg #[.string ⟨#[108, 105, 116]⟩, .int .i64 1, .int .i64 1, .string ⟨#[]⟩, .string ⟨#[]⟩, u1]), .val (.string ⟨#[49]⟩), .val (.string ⟨#[40, 107, 32, 61, 32, 49]⟩), .val (.string ⟨#[40, 107, 32, 61, 32, 49, 41]⟩), .val (.string ⟨#[40, 107, 32, 61, 32, 49, 41]⟩)] 20 (by kernel_rfl) ?_
  refine detL_val (by kernel_rfl) (yields_of rfl fun w1 hb1 => ?_) ?_
  · have hc1 := bcellD hb1
    clear hb1
    go_simp
    exact Det1_same
  simp only [Act.put, List.setIfInBounds_toArray, List.set_cons_zero, List.set_cons_succ]
  refine detL_val (by kernel_rfl) (yields_of rfl fun w1 hb1 => ?_) ?_
  · have hc1 := bcellD hb1
    clear hb1
    go_simp
    exact Det1_same
  simp only [Act.put, List.setIfInBounds_toArray, List.set_cons_zero, List.set_cons_succ]
  refine detL_val (by kernel_rfl) (yields_of rfl fun w1 hb1 => ?_) ?_
  · have hc1 := bcellD hb1
    clear hb1
    go_simp
    exact Det1_same
  simp only [Act.put, List.setIfInBounds_toArray, List.set_cons_zero, List.set_cons_succ]
  refine detL_val (by kernel_rfl) (yields_of rfl fun w1 hb1 => ?_) ?_
  · have hc1 := bcellD hb1
    have z := HX.out.1; have m0 := z.c0; have m1 := z.c1; have m2 := z.c2; have m3 := z.c3; have m4 := z.c4; have m5 := z.c5; clear z; have x := HX.out.1.keep (W' := w1) (by exact (hb1.block _ (by show a.block < (w.heap.push _).size; simp; omega)).trans (Below.heap_alloc _ _ _ hal)); have k0 := x.c0; have k1 := x.c1; have k2 := x.c2; have k3 := x.c3; have k4 := x.c4; have k5 := x.c5; clear x; simp only [colT, Ex.l, Ex.op, Ex.x, Ex.s] at k0 k1 k2 k3 k4 k5 m0 m1 m2 m3 m4 m5
    clear hb1
    go_simp
    exact Det1_same
  simp only [Act.put, List.setIfInBounds_toArray, List.set_cons_zero, List.set_cons_succ]
  refine detL_val (by kernel_rfl) (yields_of rfl fun w1 hb1 => ?_) ?_
  · have hc1 := bcellD hb1
    clear hb1
    go_simp
    exact Det1_enter (written_k u0 _)
  simp only [Act.put, List.setIfInBounds_toArray, List.set_cons_zero, List.set_cons_succ]
  refine detL_val (by kernel_rfl) (yields_of rfl fun w1 hb1 => ?_) ?_
  · have hc1 := bcellD hb1
    clear hb1
    go_simp
    exact Det1_same
  simp only [Act.put, List.setIfInBounds_toArray, List.set_cons_zero, List.set_cons_succ]
  refine detL_val (by kernel_rfl) (yields_of rfl fun w1 hb1 => ?_) ?_
  · have hc1 := bcellD hb1
    clear hb1
    go_simp
    exact Det1_same
  simp only [Act.put, List.setIfInBounds_toArray, List.set_cons_zero, List.set_cons_succ]
  refine detL_val (by kernel_rfl) (yields_of rfl fun w1 hb1 => ?_) ?_
  · have hc1 := bcellD hb1
    clear hb1
    go_simp
    exact Det1_same
  simp only [Act.put, List.setIfInBounds_toArray, List.set_cons_zero, List.set_cons_succ]
  refine detL_val (by kernel_rfl) (yields_of rfl fun w1 hb1 => ?_) ?_
  · have hc1 := bcellD hb1
    clear hb1
    go_simp
    exact Det1_same
  simp only [Act.put, List.setIfInBounds_toArray, List.set_cons_zero, List.set_cons_succ]
  refine detL_val (by kernel_rfl) (yields_of rfl fun w1 hb1 => ?_) ?_
  · have hc1 := bcellD hb1
    clear hb1
    go_simp
    exact Det1_enter (upper_eq _)
  simp only [Act.put, List.setIfInBounds_toArray, List.set_cons_zero, List.set_cons_succ]
  refine detL_val (by kernel_rfl) (yields_of rfl fun w1 hb1 => ?_) ?_
  · have hc1 := bcellD hb1
    clear hb1
    go_simp
    exact Det1_same
  simp only [Act.put, List.setIfInBounds_toArray, List.set_cons_zero, List.set_cons_succ]
  refine detL_val (by kernel_rfl) (yields_of rfl fun w1 hb1 => ?_) ?_
  · have hc1 := bcellD hb1
    clear hb1
    go_simp
    exact Det1_same
  simp only [Act.put, List.setIfInBounds_toArray, List.set_cons_zero, List.set_cons_succ]
  refine detL_val (by kernel_rfl) (yields_of rfl fun w1 hb1 => ?_) ?_
  · have hc1 := bcellD hb1
    clear hb1
    go_simp
    exact Det1_same
  simp only [Act.put, List.setIfInBounds_toArray, List.set_cons_zero, List.set_cons_succ]
  refine detL_val (by kernel_rfl) (yields_of rfl fun w1 hb1 => ?_) ?_
  · have hc1 := bcellD hb1
    clear hb1
    go_simp
    exact Det1_same
  simp only [Act.put, List.setIfInBounds_toArray, List.set_cons_zero, List.set_cons_succ]
  refine detL_val (by kernel_rfl) (yields_of rfl fun w1 hb1 => ?_) ?_
  · have hc1 := bcellD hb1
    clear hb1
    go_simp
    exact Det1_same
  simp only [Act.put, List.setIfInBounds_toArray, List.set_cons_zero, List.set_cons_succ]
  refine detL_val (by kernel_rfl) (yields_of rfl fun w1 hb1 => ?_) ?_
  · have hc1 := bcellD hb1
    have z := HX.out.2.1; have m0 := z.c0; have m1 := z.c1; have m2 := z.c2; have m3 := z.c3; have m4 := z.c4; have m5 := z.c5; clear z; have x := HX.out.2.1.keep (W' := w1) (by exact (hb1.block _ (by show a.block < (w.heap.push _).size; simp; omega)).trans (Below.heap_alloc _ _ _ hal)); have k0 := x.c0; have k1 := x.c1; have k2 := x.c2; have k3 := x.c3; have k4 := x.c4; have k5 := x.c5; clear x; simp only [litT, Ex.l, Ex.op, Ex.x, Ex.s] at k0 k1 k2 k3 k4 k5 m0 m1 m2 m3 m4 m5
    clear hb1
    go_simp
    exact Det1_same
  simp only [Act.put, List.setIfInBounds_toArray, List.set_cons_zero, List.set_cons_succ]
  refine detL_val (by kernel_rfl) (yields_of rfl fun w1 hb1 => ?_) ?_
  · have hc1 := bcellD hb1
    have HL1 := Lib.hid ((HX.out.2.2.keep ((Below.refl w.heap.size w).alloc (Nat.le_refl _) _) (Nat.le_refl _)).drew.keep hb1 (Nat.le_refl _))
    clear hb1
    go_simp
    exact Det1_enter (written_1 u1 _ HL1.out)
  simp only [Act.put, List.setIfInBounds_toArray, List.set_cons_zero, List.set_cons_succ]
  refine detL_val (by kernel_rfl) (yields_of rfl fun w1 hb1 => ?_) ?_
  · have hc1 := bcellD hb1
    clear hb1
    go_simp
    exact Det1_same
  simp only [Act.put, List.setIfInBounds_toArray, List.set_cons_zero, List.set_cons_succ]
  refine detL_val (by kernel_rfl) (yields_of rfl fun w1 hb1 => ?_) ?_
  · have hc1 := bcellD hb1
    clear hb1
    go_simp
    exact Det1_same
  simp only [Act.put, List.setIfInBounds_toArray, List.set_cons_zero, List.set_cons_succ]
  refine detL_val (by kernel_rfl) (yields_of rfl fun w1 hb1 => ?_) ?_
  · have hc1 := bcellD hb1
    clear hb1
    go_simp
    exact Det1_same
  simp only [Act.put, List.setIfInBounds_toArray, List.set_cons_zero, List.set_cons_succ]
  refine detL_done (by kernel_rfl) fun w1 hw1 => ?_
  have HB1 : Hid (Below w.heap.size w w1) := ((Below.refl _ _).alloc (Nat.le_refl _) _).drew.trans (hw1.below.mono (by simp))
  clear hw1
  go_wp2
  go_ret
  exact ⟨rfl, HB1.out⟩
end Go.Proofs.YtlilnbcklplmfaaGreatDoor
