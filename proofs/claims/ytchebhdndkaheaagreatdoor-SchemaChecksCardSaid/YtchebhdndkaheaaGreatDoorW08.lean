import Derived.Test.YtchebhdndkaheaaGreatDoorW07
import Derived.WideMake
import Derived.Test.YtchebhdndkaheaaGreatDoorW03

/- The map of functions that an expression's Ops are done by. -/
namespace Go.Proofs.YtchebhdndkaheaaGreatDoor
open Go.RowKit Go.Lib

def pairOf (e : MapEntry) : Value × Value := (e.key, e.val)
/-- Block r is a map of these texts. -/
def MapAt (W : World) (r : Nat) (es : List (ByteArray × Value)) : Prop := ∃ (m : Array MapEntry) (c : Nat), W.heap[r]? = some (.map m c) ∧ m.toList.map pairOf = es.map fun y => (.string y.1, y.2)
theorem MapAt.lt {W : World} {r : Nat} {es : List (ByteArray × Value)} (h : MapAt W r es) : r < W.heap.size := by obtain ⟨m, c, h, _⟩ := h; exact (Array.getElem?_eq_some_iff.1 h).1
theorem MapAt.keep {W W' : World} {r : Nat} {es : List (ByteArray × Value)} (h : MapAt W r es) (hb : W'.heap[r]? = W.heap[r]?) : MapAt W' r es := by obtain ⟨m, c, h, k⟩ := h; exact ⟨m, c, hb.trans h, k⟩
theorem MapAt.below {W W' : World} {r : Nat} {es : List (ByteArray × Value)} (h : MapAt W r es) (hb : Below W.heap.size W W') : MapAt W' r es := h.keep (hb.block r h.lt)
theorem MapAt.made (w : World) : MapAt (w.alloc (.map #[] 0)) w.heap.size [] := ⟨#[], 0, by show (w.heap.push _)[w.heap.size]? = _; simp, rfl⟩

theorem find_new {s : ByteArray} : ∀ {l : List MapEntry} {es : List (ByteArray × Value)} (i : Nat), l.map pairOf = es.map (fun y => (.string y.1, y.2)) → (∀ y ∈ es, (s == y.1) = false) → Instr.findNow .string (.string s) l i = some none
  | [], _, _, _, _ => rfl
  | e :: l, [], _, h, _ => by simp at h
  | e :: l, y :: es, i, h, hn => by
    simp only [List.map_cons, List.cons.injEq] at h
    obtain ⟨h1, h2⟩ := h
    have hk : e.key = .string y.1 := congrArg Prod.fst h1
    have hs : (s == y.1) = false := hn y List.mem_cons_self
    show (match Instr.sameNow .string (.string s) e.key with | some true => _ | some false => _ | none => _) = _
    rw [hk]
    simp only [Instr.sameNow, hs]
    exact find_new (i + 1) h2 fun z hz => hn z (List.mem_cons_of_mem _ hz)
theorem find_is {s : ByteArray} {v : Value} : ∀ {l : List MapEntry} {es : List (ByteArray × Value)} (i : Nat), l.map pairOf = es.map (fun y => (.string y.1, y.2)) → es.find? (fun y => s == y.1) = some (s, v) → ∃ j, Instr.findNow .string (.string s) l i = some (some (j, v))
  | [], [], _, _, hf => by simp at hf
  | [], y :: es, _, h, _ => by simp at h
  | e :: l, [], _, h, _ => by simp at h
  | e :: l, y :: es, i, h, hf => by
    simp only [List.map_cons, List.cons.injEq] at h
    obtain ⟨h1, h2⟩ := h
    have hk : e.key = .string y.1 := congrArg Prod.fst h1
    have hv : e.val = y.2 := congrArg Prod.snd h1
    cases hs : s == y.1 with
    | true =>
      rw [List.find?_cons_of_pos (by exact hs)] at hf
      injection hf with hf
      refine ⟨i, ?_⟩
      show (match Instr.sameNow .string (.string s) e.key with | some true => _ | some false => _ | none => _) = _
      rw [hk]
      simp only [Instr.sameNow]
      rw [hs, hv, hf]
    | false =>
      rw [List.find?_cons_of_neg (by rw [hs]; decide)] at hf
      obtain ⟨j, hj⟩ := find_is (i + 1) h2 hf
      refine ⟨j, ?_⟩
      show (match Instr.sameNow .string (.string s) e.key with | some true => _ | some false => _ | none => _) = _
      rw [hk]
      simp only [Instr.sameNow, hs]
      exact hj

theorem MapAt.insert {P : Program} {w : World} {r : Nat} {es : List (ByteArray × Value)} (h : MapAt w r es) {t k e : TypeId} (ht : P.underlying t = some (.map k e)) (hk : P.underlying k = some .string) {s : ByteArray} (v : Value) (hn : ∀ y ∈ es, (s == y.1) = false) :
    ∃ w', (Instr.mapUpdate t (.map (some r)) (.string s) v).run P w = .ok () w' ∧ MapAt w' r (es ++ [(s, v)]) ∧ w.grownBy w' (some r) := by
  obtain ⟨m, c, hb, hm⟩ := h
  have hf := find_new (s := s) 0 hm hn
  have hc : (Instr.checkKey false 10000 k (.string s)).run P w = .ok () w := MapKept.run_checkKey (k := .string s) hk (by simp [MapKept.IsKey]) false 9999
  refine ⟨{ w with heap := w.heap.setIfInBounds r (.map (m.push { key := .string s, val := v, born := c }) (c + 1)) }, ?_, ⟨_, _, (MapKept.heap_set hb).1, ?_⟩, ⟨rfl, rfl, rfl, by simp, fun q hq hne => (MapKept.heap_set hb).2 q (fun e => hne (by rw [e]))⟩⟩
  · simp [Instr.mapUpdate, run_underlying ht, MapKept.run_getObj_map hb, hc, MapKept.run_findKey hk hf, MapKept.run_setObj_map _ hb, Result.andThen]
  · simp [hm, pairOf]

theorem MapAt.look {P : Program} {w : World} {r : Nat} {es : List (ByteArray × Value)} (h : MapAt w r es) {t k e : TypeId} (ht : P.underlying t = some (.map k e)) (hk : P.underlying k = some .string) {s : ByteArray} {v : Value} (hf : es.find? (fun y => s == y.1) = some (s, v)) :
    (Instr.lookup t (.map (some r)) (.string s) false).run P w = .ok v w := by
  obtain ⟨m, c, hb, hm⟩ := h
  obtain ⟨j, hj⟩ := find_is (s := s) 0 hm hf
  have hc : (Instr.checkKey m.isEmpty 10000 k (.string s)).run P w = .ok () w := MapKept.run_checkKey (k := .string s) hk (by simp [MapKept.IsKey]) m.isEmpty 9999
  simp [Instr.lookup, run_underlying ht, MapKept.run_getObj_map hb, hc, MapKept.run_findKey hk hj, Result.andThen]

/-- A map's new entry, at the operation. -/
theorem wpList_insert_new {P : Program} (w : World) {ops : Array Oper} {rest : List Oper} {o : Oper} {a : Act} {Q : Exit → Act → World → Prop}
    (hg : o.guard = none) (m x v : Operand) (t : TypeId) (hop : o.op = Op.insert t m x v) (k e : TypeId) (ht : P.underlying t = some (.map k e)) (hk : P.underlying k = some .string) (r : Nat) (es : List (ByteArray × Value))
    (hm : a.eval m = .map (some r)) (hat : MapAt w r es) (s : ByteArray) (val : Value) (hx : a.eval x = .string s) (hv : a.eval v = val) (hn : ∀ y ∈ es, (s == y.1) = false)
    (hK : ∀ w', MapAt w' r (es ++ [(s, val)]) → w.grownBy w' (some r) → wpList P ops Q rest (a.put o.dst undef) w') :
    wpList P ops Q (o :: rest) a w := by
  refine wpList_plain hg fun K' hK' => ?_
  obtain ⟨w', hrun, r1, r2⟩ := hat.insert ht hk val hn
  unfold Oper.wp
  simp [execOp, hop, hm, hx, hv, hrun, Result.andThen]
  exact hK' _ _ (hK w' r1 r2)

/-- A closure that does f with the values of a slice. -/
def Clo (W : World) (v : Value) (K f : Nat) : Prop := ∃ b, v = .func (.func K) #[] #[.pointer (some ⟨b, 0, none⟩)] ∧ W.cell? ⟨b, 0, none⟩ = some (.func (.func f) #[] #[])
theorem Clo.keep {W W' : World} {v : Value} {K f : Nat} (h : Clo W v K f) (hb : ∀ b, b < W.heap.size → (∃ u, W.cell? ⟨b, 0, none⟩ = some u ∧ u.oneCell' = true) → W'.heap[b]? = W.heap[b]?) : Clo W' v K f := by
  obtain ⟨b, e, hc⟩ := h
  exact ⟨b, e, (World.cell?_of_block (w := W) (a := ⟨b, 0, none⟩) (hb b (World.block_lt_of_cell? W _ hc) ⟨_, hc, rfl⟩)).trans hc⟩
theorem Clo.below {W W' : World} {v : Value} {K f : Nat} (h : Clo W v K f) (hb : Below W.heap.size W W') : Clo W' v K f := h.keep fun b hl _ => hb.block b hl
theorem Clo.map {W W' : World} {v : Value} {K f r : Nat} {es : List (ByteArray × Value)} (h : Clo W v K f) (hg : W.grownBy W' (some r)) (hr : MapAt W r es) : Clo W' v K f := h.keep fun b hl hu => hg.block b hl fun e => by
  injection e with e
  subst e
  obtain ⟨m, c, hb, _⟩ := hr
  obtain ⟨u, hc, _⟩ := hu
  simp [World.cell?, hb] at hc

set_option maxRecDepth 100000 in
set_option maxHeartbeats 1600000 in
theorem one_any (f : Nat) (w : World) :
    Calls Tryz.prog 45 #[.func (.func f) #[] #[]] w fun e w' => ∃ v, e = .returned v ∧ Clo w' v 70 f ∧ Below w.heap.size w w' := by
  go_enter Tryz.func45, Tryz.ntmps45
  go_wp2_with (fail)
  go_ret
  exact ⟨_, rfl, ⟨_, rfl, by simp [go_sem]⟩, (Below.refl _ _).alloc (Nat.le_refl _) _⟩

set_option maxRecDepth 100000 in
set_option maxHeartbeats 1600000 in
theorem two_any (f : Nat) (w : World) :
    Calls Tryz.prog 48 #[.func (.func f) #[] #[]] w fun e w' => ∃ v, e = .returned v ∧ Clo w' v 75 f ∧ Below w.heap.size w w' := by
  go_enter Tryz.func48, Tryz.ntmps48
  go_wp2_with (fail)
  go_ret
  exact ⟨_, rfl, ⟨_, rfl, by simp [go_sem]⟩, (Below.refl _ _).alloc (Nat.le_refl _) _⟩

/-- Block r is the map of what each Op does. -/
structure Does (W : World) (r : Nat) (v0 v1 v2 v3 v4 v5 v6 v7 : Value) : Prop where
  map : MapAt W r [(⟨#[110, 111, 116]⟩, v0), (⟨#[110, 117, 108, 108]⟩, v1), (⟨#[97, 110, 100]⟩, v2), (⟨#[111, 114]⟩, v3), (⟨#[61]⟩, v4), (⟨#[60]⟩, v5), (⟨#[43]⟩, v6), (⟨#[45]⟩, v7)]
  c0 : Clo W v0 70 46
  c1 : Clo W v1 70 47
  c2 : Clo W v2 75 49
  c3 : Clo W v3 75 50
  c4 : Clo W v4 75 51
  c5 : Clo W v5 75 52
  c6 : Clo W v6 75 53
  c7 : Clo W v7 75 54
theorem Does.below {W W' : World} {r : Nat} {v0 v1 v2 v3 v4 v5 v6 v7 : Value} (h : Does W r v0 v1 v2 v3 v4 v5 v6 v7) (hb : Below W.heap.size W W') : Does W' r v0 v1 v2 v3 v4 v5 v6 v7 :=
  ⟨h.map.below hb, h.c0.below hb, h.c1.below hb, h.c2.below hb, h.c3.below hb, h.c4.below hb, h.c5.below hb, h.c6.below hb, h.c7.below hb⟩

set_option maxRecDepth 100000 in
set_option maxHeartbeats 4000000 in
theorem doings_any (w : World) :
    Calls Tryz.prog 27 #[] w fun e w' => ∃ r v0 v1 v2 v3 v4 v5 v6 v7, e = .returned (.map (some r)) ∧ Does w' r v0 v1 v2 v3 v4 v5 v6 v7 ∧ Below w.heap.size w w' := by
  have hmm := @run_makeMap Tryz.prog
  go_enter Tryz.func27, Tryz.ntmps27
  have HM0 := Lib.hid (MapAt.made w)
  have HB0 : Hid (Below w.heap.size w (w.alloc (.map #[] 0))) := (Below.refl _ _).alloc (Nat.le_refl _) _
  go_wp2_with (go_at_call 45; refine (one_any _ _).mono ?_)
  rintro e x0 ⟨v0, rfl, hk0, hb0⟩
  have HMx0 := Lib.hid (HM0.out.below hb0)
  have HBx0 : Hid (Below w.heap.size w x0) := HB0.out.trans (hb0.mono HB0.out.size)
  have HCx0 := Lib.hid hk0
  clear hk0 hb0
  go_wp2_with (with_reducible refine wpList_insert_new _ rfl _ _ _ 66 rfl 9 89 Tryz.underlying66 Tryz.underlying9 w.heap.size [] rfl HMx0.out ⟨#[110, 111, 116]⟩ _ rfl rfl ?n0 ?k0)
  case n0 => intro y hy; cases hy
  intro y0 hm0 hg0
  have HM1 := Lib.hid hm0
  have HB1 : Hid (Below w.heap.size w y0) := below_grow HBx0.out hg0 (Nat.le_refl _) HBx0.out.size
  have HC1_0 := Lib.hid (HCx0.out.map hg0 HMx0.out)
  clear hm0 hg0
  go_wp2_with (go_at_call 45; refine (one_any _ _).mono ?_)
  rintro e x1 ⟨v1, rfl, hk1, hb1⟩
  have HMx1 := Lib.hid (HM1.out.below hb1)
  have HBx1 : Hid (Below w.heap.size w x1) := HB1.out.trans (hb1.mono HB1.out.size)
  have HCx1 := Lib.hid hk1
  have HCx1_0 := Lib.hid (HC1_0.out.below hb1)
  clear hk1 hb1
  go_wp2_with (with_reducible refine wpList_insert_new _ rfl _ _ _ 66 rfl 9 89 Tryz.underlying66 Tryz.underlying9 w.heap.size [(⟨#[110, 111, 116]⟩, v0)] rfl HMx1.out ⟨#[110, 117, 108, 108]⟩ _ rfl rfl ?n1 ?k1)
  case n1 => intro y hy; simp at hy; rcases hy with rfl <;> rfl
  intro y1 hm1 hg1
  have HM2 := Lib.hid hm1
  have HB2 : Hid (Below w.heap.size w y1) := below_grow HBx1.out hg1 (Nat.le_refl _) HBx1.out.size
  have HC2_1 := Lib.hid (HCx1.out.map hg1 HMx1.out)
  have HC2_0 := Lib.hid (HCx1_0.out.map hg1 HMx1.out)
  clear hm1 hg1
  go_wp2_with (go_at_call 48; refine (two_any _ _).mono ?_)
  rintro e x2 ⟨v2, rfl, hk2, hb2⟩
  have HMx2 := Lib.hid (HM2.out.below hb2)
  have HBx2 : Hid (Below w.heap.size w x2) := HB2.out.trans (hb2.mono HB2.out.size)
  have HCx2 := Lib.hid hk2
  have HCx2_0 := Lib.hid (HC2_0.out.below hb2)
  have HCx2_1 := Lib.hid (HC2_1.out.below hb2)
  clear hk2 hb2
  go_wp2_with (with_reducible refine wpList_insert_new _ rfl _ _ _ 66 rfl 9 89 Tryz.underlying66 Tryz.underlying9 w.heap.size [(⟨#[110, 111, 116]⟩, v0), (⟨#[110, 117, 108, 108]⟩, v1)] rfl HMx2.out ⟨#[97, 110, 100]⟩ _ rfl rfl ?n2 ?k2)
  case n2 => intro y hy; simp at hy; rcases hy with rfl | rfl <;> rfl
  intro y2 hm2 hg2
  have HM3 := Lib.hid hm2
  have HB3 : Hid (Below w.heap.size w y2) := below_grow HBx2.out hg2 (Nat.le_refl _) HBx2.out.size
  have HC3_2 := Lib.hid (HCx2.out.map hg2 HMx2.out)
  have HC3_0 := Lib.hid (HCx2_0.out.map hg2 HMx2.out)
  have HC3_1 := Lib.hid (HCx2_1.out.map hg2 HMx2.out)
  clear hm2 hg2
  go_wp2_with (go_at_call 48; refine (two_any _ _).mono ?_)
  rintro e x3 ⟨v3, rfl, hk3, hb3⟩
  have HMx3 := Lib.hid (HM3.out.below hb3)
  have HBx3 : Hid (Below w.heap.size w x3) := HB3.out.trans (hb3.mono HB3.out.size)
  have HCx3 := Lib.hid hk3
  have HCx3_0 := Lib.hid (HC3_0.out.below hb3)
  have HCx3_1 := Lib.hid (HC3_1.out.below hb3)
  have HCx3_2 := Lib.hid (HC3_2.out.below hb3)
  clear hk3 hb3
  go_wp2_with (with_reducible refine wpList_insert_new _ rfl _ _ _ 66 rfl 9 89 Tryz.underlying66 Tryz.underlying9 w.heap.size [(⟨#[110, 111, 116]⟩, v0), (⟨#[110, 117, 108, 108]⟩, v1), (⟨#[97, 110, 100]⟩, v2)] rfl HMx3.out ⟨#[111, 114]⟩ _ rfl rfl ?n3 ?k3)
  case n3 => intro y hy; simp at hy; rcases hy with rfl | rfl | rfl <;> rfl
  intro y3 hm3 hg3
  have HM4 := Lib.hid hm3
  have HB4 : Hid (Below w.heap.size w y3) := below_grow HBx3.out hg3 (Nat.le_refl _) HBx3.out.size
  have HC4_3 := Lib.hid (HCx3.out.map hg3 HMx3.out)
  have HC4_0 := Lib.hid (HCx3_0.out.map hg3 HMx3.out)
  have HC4_1 := Lib.hid (HCx3_1.out.map hg3 HMx3.out)
  have HC4_2 := Lib.hid (HCx3_2.out.map hg3 HMx3.out)
  clear hm3 hg3
  go_wp2_with (go_at_call 48; refine (two_any _ _).mono ?_)
  rintro e x4 ⟨v4, rfl, hk4, hb4⟩
  have HMx4 := Lib.hid (HM4.out.below hb4)
  have HBx4 : Hid (Below w.heap.size w x4) := HB4.out.trans (hb4.mono HB4.out.size)
  have HCx4 := Lib.hid hk4
  have HCx4_0 := Lib.hid (HC4_0.out.below hb4)
  have HCx4_1 := Lib.hid (HC4_1.out.below hb4)
  have HCx4_2 := Lib.hid (HC4_2.out.below hb4)
  have HCx4_3 := Lib.hid (HC4_3.out.below hb4)
  clear hk4 hb4
  go_wp2_with (with_reducible refine wpList_insert_new _ rfl _ _ _ 66 rfl 9 89 Tryz.underlying66 Tryz.underlying9 w.heap.size [(⟨#[110, 111, 116]⟩, v0), (⟨#[110, 117, 108, 108]⟩, v1), (⟨#[97, 110, 100]⟩, v2), (⟨#[111, 114]⟩, v3)] rfl HMx4.out ⟨#[61]⟩ _ rfl rfl ?n4 ?k4)
  case n4 => intro y hy; simp at hy; rcases hy with rfl | rfl | rfl | rfl <;> rfl
  intro y4 hm4 hg4
  have HM5 := Lib.hid hm4
  have HB5 : Hid (Below w.heap.size w y4) := below_grow HBx4.out hg4 (Nat.le_refl _) HBx4.out.size
  have HC5_4 := Lib.hid (HCx4.out.map hg4 HMx4.out)
  have HC5_0 := Lib.hid (HCx4_0.out.map hg4 HMx4.out)
  have HC5_1 := Lib.hid (HCx4_1.out.map hg4 HMx4.out)
  have HC5_2 := Lib.hid (HCx4_2.out.map hg4 HMx4.out)
  have HC5_3 := Lib.hid (HCx4_3.out.map hg4 HMx4.out)
  clear hm4 hg4
  go_wp2_with (go_at_call 48; refine (two_any _ _).mono ?_)
  rintro e x5 ⟨v5, rfl, hk5, hb5⟩
  have HMx5 := Lib.hid (HM5.out.below hb5)
  have HBx5 : Hid (Below w.heap.size w x5) := HB5.out.trans (hb5.mono HB5.out.size)
  have HCx5 := Lib.hid hk5
  have HCx5_0 := Lib.hid (HC5_0.out.below hb5)
  have HCx5_1 := Lib.hid (HC5_1.out.below hb5)
  have HCx5_2 := Lib.hid (HC5_2.out.below hb5)
  have HCx5_3 := Lib.hid (HC5_3.out.below hb5)
  have HCx5_4 := Lib.hid (HC5_4.out.below hb5)
  clear hk5 hb5
  go_wp2_with (with_reducible refine wpList_insert_new _ rfl _ _ _ 66 rfl 9 89 Tryz.underlying66 Tryz.underlying9 w.heap.size [(⟨#[110, 111, 116]⟩, v0), (⟨#[110, 117, 108, 108]⟩, v1), (⟨#[97, 110, 100]⟩, v2), (⟨#[111, 114]⟩, v3), (⟨#[61]⟩, v4)] rfl HMx5.out ⟨#[60]⟩ _ rfl rfl ?n5 ?k5)
  case n5 => intro y hy; simp at hy; rcases hy with rfl | rfl | rfl | rfl | rfl <;> rfl
  intro y5 hm5 hg5
  have HM6 := Lib.hid hm5
  have HB6 : Hid (Below w.heap.size w y5) := below_grow HBx5.out hg5 (Nat.le_refl _) HBx5.out.size
  have HC6_5 := Lib.hid (HCx5.out.map hg5 HMx5.out)
  have HC6_0 := Lib.hid (HCx5_0.out.map hg5 HMx5.out)
  have HC6_1 := Lib.hid (HCx5_1.out.map hg5 HMx5.out)
  have HC6_2 := Lib.hid (HCx5_2.out.map hg5 HMx5.out)
  have HC6_3 := Lib.hid (HCx5_3.out.map hg5 HMx5.out)
  have HC6_4 := Lib.hid (HCx5_4.out.map hg5 HMx5.out)
  clear hm5 hg5
  go_wp2_with (go_at_call 48; refine (two_any _ _).mono ?_)
  rintro e x6 ⟨v6, rfl, hk6, hb6⟩
  have HMx6 := Lib.hid (HM6.out.below hb6)
  have HBx6 : Hid (Below w.heap.size w x6) := HB6.out.trans (hb6.mono HB6.out.size)
  have HCx6 := Lib.hid hk6
  have HCx6_0 := Lib.hid (HC6_0.out.below hb6)
  have HCx6_1 := Lib.hid (HC6_1.out.below hb6)
  have HCx6_2 := Lib.hid (HC6_2.out.below hb6)
  have HCx6_3 := Lib.hid (HC6_3.out.below hb6)
  have HCx6_4 := Lib.hid (HC6_4.out.below hb6)
  have HCx6_5 := Lib.hid (HC6_5.out.below hb6)
  clear hk6 hb6
  go_wp2_with (with_reducible refine wpList_insert_new _ rfl _ _ _ 66 rfl 9 89 Tryz.underlying66 Tryz.underlying9 w.heap.size [(⟨#[110, 111, 116]⟩, v0), (⟨#[110, 117, 108, 108]⟩, v1), (⟨#[97, 110, 100]⟩, v2), (⟨#[111, 114]⟩, v3), (⟨#[61]⟩, v4), (⟨#[60]⟩, v5)] rfl HMx6.out ⟨#[43]⟩ _ rfl rfl ?n6 ?k6)
  case n6 => intro y hy; simp at hy; rcases hy with rfl | rfl | rfl | rfl | rfl | rfl <;> rfl
  intro y6 hm6 hg6
  have HM7 := Lib.hid hm6
  have HB7 : Hid (Below w.heap.size w y6) := below_grow HBx6.out hg6 (Nat.le_refl _) HBx6.out.size
  have HC7_6 := Lib.hid (HCx6.out.map hg6 HMx6.out)
  have HC7_0 := Lib.hid (HCx6_0.out.map hg6 HMx6.out)
  have HC7_1 := Lib.hid (HCx6_1.out.map hg6 HMx6.out)
  have HC7_2 := Lib.hid (HCx6_2.out.map hg6 HMx6.out)
  have HC7_3 := Lib.hid (HCx6_3.out.map hg6 HMx6.out)
  have HC7_4 := Lib.hid (HCx6_4.out.map hg6 HMx6.out)
  have HC7_5 := Lib.hid (HCx6_5.out.map hg6 HMx6.out)
  clear hm6 hg6
  go_wp2_with (go_at_call 48; refine (two_any _ _).mono ?_)
  rintro e x7 ⟨v7, rfl, hk7, hb7⟩
  have HMx7 := Lib.hid (HM7.out.below hb7)
  have HBx7 : Hid (Below w.heap.size w x7) := HB7.out.trans (hb7.mono HB7.out.size)
  have HCx7 := Lib.hid hk7
  have HCx7_0 := Lib.hid (HC7_0.out.below hb7)
  have HCx7_1 := Lib.hid (HC7_1.out.below hb7)
  have HCx7_2 := Lib.hid (HC7_2.out.below hb7)
  have HCx7_3 := Lib.hid (HC7_3.out.below hb7)
  have HCx7_4 := Lib.hid (HC7_4.out.below hb7)
  have HCx7_5 := Lib.hid (HC7_5.out.below hb7)
  have HCx7_6 := Lib.hid (HC7_6.out.below hb7)
  clear hk7 hb7
  go_wp2_with (with_reducible refine wpList_insert_new _ rfl _ _ _ 66 rfl 9 89 Tryz.underlying66 Tryz.underlying9 w.heap.size [(⟨#[110, 111, 116]⟩, v0), (⟨#[110, 117, 108, 108]⟩, v1), (⟨#[97, 110, 100]⟩, v2), (⟨#[111, 114]⟩, v3), (⟨#[61]⟩, v4), (⟨#[60]⟩, v5), (⟨#[43]⟩, v6)] rfl HMx7.out ⟨#[45]⟩ _ rfl rfl ?n7 ?k7)
  case n7 => intro y hy; simp at hy; rcases hy with rfl | rfl | rfl | rfl | rfl | rfl | rfl <;> rfl
  intro y7 hm7 hg7
  have HM8 := Lib.hid hm7
  have HB8 : Hid (Below w.heap.size w y7) := below_grow HBx7.out hg7 (Nat.le_refl _) HBx7.out.size
  have HC8_7 := Lib.hid (HCx7.out.map hg7 HMx7.out)
  have HC8_0 := Lib.hid (HCx7_0.out.map hg7 HMx7.out)
  have HC8_1 := Lib.hid (HCx7_1.out.map hg7 HMx7.out)
  have HC8_2 := Lib.hid (HCx7_2.out.map hg7 HMx7.out)
  have HC8_3 := Lib.hid (HCx7_3.out.map hg7 HMx7.out)
  have HC8_4 := Lib.hid (HCx7_4.out.map hg7 HMx7.out)
  have HC8_5 := Lib.hid (HCx7_5.out.map hg7 HMx7.out)
  have HC8_6 := Lib.hid (HCx7_6.out.map hg7 HMx7.out)
  clear hm7 hg7
  go_wp2_with (fail)
  go_ret
  exact ⟨_, _, _, _, _, _, _, _, _, rfl, ⟨HM8.out, HC8_0.out, HC8_1.out, HC8_2.out, HC8_3.out, HC8_4.out, HC8_5.out, HC8_6.out, HC8_7.out⟩, HB8.out⟩
end Go.Proofs.YtchebhdndkaheaaGreatDoor

/- The document's own Plus and Minus; what Equal, Less, Plus, Minus come to, whatever the two are. -/
namespace Go.Proofs.YtchebhdndkaheaaGreatDoor
open Go.RowKit Go.Lib

end Go.Proofs.YtchebhdndkaheaaGreatDoor

/- What each Op does with the values of its parts. -/
namespace Go.Proofs.YtchebhdndkaheaaGreatDoor
open Go.RowKit Go.Lib

def nulV : Vl := ⟨0, 0, ⟨#[]⟩⟩
def triV (m : Int) : Vl := ⟨triK m, triI m, ⟨#[]⟩⟩
def notV (x : Vl) : Vl := triV (2 - saysN x.k x.i x.s)
def isnV (x : Vl) : Vl := ⟨3, b2i (hK x.k x.i x.s == 0), ⟨#[]⟩⟩
def andV (x y : Vl) : Vl := triV (minN (saysN x.k x.i x.s) (saysN y.k y.i y.s))
def orV (x y : Vl) : Vl := triV (maxN (saysN x.k x.i x.s) (saysN y.k y.i y.s))
def eqV (x y : Vl) : Vl := if alikeB x.k x.i x.s y.k y.i y.s = true then ⟨3, b2i (ordN x.k x.i x.s y.k y.i y.s == 0), ⟨#[]⟩⟩ else nulV
def lessV (x y : Vl) : Vl := if alikeB x.k x.i x.s y.k y.i y.s = true then ⟨3, b2i (decide (ordN x.k x.i x.s y.k y.i y.s < 0)), ⟨#[]⟩⟩ else nulV
def plusV (x y : Vl) : Vl := if numsB x.k x.i x.s y.k y.i y.s = true then (if badPlus x.i y.i = true then nulV else ⟨1, wrap64 (x.i + y.i), ⟨#[]⟩⟩) else nulV
def minusV (x y : Vl) : Vl := if numsB x.k x.i x.s y.k y.i y.s = true then (if badMinus x.i y.i = true then nulV else ⟨1, wrap64 (x.i - y.i), ⟨#[]⟩⟩) else nulV

theorem vnot (x : Vl) (w : World) :
    Calls Tryz.prog 46 #[.agg #[.int .i64 x.k, .int .i64 x.i, .string x.s]] w fun e w' => e = .returned (.agg #[.int .i64 (notV x).k, .int .i64 (notV x).i, .string (notV x).s]) ∧ Below w.heap.size w w' := by
  exact not_any _ _ _ _
theorem visn (x : Vl) (w : World) :
    Calls Tryz.prog 47 #[.agg #[.int .i64 x.k, .int .i64 x.i, .string x.s]] w fun e w' => e = .returned (.agg #[.int .i64 (isnV x).k, .int .i64 (isnV x).i, .string (isnV x).s]) ∧ Below w.heap.size w w' := by
  exact isNull_any _ _ _ _
theorem vand (x y : Vl) (w : World) :
    Calls Tryz.prog 49 #[.agg #[.int .i64 x.k, .int .i64 x.i, .string x.s], .agg #[.int .i64 y.k, .int .i64 y.i, .string y.s]] w fun e w' => e = .returned (.agg #[.int .i64 (andV x y).k, .int .i64 (andV x y).i, .string (andV x y).s]) ∧ Below w.heap.size w w' := by
  exact and_any _ _ _ _ _ _ _
theorem vor (x y : Vl) (w : World) :
    Calls Tryz.prog 50 #[.agg #[.int .i64 x.k, .int .i64 x.i, .string x.s], .agg #[.int .i64 y.k, .int .i64 y.i, .string y.s]] w fun e w' => e = .returned (.agg #[.int .i64 (orV x y).k, .int .i64 (orV x y).i, .string (orV x y).s]) ∧ Below w.heap.size w w' := by
  exact or_any _ _ _ _ _ _ _
theorem veq (x y : Vl) (w : World) :
    Calls Tryz.prog 51 #[.agg #[.int .i64 x.k, .int .i64 x.i, .string x.s], .agg #[.int .i64 y.k, .int .i64 y.i, .string y.s]] w fun e w' => e = .returned (.agg #[.int .i64 (eqV x y).k, .int .i64 (eqV x y).i, .string (eqV x y).s]) ∧ Below w.heap.size w w' := by
  unfold eqV
  cases h : alikeB x.k x.i x.s y.k y.i y.s with
  | true => rw [if_pos rfl]; exact equal_yes _ _ _ _ _ _ _ h
  | false => rw [if_neg (by decide)]; exact equal_no _ _ _ _ _ _ _ h
theorem vless (x y : Vl) (w : World) :
    Calls Tryz.prog 52 #[.agg #[.int .i64 x.k, .int .i64 x.i, .string x.s], .agg #[.int .i64 y.k, .int .i64 y.i, .string y.s]] w fun e w' => e = .returned (.agg #[.int .i64 (lessV x y).k, .int .i64 (lessV x y).i, .string (lessV x y).s]) ∧ Below w.heap.size w w' := by
  unfold lessV
  cases h : alikeB x.k x.i x.s y.k y.i y.s with
  | true => rw [if_pos rfl]; exact less_yes _ _ _ _ _ _ _ h
  | false => rw [if_neg (by decide)]; exact less_no _ _ _ _ _ _ _ h
theorem vplus (x y : Vl) (w : World) :
    Calls Tryz.prog 53 #[.agg #[.int .i64 x.k, .int .i64 x.i, .string x.s], .agg #[.int .i64 y.k, .int .i64 y.i, .string y.s]] w fun e w' => e = .returned (.agg #[.int .i64 (plusV x y).k, .int .i64 (plusV x y).i, .string (plusV x y).s]) ∧ Below w.heap.size w w' := by
  unfold plusV
  cases h : numsB x.k x.i x.s y.k y.i y.s with
  | true =>
    rw [if_pos rfl]
    cases hb : badPlus x.i y.i with
    | true => rw [if_pos rfl]; exact plus_bad _ _ _ _ _ _ _ h hb
    | false => rw [if_neg (by decide)]; exact plus_yes _ _ _ _ _ _ _ h hb
  | false => rw [if_neg (by decide)]; exact plus_no _ _ _ _ _ _ _ h
theorem vminus (x y : Vl) (w : World) :
    Calls Tryz.prog 54 #[.agg #[.int .i64 x.k, .int .i64 x.i, .string x.s], .agg #[.int .i64 y.k, .int .i64 y.i, .string y.s]] w fun e w' => e = .returned (.agg #[.int .i64 (minusV x y).k, .int .i64 (minusV x y).i, .string (minusV x y).s]) ∧ Below w.heap.size w w' := by
  unfold minusV
  cases h : numsB x.k x.i x.s y.k y.i y.s with
  | true =>
    rw [if_pos rfl]
    cases hb : badMinus x.i y.i with
    | true => rw [if_pos rfl]; exact minus_bad _ _ _ _ _ _ _ h hb
    | false => rw [if_neg (by decide)]; exact minus_yes _ _ _ _ _ _ _ h hb
  | false => rw [if_neg (by decide)]; exact minus_no _ _ _ _ _ _ _ h

set_option maxRecDepth 100000 in
set_option maxHeartbeats 1600000 in
theorem does_0 (g n c : Nat) (x : Vl) (b : Nat) (w : World) (hn : 1 ≤ n) (hb : w.cell? ⟨b, 0, none⟩ = some (.func (.func 46) #[] #[])) (h0 : w.cell? ⟨g, 0, none⟩ = some (.int .i64 x.k)) (h1 : w.cell? ⟨g, 1, none⟩ = some (.int .i64 x.i)) (h2 : w.cell? ⟨g, 2, none⟩ = some (.string x.s)) :
    Calls Tryz.prog 70 #[.slice (some ⟨g, 0, none⟩) n c, .pointer (some ⟨b, 0, none⟩)] w fun e w' => e = .returned (.agg #[.int .i64 (notV x).k, .int .i64 (notV x).i, .string (notV x).s]) ∧ Below w.heap.size w w' := by
  have d0 : 0 < n := by omega
  have hgl := World.block_lt_of_cell? w _ h0
  have hbl := World.block_lt_of_cell? w _ hb
  have HV : Hid (∀ w, Calls Tryz.prog 46 #[.agg #[.int .i64 x.k, .int .i64 x.i, .string x.s]] w fun e w' => e = .returned (.agg #[.int .i64 (notV x).k, .int .i64 (notV x).i, .string (notV x).s]) ∧ Below w.heap.size w w') := vnot x
  generalize notV x = R at HV ⊢
  go_enter Tryz.func70, Tryz.ntmps70
  go_wp2
  refine detL_begin [.val (.func (.func 46) #[] #[]), .val (.slice (some ⟨g, 0, none⟩) n c), .val (.pointer (some ⟨g, 0, none⟩)), .val (.agg #[.int .i64 x.k, .int .i64 x.i, .string x.s]), .val (.agg #[.int .i64 R.k, .int .i64 R.i, .string R.s])] 5 (by kernel_rfl) ?_
  repeat
    (refine detL_val (by kernel_rfl) (yields_of rfl fun w1 hb1 => ?_) ?_
     · have hc1 := bcellD hb1
       clear hb1
       go_simp
       with_reducible first
         | exact Det1_same
         | exact Det1_enter (HV.out _)
     simp only [Act.put, List.setIfInBounds_toArray, List.set_cons_zero, List.set_cons_succ])
  refine detL_tail rfl (by kernel_rfl) fun w1 hw1 => ?_
  have hc1 := (bcell hw1.below).1
  have hf1 := (bcell hw1.below).2
  have hz1 : w.heap.size < w1.heap.size := by have := hw1.below.size; simp at this; omega
  go_wp2
  exact bodyPost_ret (v := .agg #[.int .i64 R.k, .int .i64 R.i, .string R.s]) (by simp [results, Tryz.results70, go_sem, hc1, hf1, hz1]) rfl ⟨rfl, bSet3 (((Below.refl _ _).alloc (Nat.le_refl _) _).drew.trans (hw1.below.mono (by simp))) (by omega) _ _ _⟩

set_option maxRecDepth 100000 in
set_option maxHeartbeats 1600000 in
theorem does_1 (g n c : Nat) (x : Vl) (b : Nat) (w : World) (hn : 1 ≤ n) (hb : w.cell? ⟨b, 0, none⟩ = some (.func (.func 47) #[] #[])) (h0 : w.cell? ⟨g, 0, none⟩ = some (.int .i64 x.k)) (h1 : w.cell? ⟨g, 1, none⟩ = some (.int .i64 x.i)) (h2 : w.cell? ⟨g, 2, none⟩ = some (.string x.s)) :
    Calls Tryz.prog 70 #[.slice (some ⟨g, 0, none⟩) n c, .pointer (some ⟨b, 0, none⟩)] w fun e w' => e = .returned (.agg #[.int .i64 (isnV x).k, .int .i64 (isnV x).i, .string (isnV x).s]) ∧ Below w.heap.size w w' := by
  have d0 : 0 < n := by omega
  have hgl := World.block_lt_of_cell? w _ h0
  have hbl := World.block_lt_of_cell? w _ hb
  have HV : Hid (∀ w, Calls Tryz.prog 47 #[.agg #[.int .i64 x.k, .int .i64 x.i, .string x.s]] w fun e w' => e = .returned (.agg #[.int .i64 (isnV x).k, .int .i64 (isnV x).i, .string (isnV x).s]) ∧ Below w.heap.size w w') := visn x
  generalize isnV x = R at HV ⊢
  go_enter Tryz.func70, Tryz.ntmps70
  go_wp2
  refine detL_begin [.val (.func (.func 47) #[] #[]), .val (.slice (some ⟨g, 0, none⟩) n c), .val (.pointer (some ⟨g, 0, none⟩)), .val (.agg #[.int .i64 x.k, .int .i64 x.i, .string x.s]), .val (.agg #[.int .i64 R.k, .int .i64 R.i, .string R.s])] 5 (by kernel_rfl) ?_
  repeat
    (refine detL_val (by kernel_rfl) (yields_of rfl fun w1 hb1 => ?_) ?_
     · have hc1 := bcellD hb1
       clear hb1
       go_simp
       with_reducible first
         | exact Det1_same
         | exact Det1_enter (HV.out _)
     simp only [Act.put, List.setIfInBounds_toArray, List.set_cons_zero, List.set_cons_succ])
  refine detL_tail rfl (by kernel_rfl) fun w1 hw1 => ?_
  have hc1 := (bcell hw1.below).1
  have hf1 := (bcell hw1.below).2
  have hz1 : w.heap.size < w1.heap.size := by have := hw1.below.size; simp at this; omega
  go_wp2
  exact bodyPost_ret (v := .agg #[.int .i64 R.k, .int .i64 R.i, .string R.s]) (by simp [results, Tryz.results70, go_sem, hc1, hf1, hz1]) rfl ⟨rfl, bSet3 (((Below.refl _ _).alloc (Nat.le_refl _) _).drew.trans (hw1.below.mono (by simp))) (by omega) _ _ _⟩

set_option maxRecDepth 100000 in
set_option maxHeartbeats 1600000 in
theorem does_2 (g n c : Nat) (x y : Vl) (b : Nat) (w : World) (hn : 2 ≤ n) (hb : w.cell? ⟨b, 0, none⟩ = some (.func (.func 49) #[] #[])) (h0 : w.cell? ⟨g, 0, none⟩ = some (.int .i64 x.k)) (h1 : w.cell? ⟨g, 1, none⟩ = some (.int .i64 x.i)) (h2 : w.cell? ⟨g, 2, none⟩ = some (.string x.s)) (h3 : w.cell? ⟨g, 3, none⟩ = some (.int .i64 y.k)) (h4 : w.cell? ⟨g, 4, none⟩ = some (.int .i64 y.i)) (h5 : w.cell? ⟨g, 5, none⟩ = some (.string y.s)) :
    Calls Tryz.prog 75 #[.slice (some ⟨g, 0, none⟩) n c, .pointer (some ⟨b, 0, none⟩)] w fun e w' => e = .returned (.agg #[.int .i64 (andV x y).k, .int .i64 (andV x y).i, .string (andV x y).s]) ∧ Below w.heap.size w w' := by
  have d0 : 0 < n := by omega
  have d1 : (1 : Int) < (n : Int) := by omega
  have hgl := World.block_lt_of_cell? w _ h0
  have hbl := World.block_lt_of_cell? w _ hb
  have HV : Hid (∀ w, Calls Tryz.prog 49 #[.agg #[.int .i64 x.k, .int .i64 x.i, .string x.s], .agg #[.int .i64 y.k, .int .i64 y.i, .string y.s]] w fun e w' => e = .returned (.agg #[.int .i64 (andV x y).k, .int .i64 (andV x y).i, .string (andV x y).s]) ∧ Below w.heap.size w w') := vand x y
  generalize andV x y = R at HV ⊢
  go_enter Tryz.func75, Tryz.ntmps75
  go_wp2
  refine detL_begin [.val (.func (.func 49) #[] #[]), .val (.slice (some ⟨g, 0, none⟩) n c), .val (.pointer (some ⟨g, 0, none⟩)), .val (.agg #[.int .i64 x.k, .int .i64 x.i, .string x.s]), .val (.slice (some ⟨g, 0, none⟩) n c), .val (.pointer (some ⟨g, 3, none⟩)), .val (.agg #[.int .i64 y.k, .int .i64 y.i, .string y.s]), .val (.agg #[.int .i64 R.k, .int .i64 R.i, .string R.s])] 8 (by kernel_rfl) ?_
  repeat
    (refine detL_val (by kernel_rfl) (yields_of rfl fun w1 hb1 => ?_) ?_
     · have hc1 := bcellD hb1
       clear hb1
       go_simp
       with_reducible first
         | exact Det1_same
         | exact Det1_enter (HV.out _)
     simp only [Act.put, List.setIfInBounds_toArray, List.set_cons_zero, List.set_cons_succ])
  refine detL_tail rfl (by kernel_rfl) fun w1 hw1 => ?_
  have hc1 := (bcell hw1.below).1
  have hf1 := (bcell hw1.below).2
  have hz1 : w.heap.size < w1.heap.size := by have := hw1.below.size; simp at this; omega
  go_wp2
  exact bodyPost_ret (v := .agg #[.int .i64 R.k, .int .i64 R.i, .string R.s]) (by simp [results, Tryz.results75, go_sem, hc1, hf1, hz1]) rfl ⟨rfl, bSet3 (((Below.refl _ _).alloc (Nat.le_refl _) _).drew.trans (hw1.below.mono (by simp))) (by omega) _ _ _⟩

set_option maxRecDepth 100000 in
set_option maxHeartbeats 1600000 in
theorem does_3 (g n c : Nat) (x y : Vl) (b : Nat) (w : World) (hn : 2 ≤ n) (hb : w.cell? ⟨b, 0, none⟩ = some (.func (.func 50) #[] #[])) (h0 : w.cell? ⟨g, 0, none⟩ = some (.int .i64 x.k)) (h1 : w.cell? ⟨g, 1, none⟩ = some (.int .i64 x.i)) (h2 : w.cell? ⟨g, 2, none⟩ = some (.string x.s)) (h3 : w.cell? ⟨g, 3, none⟩ = some (.int .i64 y.k)) (h4 : w.cell? ⟨g, 4, none⟩ = some (.int .i64 y.i)) (h5 : w.cell? ⟨g, 5, none⟩ = some (.string y.s)) :
    Calls Tryz.prog 75 #[.slice (some ⟨g, 0, none⟩) n c, .pointer (some ⟨b, 0, none⟩)] w fun e w' => e = .returned (.agg #[.int .i64 (orV x y).k, .int .i64 (orV x y).i, .string (orV x y).s]) ∧ Below w.heap.size w w' := by
  have d0 : 0 < n := by omega
  have d1 : (1 : Int) < (n : Int) := by omega
  have hgl := World.block_lt_of_cell? w _ h0
  have hbl := World.block_lt_of_cell? w _ hb
  have HV : Hid (∀ w, Calls Tryz.prog 50 #[.agg #[.int .i64 x.k, .int .i64 x.i, .string x.s], .agg #[.int .i64 y.k, .int .i64 y.i, .string y.s]] w fun e w' => e = .returned (.agg #[.int .i64 (orV x y).k, .int .i64 (orV x y).i, .string (orV x y).s]) ∧ Below w.heap.size w w') := vor x y
  generalize orV x y = R at HV ⊢
  go_enter Tryz.func75, Tryz.ntmps75
  go_wp2
  refine detL_begin [.val (.func (.func 50) #[] #[]), .val (.slice (some ⟨g, 0, none⟩) n c), .val (.pointer (some ⟨g, 0, none⟩)), .val (.agg #[.int .i64 x.k, .int .i64 x.i, .string x.s]), .val (.slice (some ⟨g, 0, none⟩) n c), .val (.pointer (some ⟨g, 3, none⟩)), .val (.agg #[.int .i64 y.k, .int .i64 y.i, .string y.s]), .val (.agg #[.int .i64 R.k, .int .i64 R.i, .string R.s])] 8 (by kernel_rfl) ?_
  repeat
    (refine detL_val (by kernel_rfl) (yields_of rfl fun w1 hb1 => ?_) ?_
     · have hc1 := bcellD hb1
       clear hb1
       go_simp
       with_reducible first
         | exact Det1_same
         | exact Det1_enter (HV.out _)
     simp only [Act.put, List.setIfInBounds_toArray, List.set_cons_zero, List.set_cons_succ])
  refine detL_tail rfl (by kernel_rfl) fun w1 hw1 => ?_
  have hc1 := (bcell hw1.below).1
  have hf1 := (bcell hw1.below).2
  have hz1 : w.heap.size < w1.heap.size := by have := hw1.below.size; simp at this; omega
  go_wp2
  exact bodyPost_ret (v := .agg #[.int .i64 R.k, .int .i64 R.i, .string R.s]) (by simp [results, Tryz.results75, go_sem, hc1, hf1, hz1]) rfl ⟨rfl, bSet3 (((Below.refl _ _).alloc (Nat.le_refl _) _).drew.trans (hw1.below.mono (by simp))) (by omega) _ _ _⟩

set_option maxRecDepth 100000 in
set_option maxHeartbeats 1600000 in
theorem does_4 (g n c : Nat) (x y : Vl) (b : Nat) (w : World) (hn : 2 ≤ n) (hb : w.cell? ⟨b, 0, none⟩ = some (.func (.func 51) #[] #[])) (h0 : w.cell? ⟨g, 0, none⟩ = some (.int .i64 x.k)) (h1 : w.cell? ⟨g, 1, none⟩ = some (.int .i64 x.i)) (h2 : w.cell? ⟨g, 2, none⟩ = some (.string x.s)) (h3 : w.cell? ⟨g, 3, none⟩ = some (.int .i64 y.k)) (h4 : w.cell? ⟨g, 4, none⟩ = some (.int .i64 y.i)) (h5 : w.cell? ⟨g, 5, none⟩ = some (.string y.s)) :
    Calls Tryz.prog 75 #[.slice (some ⟨g, 0, none⟩) n c, .pointer (some ⟨b, 0, none⟩)] w fun e w' => e = .returned (.agg #[.int .i64 (eqV x y).k, .int .i64 (eqV x y).i, .string (eqV x y).s]) ∧ Below w.heap.size w w' := by
  have d0 : 0 < n := by omega
  have d1 : (1 : Int) < (n : Int) := by omega
  have hgl := World.block_lt_of_cell? w _ h0
  have hbl := World.block_lt_of_cell? w _ hb
  have HV : Hid (∀ w, Calls Tryz.prog 51 #[.agg #[.int .i64 x.k, .int .i64 x.i, .string x.s], .agg #[.int .i64 y.k, .int .i64 y.i, .string y.s]] w fun e w' => e = .returned (.agg #[.int .i64 (eqV x y).k, .int .i64 (eqV x y).i, .string (eqV x y).s]) ∧ Below w.heap.size w w') := veq x y
  generalize eqV x y = R at HV ⊢
  go_enter Tryz.func75, Tryz.ntmps75
  go_wp2
  refine detL_begin [.val (.func (.func 51) #[] #[]), .val (.slice (some ⟨g, 0, none⟩) n c), .val (.pointer (some ⟨g, 0, none⟩)), .val (.agg #[.int .i64 x.k, .int .i64 x.i, .string x.s]), .val (.slice (some ⟨g, 0, none⟩) n c), .val (.pointer (some ⟨g, 3, none⟩)), .val (.agg #[.int .i64 y.k, .int .i64 y.i, .string y.s]), .val (.agg #[.int .i64 R.k, .int .i64 R.i, .string R.s])] 8 (by kernel_rfl) ?_
  repeat
    (refine detL_val (by kernel_rfl) (yields_of rfl fun w1 hb1 => ?_) ?_
     · have hc1 := bcellD hb1
       clear hb1
       go_simp
       with_reducible first
         | exact Det1_same
         | exact Det1_enter (HV.out _)
     simp only [Act.put, List.setIfInBounds_toArray, List.set_cons_zero, List.set_cons_succ])
  refine detL_tail rfl (by kernel_rfl) fun w1 hw1 => ?_
  have hc1 := (bcell hw1.below).1
  have hf1 := (bcell hw1.below).2
  have hz1 : w.heap.size < w1.heap.size := by have := hw1.below.size; simp at this; omega
  go_wp2
  exact bodyPost_ret (v := .agg #[.int .i64 R.k, .int .i64 R.i, .string R.s]) (by simp [results, Tryz.results75, go_sem, hc1, hf1, hz1]) rfl ⟨rfl, bSet3 (((Below.refl _ _).alloc (Nat.le_refl _) _).drew.trans (hw1.below.mono (by simp))) (by omega) _ _ _⟩

set_option maxRecDepth 100000 in
set_option maxHeartbeats 1600000 in
theorem does_5 (g n c : Nat) (x y : Vl) (b : Nat) (w : World) (hn : 2 ≤ n) (hb : w.cell? ⟨b, 0, none⟩ = some (.func (.func 52) #[] #[])) (h0 : w.cell? ⟨g, 0, none⟩ = some (.int .i64 x.k)) (h1 : w.cell? ⟨g, 1, none⟩ = some (.int .i64 x.i)) (h2 : w.cell? ⟨g, 2, none⟩ = some (.string x.s)) (h3 : w.cell? ⟨g, 3, none⟩ = some (.int .i64 y.k)) (h4 : w.cell? ⟨g, 4, none⟩ = some (.int .i64 y.i)) (h5 : w.cell? ⟨g, 5, none⟩ = some (.string y.s)) :
    Calls Tryz.prog 75 #[.slice (some ⟨g, 0, none⟩) n c, .pointer (some ⟨b, 0, none⟩)] w fun e w' => e = .returned (.agg #[.int .i64 (lessV x y).k, .int .i64 (lessV x y).i, .string (lessV x y).s]) ∧ Below w.heap.size w w' := by
  have d0 : 0 < n := by omega
  have d1 : (1 : Int) < (n : Int) := by omega
  have hgl := World.block_lt_of_cell? w _ h0
  have hbl := World.block_lt_of_cell? w _ hb
  have HV : Hid (∀ w, Calls Tryz.prog 52 #[.agg #[.int .i64 x.k, .int .i64 x.i, .string x.s], .agg #[.int .i64 y.k, .int .i64 y.i, .string y.s]] w fun e w' => e = .returned (.agg #[.int .i64 (lessV x y).k, .int .i64 (lessV x y).i, .string (lessV x y).s]) ∧ Below w.heap.size w w') := vless x y
  generalize lessV x y = R at HV ⊢
  go_enter Tryz.func75, Tryz.ntmps75
  go_wp2
  refine detL_begin [.val (.func (.func 52) #[] #[]), .val (.slice (some ⟨g, 0, none⟩) n c), .val (.pointer (some ⟨g, 0, none⟩)), .val (.agg #[.int .i64 x.k, .int .i64 x.i, .string x.s]), .val (.slice (some ⟨g, 0, none⟩) n c), .val (.pointer (some ⟨g, 3, none⟩)), .val (.agg #[.int .i64 y.k, .int .i64 y.i, .string y.s]), .val (.agg #[.int .i64 R.k, .int .i64 R.i, .string R.s])] 8 (by kernel_rfl) ?_
  repeat
    (refine detL_val (by kernel_rfl) (yields_of rfl fun w1 hb1 => ?_) ?_
     · have hc1 := bcellD hb1
       clear hb1
       go_simp
       with_reducible first
         | exact Det1_same
         | exact Det1_enter (HV.out _)
     simp only [Act.put, List.setIfInBounds_toArray, List.set_cons_zero, List.set_cons_succ])
  refine detL_tail rfl (by kernel_rfl) fun w1 hw1 => ?_
  have hc1 := (bcell hw1.below).1
  have hf1 := (bcell hw1.below).2
  have hz1 : w.heap.size < w1.heap.size := by have := hw1.below.size; simp at this; omega
  go_wp2
  exact bodyPost_ret (v := .agg #[.int .i64 R.k, .int .i64 R.i, .string R.s]) (by simp [results, Tryz.results75, go_sem, hc1, hf1, hz1]) rfl ⟨rfl, bSet3 (((Below.refl _ _).alloc (Nat.le_refl _) _).drew.trans (hw1.below.mono (by simp))) (by omega) _ _ _⟩

set_option maxRecDepth 100000 in
set_option maxHeartbeats 1600000 in
theorem does_6 (g n c : Nat) (x y : Vl) (b : Nat) (w : World) (hn : 2 ≤ n) (hb : w.cell? ⟨b, 0, none⟩ = some (.func (.func 53) #[] #[])) (h0 : w.cell? ⟨g, 0, none⟩ = some (.int .i64 x.k)) (h1 : w.cell? ⟨g, 1, none⟩ = some (.int .i64 x.i)) (h2 : w.cell? ⟨g, 2, none⟩ = some (.string x.s)) (h3 : w.cell? ⟨g, 3, none⟩ = some (.int .i64 y.k)) (h4 : w.cell? ⟨g, 4, none⟩ = some (.int .i64 y.i)) (h5 : w.cell? ⟨g, 5, none⟩ = some (.string y.s)) :
    Calls Tryz.prog 75 #[.slice (some ⟨g, 0, none⟩) n c, .pointer (some ⟨b, 0, none⟩)] w fun e w' => e = .returned (.agg #[.int .i64 (plusV x y).k, .int .i64 (plusV x y).i, .string (plusV x y).s]) ∧ Below w.heap.size w w' := by
  have d0 : 0 < n := by omega
  have d1 : (1 : Int) < (n : Int) := by omega
  have hgl := World.block_lt_of_cell? w _ h0
  have hbl := World.block_lt_of_cell? w _ hb
  have HV : Hid (∀ w, Calls Tryz.prog 53 #[.agg #[.int .i64 x.k, .int .i64 x.i, .string x.s], .agg #[.int .i64 y.k, .int .i64 y.i, .string y.s]] w fun e w' => e = .returned (.agg #[.int .i64 (plusV x y).k, .int .i64 (plusV x y).i, .string (plusV x y).s]) ∧ Below w.heap.size w w') := vplus x y
  generalize plusV x y = R at HV ⊢
  go_enter Tryz.func75, Tryz.ntmps75
  go_wp2
  refine detL_begin [.val (.func (.func 53) #[] #[]), .val (.slice (some ⟨g, 0, none⟩) n c), .val (.pointer (some ⟨g, 0, none⟩)), .val (.agg #[.int .i64 x.k, .int .i64 x.i, .string x.s]), .val (.slice (some ⟨g, 0, none⟩) n c), .val (.pointer (some ⟨g, 3, none⟩)), .val (.agg #[.int .i64 y.k, .int .i64 y.i, .string y.s]), .val (.agg #[.int .i64 R.k, .int .i64 R.i, .string R.s])] 8 (by kernel_rfl) ?_
  repeat
    (refine detL_val (by kernel_rfl) (yields_of rfl fun w1 hb1 => ?_) ?_
     · have hc1 := bcellD hb1
       clear hb1
       go_simp
       with_reducible first
         | exact Det1_same
         | exact Det1_enter (HV.out _)
     simp only [Act.put, List.setIfInBounds_toArray, List.set_cons_zero, List.set_cons_succ])
  refine detL_tail rfl (by kernel_rfl) fun w1 hw1 => ?_
  have hc1 := (bcell hw1.below).1
  have hf1 := (bcell hw1.below).2
  have hz1 : w.heap.size < w1.heap.size := by have := hw1.below.size; simp at this; omega
  go_wp2
  exact bodyPost_ret (v := .agg #[.int .i64 R.k, .int .i64 R.i, .string R.s]) (by simp [results, Tryz.results75, go_sem, hc1, hf1, hz1]) rfl ⟨rfl, bSet3 (((Below.refl _ _).alloc (Nat.le_refl _) _).drew.trans (hw1.below.mono (by simp))) (by omega) _ _ _⟩

set_option maxRecDepth 100000 in
set_option maxHeartbeats 1600000 in
theorem does_7 (g n c : Nat) (x y : Vl) (b : Nat) (w : World) (hn : 2 ≤ n) (hb : w.cell? ⟨b, 0, none⟩ = some (.func (.func 54) #[] #[])) (h0 : w.cell? ⟨g, 0, none⟩ = some (.int .i64 x.k)) (h1 : w.cell? ⟨g, 1, none⟩ = some (.int .i64 x.i)) (h2 : w.cell? ⟨g, 2, none⟩ = some (.string x.s)) (h3 : w.cell? ⟨g, 3, none⟩ = some (.int .i64 y.k)) (h4 : w.cell? ⟨g, 4, none⟩ = some (.int .i64 y.i)) (h5 : w.cell? ⟨g, 5, none⟩ = some (.string y.s)) :
    Calls Tryz.prog 75 #[.slice (some ⟨g, 0, none⟩) n c, .pointer (some ⟨b, 0, none⟩)] w fun e w' => e = .returned (.agg #[.int .i64 (minusV x y).k, .int .i64 (minusV x y).i, .string (minusV x y).s]) ∧ Below w.heap.size w w' := by
  have d0 : 0 < n := by omega
  have d1 : (1 : Int) < (n : Int) := by omega
  have hgl := World.block_lt_of_cell? w _ h0
  have hbl := World.block_lt_of_cell? w _ hb
  have HV : Hid (∀ w, Calls Tryz.prog 54 #[.agg #[.int .i64 x.k, .int .i64 x.i, .string x.s], .agg #[.int .i64 y.k, .int .i64 y.i, .string y.s]] w fun e w' => e = .returned (.agg #[.int .i64 (minusV x y).k, .int .i64 (minusV x y).i, .string (minusV x y).s]) ∧ Below w.heap.size w w') := vminus x y
  generalize minusV x y = R at HV ⊢
  go_enter Tryz.func75, Tryz.ntmps75
  go_wp2
  refine detL_begin [.val (.func (.func 54) #[] #[]), .val (.slice (some ⟨g, 0, none⟩) n c), .val (.pointer (some ⟨g, 0, none⟩)), .val (.agg #[.int .i64 x.k, .int .i64 x.i, .string x.s]), .val (.slice (some ⟨g, 0, none⟩) n c), .val (.pointer (some ⟨g, 3, none⟩)), .val (.agg #[.int .i64 y.k, .int .i64 y.i, .string y.s]), .val (.agg #[.int .i64 R.k, .int .i64 R.i, .string R.s])] 8 (by kernel_rfl) ?_
  repeat
    (refine detL_val (by kernel_rfl) (yields_of rfl fun w1 hb1 => ?_) ?_
     · have hc1 := bcellD hb1
       clear hb1
       go_simp
       with_reducible first
         | exact Det1_same
         | exact Det1_enter (HV.out _)
     simp only [Act.put, List.setIfInBounds_toArray, List.set_cons_zero, List.set_cons_succ])
  refine detL_tail rfl (by kernel_rfl) fun w1 hw1 => ?_
  have hc1 := (bcell hw1.below).1
  have hf1 := (bcell hw1.below).2
  have hz1 : w.heap.size < w1.heap.size := by have := hw1.below.size; simp at this; omega
  go_wp2
  exact bodyPost_ret (v := .agg #[.int .i64 R.k, .int .i64 R.i, .string R.s]) (by simp [results, Tryz.results75, go_sem, hc1, hf1, hz1]) rfl ⟨rfl, bSet3 (((Below.refl _ _).alloc (Nat.le_refl _) _).drew.trans (hw1.below.mono (by simp))) (by omega) _ _ _⟩
end Go.Proofs.YtchebhdndkaheaaGreatDoor

/- Columns: where a name's first one is; its value in a row. -/
namespace Go.Proofs.YtchebhdndkaheaaGreatDoor
open Go.RowKit Go.Lib

structure Cl where
  n : ByteArray
  t : Int
  b : Bool
structure ClAt (W : World) (a : Addr) (c : Cl) : Prop where
  c0 : W.cell? a = some (.string c.n)
  c1 : W.cell? ⟨a.block, a.off + 1, none⟩ = some (.int .i64 c.t)
  c2 : W.cell? ⟨a.block, a.off + 2, none⟩ = some (.bool c.b)
theorem ClAt.lt {W : World} {a : Addr} {c : Cl} (h : ClAt W a c) : a.block < W.heap.size := World.block_lt_of_cell? W _ h.c0
theorem ClAt.keep {W W' : World} {a : Addr} {c : Cl} (h : ClAt W a c) (hb : W'.heap[a.block]? = W.heap[a.block]?) : ClAt W' a c :=
  ⟨(World.cell?_of_block (w := W) (a := a) hb).trans h.c0, (World.cell?_of_block (w := W) (a := ⟨a.block, _, none⟩) hb).trans h.c1, (World.cell?_of_block (w := W) (a := ⟨a.block, _, none⟩) hb).trans h.c2⟩
/-- A slice reads as these columns. -/
def ColS (W : World) (A : Option Addr) (n : Nat) (l : List Cl) : Prop := l.length = n ∧ n ≤ maxLen ∧ ∀ j (h : j < l.length), ∃ a, A = some a ∧ ClAt W (a.add (j * 3)) l[j]
theorem ColS.below {W W' : World} {A : Option Addr} {n : Nat} {l : List Cl} (h : ColS W A n l) (hb : Below W.heap.size W W') : ColS W' A n l :=
  ⟨h.1, h.2.1, fun j hj => by obtain ⟨a, e, hc⟩ := h.2.2 j hj; exact ⟨a, e, hc.keep (hb.block _ hc.lt)⟩⟩

/-- The place of the first column of a name; -1: there is none. -/
def plF (nm : ByteArray) : List Cl → Int → Int
  | [], _ => -1
  | c :: r, k => if (c.n.toList == nm.toList) = true then k else plF nm r (k + 1)
theorem plF_t {nm : ByteArray} {l : List Cl} {j : Nat} (hj : j < l.length) (h : (l[j].n.toList == nm.toList) = true) : plF nm (l.drop j) j = j := by
  rw [List.drop_eq_getElem_cons hj]
  unfold plF
  rw [if_pos h]
theorem plF_f {nm : ByteArray} {l : List Cl} {j : Nat} (hj : j < l.length) (h : (l[j].n.toList == nm.toList) = false) : plF nm (l.drop j) j = plF nm (l.drop (j + 1)) ((j + 1 : Nat) : Int) := by
  rw [List.drop_eq_getElem_cons hj]
  conv => lhs; unfold plF
  rw [if_neg (by rw [h]; decide)]
  rfl
theorem plF_bd {nm : ByteArray} : ∀ (l : List Cl) (k : Int), 0 ≤ k → plF nm l k = -1 ∨ (0 ≤ plF nm l k ∧ plF nm l k < k + l.length)
  | [], k, _ => .inl rfl
  | c :: r, k, h => by
    unfold plF
    split
    · right; simp; omega
    · rcases plF_bd (nm := nm) r (k + 1) (by omega) with h1 | ⟨h1, h2⟩
      · exact .inl h1
      · right; simp only [List.length_cons]; omega

set_option maxRecDepth 100000 in
set_option maxHeartbeats 1600000 in
theorem pred_any (c : Cl) (nm : ByteArray) (b : Nat) (w : World) (hb : w.cell? ⟨b, 0, none⟩ = some (.string nm)) :
    Calls Tryz.prog 93 #[.agg #[.string c.n, .int .i64 c.t, .bool c.b], .pointer (some ⟨b, 0, none⟩)] w fun e w' => e = .returned (.bool (c.n.toList == nm.toList)) ∧ Below w.heap.size w w' := by
  have hbl := World.block_lt_of_cell? w _ hb
  go_enter Tryz.func93, Tryz.ntmps93
  go_wp2_with (fail)
  go_ret
  exact ⟨rfl, (Below.refl _ _).alloc (Nat.le_refl _) _⟩

set_option maxRecDepth 100000 in
set_option maxHeartbeats 4000000 in
theorem index_any (A : Option Addr) (n cap : Nat) (l : List Cl) (nm : ByteArray) (b : Nat) (w : World) (hc : ColS w A n l) (hb : w.cell? ⟨b, 0, none⟩ = some (.string nm)) :
    Calls Tryz.prog 56 #[.slice A n cap, .func (.func 93) #[] #[.pointer (some ⟨b, 0, none⟩)]] w fun e w' => e = .returned (.int .i64 (plF nm l 0)) ∧ Below w.heap.size w w' := by
  have HC := Lib.hid hc
  have hn := hc.2.1
  have HL := Lib.hid hc.1
  have HB := Lib.hid hb
  have hbl := World.block_lt_of_cell? w _ hb
  unfold maxLen at hn
  clear hc hb
  go_enter Tryz.func56, Tryz.ntmps56
  go_wp2_with (fail)
  go_loopw [8] (fun i wr => ∃ j : Nat, i = .int .i64 j ∧ j ≤ n ∧ Below w.heap.size w wr ∧ Hid (plF nm l 0 = plF nm (l.drop j) j)) (fun i _ => n - (intOf i).toNat)
  case atStart => exact ⟨0, rfl, by omega, Below.refl _ _, rfl⟩
  case round =>
    obtain ⟨j, rfl, hj, hbw, HP⟩ := hrel
    by_cases hlt : j < n
    · have hjl : j < l.length := by rw [HL.out]; exact hlt
      obtain ⟨a, rfl, hE⟩ := HC.out.2.2 j hjl
      have hE' := hE.keep (hbw.block _ hE.lt)
      have c0 := hE'.c0
      have c1 := hE'.c1
      have c2 := hE'.c2
      have hbs := hbw.size
      have cb : Hid (wr.cell? ⟨b, 0, none⟩ = some (.string nm)) := (hbw.cell (p := ⟨b, 0, none⟩) hbl).trans HB.out
      have HT := Lib.hid (plF_t (nm := nm) hjl)
      have HF := Lib.hid (plF_f (nm := nm) hjl)
      clear hE hE'
      generalize l[j] = y at c0 c1 c2 HT HF
      cases hy : (y.n.toList == nm.toList) with
      | true =>
        have HY := Lib.hid hy
        clear hy
        go_wp2_with (go_at_call 93; refine (pred_any y nm b _ cb.out).mono ?_; rintro e w2 ⟨rfl, hb2⟩; rw [HY.out]; have HB2 := Lib.hid hb2; clear hb2)
        go_ret
        rw [HP.out, HT.out HY.out]
        exact ⟨rfl, hbw.trans (HB2.out.mono hbs)⟩
      | false =>
        have HY := Lib.hid hy
        clear hy
        go_wp2_with (go_at_call 93; refine (pred_any y nm b _ cb.out).mono ?_; rintro e w2 ⟨rfl, hb2⟩; rw [HY.out]; have HB2 := Lib.hid hb2; clear hb2)
        go_roundw
        case rel => exact ⟨j + 1, by go_num, by omega, hbw.trans (HB2.out.mono hbs), HP.out.trans (HF.out HY.out)⟩
        case measure => simp [intOf]; omega
    · obtain rfl : j = n := by omega
      go_wp2_with (fail)
      go_ret
      rw [HP.out, List.drop_eq_nil_of_le (by rw [HL.out]; exact Nat.le_refl _)]
      exact ⟨rfl, hbw⟩

set_option maxRecDepth 100000 in
set_option maxHeartbeats 1600000 in
theorem place_any (A : Option Addr) (n cap : Nat) (l : List Cl) (nm : ByteArray) (w : World) (hc : ColS w A n l) :
    Calls Tryz.prog 79 #[.slice A n cap, .string nm] w fun e w' => e = .returned (.int .i64 (plF nm l 0)) ∧ Below w.heap.size w w' := by
  have HC := Lib.hid hc
  clear hc
  go_enter Tryz.func79, Tryz.ntmps79
  go_wp2_with (go_at_call 56; refine (index_any A n cap l nm _ _ (HC.out.below ((Below.refl _ _).alloc (Nat.le_refl _) _)) (by simp [go_sem])).mono ?_; rintro e w1 ⟨rfl, hb1⟩)
  go_ret
  exact ⟨rfl, ((Below.refl _ _).alloc (Nat.le_refl _) _).trans (hb1.mono (by simp))⟩

/-- The value of a name's column. -/
def colV (cols : List Cl) (row : List Vl) (nm : ByteArray) : Vl := if 0 ≤ plF nm cols 0 then (row[(plF nm cols 0).toNat]?).getD nulV else nulV

set_option maxRecDepth 100000 in
set_option maxHeartbeats 2000000 in
theorem column_no (A : Option Addr) (n c : Nat) (l : List Cl) (A' : Option Addr) (m c' : Nat) (row : List Vl) (r : Nat) (nm : ByteArray) (w : World) (hc : ColS w A n l) (hv : Vals w w.heap.size A' m row) (hm : m ≤ maxLen) (hi : plF nm l 0 < 0) :
    Calls Tryz.prog 55 #[.agg #[.slice A n c, .slice A' m c', .map (some r)], .string nm] w fun e w' => e = .returned (.agg #[.int .i64 nulV.k, .int .i64 nulV.i, .string nulV.s]) ∧ Below w.heap.size w w' := by
  have HC := Lib.hid hc
  have HV := Lib.hid hv
  clear hc hv
  unfold maxLen at hm
  obtain ⟨i, HI⟩ : ∃ i, Hid (plF nm l 0 = i) := ⟨_, Lib.hid rfl⟩
  rw [HI.out] at hi
  have d1 : decide (i < 0) = true := decide_eq_true hi
  go_enter Tryz.func55, Tryz.ntmps55
  go_wp2_with (go_at_call 79; refine (place_any A n c l nm _ ((HC.out.below ((Below.refl _ _).alloc (Nat.le_refl _) _)).below ((Below.refl _ _).alloc (Nat.le_refl _) _))).mono ?_; rintro e w1 ⟨rfl, hb1⟩; rw [HI.out]; have hc1 := (bcell hb1).1; have hf1 := (bcell hb1).2; have hy1 := hb1.size; (try simp at hy1); have hz1_0 : w.heap.size < w1.heap.size := (by omega); have hz1_1 : w.heap.size + 1 < w1.heap.size := (by omega))
  refine bodyPost_ret (v := .agg #[.int .i64 0, .int .i64 0, .string ⟨#[]⟩]) (by simp [results, Tryz.results55, go_sem, *]; done) rfl ⟨rfl, ?_⟩
  repeat (first | (with_reducible exact Below.refl _ _) | ((with_reducible refine cSet3 ?_ ?_ _ _ _); (· ((try simp) <;> omega))) | (with_reducible refine Below.drew ?_) | ((with_reducible refine cAlloc ?_ ?_ _); (· ((try simp) <;> omega))) | ((with_reducible refine cOn (by assumption) ?_ ?_); (· ((try simp) <;> omega))))

set_option maxRecDepth 100000 in
set_option maxHeartbeats 2000000 in
theorem column_past (A : Option Addr) (n c : Nat) (l : List Cl) (A' : Option Addr) (m c' : Nat) (row : List Vl) (r : Nat) (nm : ByteArray) (w : World) (hc : ColS w A n l) (hv : Vals w w.heap.size A' m row) (hm : m ≤ maxLen) (i : Nat) (hi : plF nm l 0 = i) (him : m ≤ i) (hib : i < 9223372036854775807) :
    Calls Tryz.prog 55 #[.agg #[.slice A n c, .slice A' m c', .map (some r)], .string nm] w fun e w' => e = .returned (.agg #[.int .i64 nulV.k, .int .i64 nulV.i, .string nulV.s]) ∧ Below w.heap.size w w' := by
  have HC := Lib.hid hc
  have HV := Lib.hid hv
  clear hc hv
  unfold maxLen at hm
  have HI := Lib.hid hi
  clear hi
  have d1 : decide ((i : Int) < 0) = false := decide_eq_false (by omega)
  have d2 : decide ((m : Int) ≤ (i : Int)) = true := decide_eq_true (by omega)
  have d3 : decide (m ≤ i) = true := decide_eq_true (by omega)
  go_enter Tryz.func55, Tryz.ntmps55
  go_wp2_with (go_at_call 79; refine (place_any A n c l nm _ ((HC.out.below ((Below.refl _ _).alloc (Nat.le_refl _) _)).below ((Below.refl _ _).alloc (Nat.le_refl _) _))).mono ?_; rintro e w1 ⟨rfl, hb1⟩; rw [HI.out]; have hc1 := (bcell hb1).1; have hf1 := (bcell hb1).2; have hy1 := hb1.size; (try simp at hy1); have hz1_0 : w.heap.size < w1.heap.size := (by omega); have hz1_1 : w.heap.size + 1 < w1.heap.size := (by omega))
  refine bodyPost_ret (v := .agg #[.int .i64 0, .int .i64 0, .string ⟨#[]⟩]) (by simp [results, Tryz.results55, go_sem, *]; done) rfl ⟨rfl, ?_⟩
  repeat (first | (with_reducible exact Below.refl _ _) | ((with_reducible refine cSet3 ?_ ?_ _ _ _); (· ((try simp) <;> omega))) | (with_reducible refine Below.drew ?_) | ((with_reducible refine cAlloc ?_ ?_ _); (· ((try simp) <;> omega))) | ((with_reducible refine cOn (by assumption) ?_ ?_); (· ((try simp) <;> omega))))

set_option maxRecDepth 100000 in
set_option maxHeartbeats 2000000 in
theorem column_yes (A : Option Addr) (n c : Nat) (l : List Cl) (A' : Option Addr) (m c' : Nat) (row : List Vl) (r : Nat) (nm : ByteArray) (w : World) (hc : ColS w A n l) (hv : Vals w w.heap.size A' m row) (hm : m ≤ maxLen) (i : Nat) (hi : plF nm l 0 = i) (him : i < m) (x : Vl) (hx : row[i]? = some x) :
    Calls Tryz.prog 55 #[.agg #[.slice A n c, .slice A' m c', .map (some r)], .string nm] w fun e w' => e = .returned (.agg #[.int .i64 x.k, .int .i64 x.i, .string x.s]) ∧ Below w.heap.size w w' := by
  have HC := Lib.hid hc
  have HV := Lib.hid hv
  clear hc hv
  unfold maxLen at hm
  have HI := Lib.hid hi
  clear hi
  have d1 : decide ((i : Int) < 0) = false := decide_eq_false (by omega)
  have d2 : decide ((m : Int) ≤ (i : Int)) = false := decide_eq_false (by omega)
  have d3 : decide (m ≤ i) = false := decide_eq_false (by omega)
  obtain ⟨a, y, rfl, hy, hA, hB⟩ := HV.out.at_ him
  obtain rfl : y = x := by rw [hx] at hy; exact (Option.some.inj hy).symm
  have HA : Hid (VlAt w (a.add (i * 3)) y ∧ (a.add (i * 3)).block < w.heap.size) := ⟨hA, by rw [add_block]; exact hB⟩
  clear hA hB hx hy
  go_enter Tryz.func55, Tryz.ntmps55
  go_wp2_with (go_at_call 79; refine (place_any A n c l nm _ ((HC.out.below ((Below.refl _ _).alloc (Nat.le_refl _) _)).below ((Below.refl _ _).alloc (Nat.le_refl _) _))).mono ?_; rintro e w1 ⟨rfl, hb1⟩; rw [HI.out]; have hc1 := (bcell hb1).1; have hf1 := (bcell hb1).2; have hy1 := hb1.size; (try simp at hy1); have hz1_0 : w.heap.size < w1.heap.size := (by omega); have hz1_1 : w.heap.size + 1 < w1.heap.size := (by omega); have HA1 := HA.out.1.keep ((((Below.refl w.heap.size w).alloc (Nat.le_refl _) _).alloc (by simp) _).trans (hb1.mono (by simp; omega))) HA.out.2; have c0 := HA1.k; have c1 := HA1.i; have c2 := HA1.s; clear HA1)
  refine bodyPost_ret (v := .agg #[.int .i64 y.k, .int .i64 y.i, .string y.s]) (by simp [results, Tryz.results55, go_sem, *]; done) rfl ⟨rfl, ?_⟩
  repeat (first | (with_reducible exact Below.refl _ _) | ((with_reducible refine cSet3 ?_ ?_ _ _ _); (· ((try simp) <;> omega))) | (with_reducible refine Below.drew ?_) | ((with_reducible refine cAlloc ?_ ?_ _); (· ((try simp) <;> omega))) | ((with_reducible refine cOn (by assumption) ?_ ?_); (· ((try simp) <;> omega))))

theorem column_any (A : Option Addr) (n c : Nat) (l : List Cl) (A' : Option Addr) (m c' : Nat) (row : List Vl) (r : Nat) (nm : ByteArray) (w : World) (hc : ColS w A n l) (hv : Vals w w.heap.size A' m row) (hm : m ≤ maxLen) :
    Calls Tryz.prog 55 #[.agg #[.slice A n c, .slice A' m c', .map (some r)], .string nm] w fun e w' => e = .returned (.agg #[.int .i64 (colV l row nm).k, .int .i64 (colV l row nm).i, .string (colV l row nm).s]) ∧ Below w.heap.size w w' := by
  rcases plF_bd (nm := nm) l 0 (by omega) with h | ⟨h1, h2⟩
  · have e : colV l row nm = nulV := by unfold colV; rw [h, if_neg (by decide)]
    rw [e]
    exact column_no A n c l A' m c' row r nm w hc hv hm (by omega)
  · obtain ⟨i, hi⟩ := Int.eq_ofNat_of_zero_le h1
    have hln := hc.1
    have hnn := hc.2.1
    unfold maxLen at hnn
    by_cases him : i < m
    · have hil : i < row.length := by rw [hv.1]; exact him
      have e : colV l row nm = row[i] := by unfold colV; rw [if_pos h1, hi]; simp [List.getElem?_eq_getElem hil]
      rw [e]
      exact column_yes A n c l A' m c' row r nm w hc hv hm i hi him _ (List.getElem?_eq_getElem hil)
    · have e : colV l row nm = nulV := by unfold colV; rw [if_pos h1, hi]; simp [List.getElem?_eq_none (show row.length ≤ i by rw [hv.1]; omega)]
      rw [e]
      exact column_past A n c l A' m c' row r nm w hc hv hm i hi (by omega) (by omega)
end Go.Proofs.YtchebhdndkaheaaGreatDoor
