import Derived.Test.YtmhkmliebhbkdaaGreatX06
import Derived.WideMake
import Derived.Test.YtmhkmliebhbkdaaGreatX04

/- The map of functions that an expression's Ops are done by. -/
namespace Go.Proofs.YtmhkmliebhbkdaaGreat
open Go.RowKit Go.Lib

def pairOf (e : MapEntry) : Value × Value := (e.key, e.val)
/-- Block r is a map of these texts. -/
def MapAt (W : World) (r : Nat) (es : List (ByteArray × Value)) : Prop := ∃ (m : Array MapEntry) (c : Nat), W.heap[r]? = some (.map m c) ∧ m.toList.map pairOf = es.map fun y => (.string y.1, y.2)
theorem MapAt.lt {W : World} {r : Nat} {es : List (ByteArray × Value)} (h : MapAt W r es) : r < W.heap.size := by obtain ⟨m, c, h, _⟩ := h; exact (Array.getElem?_eq_some_iff.1 h).1
theorem MapAt.keep {W W' : World} {r : Nat} {es : List (ByteArray × Value)} (h : MapAt W r es) (hb : W'.heap[r]? = W.heap[r]?) : MapAt W' r es := by obtain ⟨m, c, h, k⟩ := h; exact ⟨m, c, hb.trans h, k⟩
theorem MapAt.below {W W' : World} {r : Nat} {es : List (ByteArray × Value)} (h : MapAt W r es) (hb : Below W.heap.size W W') : MapAt W' r es := h.keep (hb.block r h.lt)
theorem MapAt.made (w : World) : MapAt (w.alloc (.map #[] 0)) w.heap.size [] := ⟨#[], 0, by show (w.heap.push _)[w.heap.size]? = _; simp, rfl⟩

theorem find_new {s : ByteArray} : ∀ {l : List MapEntry} {es : List (ByteArray × Value)} (i : Nat), l.map pairOf = es.map (fun y => (.string y.1, y.2)) → (∀ y ∈ es, (s == y.1) = false) → Instr.findNow .string (.string s) l i = some none
  | [], _, _, _, _ => rfl
  | e :: l, [], _, h, _ => by simp at h
  | e :: l, y :: es, i, h, hn => by
    simp only [List.map_cons, List.cons.injEq] at h
    obtain ⟨h1, h2⟩ := h
    have hk : e.key = .string y.1 := congrArg Prod.fst h1
    have hs : (s == y.1) = false := hn y List.mem_cons_self
    show (match Instr.sameNow .string (.string s) e.key with | some true => _ | some false => _ | none => _) = _
    rw [hk]
    simp only [Instr.sameNow, hs]
    exact find_new (i + 1) h2 fun z hz => hn z (List.mem_cons_of_mem _ hz)
theorem find_is {s : ByteArray} {v : Value} : ∀ {l : List MapEntry} {es : List (ByteArray × Value)} (i : Nat), l.map pairOf = es.map (fun y => (.string y.1, y.2)) → es.find? (fun y => s == y.1) = some (s, v) → ∃ j, Instr.findNow .string (.string s) l i = some (some (j, v))
  | [], [], _, _, hf => by simp at hf
  | [], y :: es, _, h, _ => by simp at h
  | e :: l, [], _, h, _ => by simp at h
  | e :: l, y :: es, i, h, hf => by
    simp only [List.map_cons, List.cons.injEq] at h
    obtain ⟨h1, h2⟩ := h
    have hk : e.key = .string y.1 := congrArg Prod.fst h1
    have hv : e.val = y.2 := congrArg Prod.snd h1
    cases hs : s == y.1 with
    | true =>
      rw [List.find?_cons_of_pos (by exact hs)] at hf
      injection hf with hf
      refine ⟨i, ?_⟩
      show (match Instr.sameNow .string (.string s) e.key with | some true => _ | some false => _ | none => _) = _
      rw [hk]
      simp only [Instr.sameNow]
      rw [hs, hv, hf]
    | false =>
      rw [List.find?_cons_of_neg (by rw [hs]; decide)] at hf
      obtain ⟨j, hj⟩ := find_is (i + 1) h2 hf
      refine ⟨j, ?_⟩
      show (match Instr.sameNow .string (.string s) e.key with | some true => _ | some false => _ | none => _) = _
      rw [hk]
      simp only [Instr.sameNow, hs]
      exact hj

theorem MapAt.insert {P : Program} {w : World} {r : Nat} {es : List (ByteArray × Value)} (h : MapAt w r es) {t k e : TypeId} (ht : P.underlying t = some (.map k e)) (hk : P.underlying k = some .string) {s : ByteArray} (v : Value) (hn : ∀ y ∈ es, (s == y.1) = false) :
    ∃ w', (Instr.mapUpdate t (.map (some r)) (.string s) v).run P w = .ok () w' ∧ MapAt w' r (es ++ [(s, v)]) ∧ w.grownBy w' (some r) := by
  obtain ⟨m, c, hb, hm⟩ := h
  have hf := find_new (s := s) 0 hm hn
  have hc : (Instr.checkKey false 10000 k (.string s)).run P w = .ok () w := MapKept.run_checkKey (k := .string s) hk (by simp [MapKept.IsKey]) false 9999
  refine ⟨{ w with heap := w.heap.setIfInBounds r (.map (m.push { key := .string s, val := v, born := c }) (c + 1)) }, ?_, ⟨_, _, (MapKept.heap_set hb).1, ?_⟩, ⟨rfl, rfl, rfl, by simp, fun q hq hne => (MapKept.heap_set hb).2 q (fun e => hne (by rw [e]))⟩⟩
  · simp [Instr.mapUpdate, run_underlying ht, MapKept.run_getObj_map hb, hc, MapKept.run_findKey hk hf, MapKept.run_setObj_map _ hb, Result.andThen]
  · simp [hm, pairOf]

theorem MapAt.look {P : Program} {w : World} {r : Nat} {es : List (ByteArray × Value)} (h : MapAt w r es) {t k e : TypeId} (ht : P.underlying t = some (.map k e)) (hk : P.underlying k = some .string) {s : ByteArray} {v : Value} (hf : es.find? (fun y => s == y.1) = some (s, v)) :
    (Instr.lookup t (.map (some r)) (.string s) false).run P w = .ok v w := by
  obtain ⟨m, c, hb, hm⟩ := h
  obtain ⟨j, hj⟩ := find_is (s := s) 0 hm hf
  have hc : (Instr.checkKey m.isEmpty 10000 k (.string s)).run P w = .ok () w := MapKept.run_checkKey (k := .string s) hk (by simp [MapKept.IsKey]) m.isEmpty 9999
  simp [Instr.lookup, run_underlying ht, MapKept.run_getObj_map hb, hc, MapKept.run_findKey hk hj, Result.andThen]

/-- A map's new entry, at the operation. -/
theorem wpList_insert_new {P : Program} (w : World) {ops : Array Oper} {rest : List Oper} {o : Oper} {a : Act} {Q : Exit → Act → World → Prop}
    (hg : o.guard = none) (m x v : Operand) (t : TypeId) (hop : o.op = Op.insert t m x v) (k e : TypeId) (ht : P.underlying t = some (.map k e)) (hk : P.underlying k = some .string) (r : Nat) (es : List (ByteArray × Value))
    (hm : a.eval m = .map (some r)) (hat : MapAt w r es) (s : ByteArray) (val : Value) (hx : a.eval x = .string s) (hv : a.eval v = val) (hn : ∀ y ∈ es, (s == y.1) = false)
    (hK : ∀ w', MapAt w' r (es ++ [(s, val)]) → w.grownBy w' (some r) → wpList P ops Q rest (a.put o.dst undef) w') :
    wpList P ops Q (o :: rest) a w := by
  refine wpList_plain hg fun K' hK' => ?_
  obtain ⟨w', hrun, r1, r2⟩ := hat.insert ht hk val hn
  unfold Oper.wp
  simp [execOp, hop, hm, hx, hv, hrun, Result.andThen]
  exact hK' _ _ (hK w' r1 r2)

/-- A closure that does f with the values of a slice. -/
def Clo (W : World) (v : Value) (K f : Nat) : Prop := ∃ b, v = .func (.func K) #[] #[.pointer (some ⟨b, 0, none⟩)] ∧ W.cell? ⟨b, 0, none⟩ = some (.func (.func f) #[] #[])
theorem Clo.keep {W W' : World} {v : Value} {K f : Nat} (h : Clo W v K f) (hb : ∀ b, b < W.heap.size → (∃ u, W.cell? ⟨b, 0, none⟩ = some u ∧ u.oneCell' = true) → W'.heap[b]? = W.heap[b]?) : Clo W' v K f := by
  obtain ⟨b, e, hc⟩ := h
  exact ⟨b, e, (World.cell?_of_block (w := W) (a := ⟨b, 0, none⟩) (hb b (World.block_lt_of_cell? W _ hc) ⟨_, hc, rfl⟩)).trans hc⟩
theorem Clo.below {W W' : World} {v : Value} {K f : Nat} (h : Clo W v K f) (hb : Below W.heap.size W W') : Clo W' v K f := h.keep fun b hl _ => hb.block b hl
theorem Clo.map {W W' : World} {v : Value} {K f r : Nat} {es : List (ByteArray × Value)} (h : Clo W v K f) (hg : W.grownBy W' (some r)) (hr : MapAt W r es) : Clo W' v K f := h.keep fun b hl hu => hg.block b hl fun e => by
  injection e with e
  subst e
  obtain ⟨m, c, hb, _⟩ := hr
  obtain ⟨u, hc, _⟩ := hu
  simp [World.cell?, hb] at hc

set_option maxRecDepth 100000 in
set_option maxHeartbeats 1600000 in
theorem one_any (f : Nat) (w : World) :
    Calls Tryz.prog 106 #[.func (.func f) #[] #[]] w fun e w' => ∃ v, e = .returned v ∧ Clo w' v 143 f ∧ Below w.heap.size w w' := by
  go_enter Tryz.func106, Tryz.ntmps106
  go_wp2_with (fail)
  go_ret
  exact ⟨_, rfl, ⟨_, rfl, by simp [go_sem]⟩, (Below.refl _ _).alloc (Nat.le_refl _) _⟩

set_option maxRecDepth 100000 in
set_option maxHeartbeats 1600000 in
theorem two_any (f : Nat) (w : World) :
    Calls Tryz.prog 109 #[.func (.func f) #[] #[]] w fun e w' => ∃ v, e = .returned v ∧ Clo w' v 147 f ∧ Below w.heap.size w w' := by
  go_enter Tryz.func109, Tryz.ntmps109
  go_wp2_with (fail)
  go_ret
  exact ⟨_, rfl, ⟨_, rfl, by simp [go_sem]⟩, (Below.refl _ _).alloc (Nat.le_refl _) _⟩

/-- Block r is the map of what each Op does. -/
structure Does (W : World) (r : Nat) (v0 v1 v2 v3 v4 v5 v6 v7 : Value) : Prop where
  map : MapAt W r [(⟨#[110, 111, 116]⟩, v0), (⟨#[110, 117, 108, 108]⟩, v1), (⟨#[97, 110, 100]⟩, v2), (⟨#[111, 114]⟩, v3), (⟨#[61]⟩, v4), (⟨#[60]⟩, v5), (⟨#[43]⟩, v6), (⟨#[45]⟩, v7)]
  c0 : Clo W v0 143 107
  c1 : Clo W v1 143 108
  c2 : Clo W v2 147 110
  c3 : Clo W v3 147 111
  c4 : Clo W v4 147 112
  c5 : Clo W v5 147 113
  c6 : Clo W v6 147 114
  c7 : Clo W v7 147 115
theorem Does.below {W W' : World} {r : Nat} {v0 v1 v2 v3 v4 v5 v6 v7 : Value} (h : Does W r v0 v1 v2 v3 v4 v5 v6 v7) (hb : Below W.heap.size W W') : Does W' r v0 v1 v2 v3 v4 v5 v6 v7 :=
  ⟨h.map.below hb, h.c0.below hb, h.c1.below hb, h.c2.below hb, h.c3.below hb, h.c4.below hb, h.c5.below hb, h.c6.below hb, h.c7.below hb⟩

set_option maxRecDepth 100000 in
set_option maxHeartbeats 4000000 in
theorem doings_any (w : World) :
    Calls Tryz.prog 67 #[] w fun e w' => ∃ r v0 v1 v2 v3 v4 v5 v6 v7, e = .returned (.map (some r)) ∧ Does w' r v0 v1 v2 v3 v4 v5 v6 v7 ∧ Below w.heap.size w w' := by
  have hmm := @run_makeMap Tryz.prog
  go_enter Tryz.func67, Tryz.ntmps67
  have HM0 := Lib.hid (MapAt.made w)
  have HB0 : Hid (Below w.heap.size w (w.alloc (.map #[] 0))) := (Below.refl _ _).alloc (Nat.le_refl _) _
  go_wp2_with (go_at_call 106; refine (one_any _ _).mono ?_)
  rintro e x0 ⟨v0, rfl, hk0, hb0⟩
  have HMx0 := Lib.hid (HM0.out.below hb0)
  have HBx0 : Hid (Below w.heap.size w x0) := HB0.out.trans (hb0.mono HB0.out.size)
  have HCx0 := Lib.hid hk0
  clear hk0 hb0
  go_wp2_with (with_reducible refine wpList_insert_new _ rfl _ _ _ 93 rfl 9 125 Tryz.underlying93 Tryz.underlying9 w.heap.size [] rfl HMx0.out ⟨#[110, 111, 116]⟩ _ rfl rfl ?n0 ?k0)
  case n0 => intro y hy; cases hy
  intro y0 hm0 hg0
  have HM1 := Lib.hid hm0
  have HB1 : Hid (Below w.heap.size w y0) := below_grow HBx0.out hg0 (Nat.le_refl _) HBx0.out.size
  have HC1_0 := Lib.hid (HCx0.out.map hg0 HMx0.out)
  clear hm0 hg0
  go_wp2_with (go_at_call 106; refine (one_any _ _).mono ?_)
  rintro e x1 ⟨v1, rfl, hk1, hb1⟩
  have HMx1 := Lib.hid (HM1.out.below hb1)
  have HBx1 : Hid (Below w.heap.size w x1) := HB1.out.trans (hb1.mono HB1.out.size)
  have HCx1 := Lib.hid hk1
  have HCx1_0 := Lib.hid (HC1_0.out.below hb1)
  clear hk1 hb1
  go_wp2_with (with_reducible refine wpList_insert_new _ rfl _ _ _ 93 rfl 9 125 Tryz.underlying93 Tryz.underlying9 w.heap.size [(⟨#[110, 111, 116]⟩, v0)] rfl HMx1.out ⟨#[110, 117, 108, 108]⟩ _ rfl rfl ?n1 ?k1)
  case n1 => intro y hy; simp at hy; rcases hy with rfl <;> rfl
  intro y1 hm1 hg1
  have HM2 := Lib.hid hm1
  have HB2 : Hid (Below w.heap.size w y1) := below_grow HBx1.out hg1 (Nat.le_refl _) HBx1.out.size
  have HC2_1 := Lib.hid (HCx1.out.map hg1 HMx1.out)
  have HC2_0 := Lib.hid (HCx1_0.out.map hg1 HMx1.out)
  clear hm1 hg1
  go_wp2_with (go_at_call 109; refine (two_any _ _).mono ?_)
  rintro e x2 ⟨v2, rfl, hk2, hb2⟩
  have HMx2 := Lib.hid (HM2.out.below hb2)
  have HBx2 : Hid (Below w.heap.size w x2) := HB2.out.trans (hb2.mono HB2.out.size)
  have HCx2 := Lib.hid hk2
  have HCx2_0 := Lib.hid (HC2_0.out.below hb2)
  have HCx2_1 := Lib.hid (HC2_1.out.below hb2)
  clear hk2 hb2
  go_wp2_with (with_reducible refine wpList_insert_new _ rfl _ _ _ 93 rfl 9 125 Tryz.underlying93 Tryz.underlying9 w.heap.size [(⟨#[110, 111, 116]⟩, v0), (⟨#[110, 117, 108, 108]⟩, v1)] rfl HMx2.out ⟨#[97, 110, 100]⟩ _ rfl rfl ?n2 ?k2)
  case n2 => intro y hy; simp at hy; rcases hy with rfl | rfl <;> rfl
  intro y2 hm2 hg2
  have HM3 := Lib.hid hm2
  have HB3 : Hid (Below w.heap.size w y2) := below_grow HBx2.out hg2 (Nat.le_refl _) HBx2.out.size
  have HC3_2 := Lib.hid (HCx2.out.map hg2 HMx2.out)
  have HC3_0 := Lib.hid (HCx2_0.out.map hg2 HMx2.out)
  have HC3_1 := Lib.hid (HCx2_1.out.map hg2 HMx2.out)
  clear hm2 hg2
  go_wp2_with (go_at_call 109; refine (two_any _ _).mono ?_)
  rintro e x3 ⟨v3, rfl, hk3, hb3⟩
  have HMx3 := Lib.hid (HM3.out.below hb3)
  have HBx3 : Hid (Below w.heap.size w x3) := HB3.out.trans (hb3.mono HB3.out.size)
  have HCx3 := Lib.hid hk3
  have HCx3_0 := Lib.hid (HC3_0.out.below hb3)
  have HCx3_1 := Lib.hid (HC3_1.out.below hb3)
  have HCx3_2 := Lib.hid (HC3_2.out.below hb3)
  clear hk3 hb3
  go_wp2_with (with_reducible refine wpList_insert_new _ rfl _ _ _ 93 rfl 9 125 Tryz.underlying93 Tryz.underlying9 w.heap.size [(⟨#[110, 111, 116]⟩, v0), (⟨#[110, 117, 108, 108]⟩, v1), (⟨#[97, 110, 100]⟩, v2)] rfl HMx3.out ⟨#[111, 114]⟩ _ rfl rfl ?n3 ?k3)
  case n3 => intro y hy; simp at hy; rcases hy with rfl | rfl | rfl <;> rfl
  intro y3 hm3 hg3
  have HM4 := Lib.hid hm3
  have HB4 : Hid (Below w.heap.size w y3) := below_grow HBx3.out hg3 (Nat.le_refl _) HBx3.out.size
  have HC4_3 := Lib.hid (HCx3.out.map hg3 HMx3.out)
  have HC4_0 := Lib.hid (HCx3_0.out.map hg3 HMx3.out)
  have HC4_1 := Lib.hid (HCx3_1.out.map hg3 HMx3.out)
  have HC4_2 := Lib.hid (HCx3_2.out.map hg3 HMx3.out)
  clear hm3 hg3
  go_wp2_with (go_at_call 109; refine (two_any _ _).mono ?_)
  rintro e x4 ⟨v4, rfl, hk4, hb4⟩
  have HMx4 := Lib.hid (HM4.out.below hb4)
  have HBx4 : Hid (Below w.heap.size w x4) := HB4.out.trans (hb4.mono HB4.out.size)
  have HCx4 := Lib.hid hk4
  have HCx4_0 := Lib.hid (HC4_0.out.below hb4)
  have HCx4_1 := Lib.hid (HC4_1.out.below hb4)
  have HCx4_2 := Lib.hid (HC4_2.out.below hb4)
  have HCx4_3 := Lib.hid (HC4_3.out.below hb4)
  clear hk4 hb4
  go_wp2_with (with_reducible refine wpList_insert_new _ rfl _ _ _ 93 rfl 9 125 Tryz.underlying93 Tryz.underlying9 w.heap.size [(⟨#[110, 111, 116]⟩, v0), (⟨#[110, 117, 108, 108]⟩, v1), (⟨#[97, 110, 100]⟩, v2), (⟨#[111, 114]⟩, v3)] rfl HMx4.out ⟨#[61]⟩ _ rfl rfl ?n4 ?k4)
  case n4 => intro y hy; simp at hy; rcases hy with rfl | rfl | rfl | rfl <;> rfl
  intro y4 hm4 hg4
  have HM5 := Lib.hid hm4
  have HB5 : Hid (Below w.heap.size w y4) := below_grow HBx4.out hg4 (Nat.le_refl _) HBx4.out.size
  have HC5_4 := Lib.hid (HCx4.out.map hg4 HMx4.out)
  have HC5_0 := Lib.hid (HCx4_0.out.map hg4 HMx4.out)
  have HC5_1 := Lib.hid (HCx4_1.out.map hg4 HMx4.out)
  have HC5_2 := Lib.hid (HCx4_2.out.map hg4 HMx4.out)
  have HC5_3 := Lib.hid (HCx4_3.out.map hg4 HMx4.out)
  clear hm4 hg4
  go_wp2_with (go_at_call 109; refine (two_any _ _).mono ?_)
  rintro e x5 ⟨v5, rfl, hk5, hb5⟩
  have HMx5 := Lib.hid (HM5.out.below hb5)
  have HBx5 : Hid (Below w.heap.size w x5) := HB5.out.trans (hb5.mono HB5.out.size)
  have HCx5 := Lib.hid hk5
  have HCx5_0 := Lib.hid (HC5_0.out.below hb5)
  have HCx5_1 := Lib.hid (HC5_1.out.below hb5)
  have HCx5_2 := Lib.hid (HC5_2.out.below hb5)
  have HCx5_3 := Lib.hid (HC5_3.out.below hb5)
  have HCx5_4 := Lib.hid (HC5_4.out.below hb5)
  clear hk5 hb5
  go_wp2_with (with_reducible refine wpList_insert_new _ rfl _ _ _ 93 rfl 9 125 Tryz.underlying93 Tryz.underlying9 w.heap.size [(⟨#[110, 111, 116]⟩, v0), (⟨#[110, 117, 108, 108]⟩, v1), (⟨#[97, 110, 100]⟩, v2), (⟨#[111, 114]⟩, v3), (⟨#[61]⟩, v4)] rfl HMx5.out ⟨#[60]⟩ _ rfl rfl ?n5 ?k5)
  case n5 => intro y hy; simp at hy; rcases hy with rfl | rfl | rfl | rfl | rfl <;> rfl
  intro y5 hm5 hg5
  have HM6 := Lib.hid hm5
  have HB6 : Hid (Below w.heap.size w y5) := below_grow HBx5.out hg5 (Nat.le_refl _) HBx5.out.size
  have HC6_5 := Lib.hid (HCx5.out.map hg5 HMx5.out)
  have HC6_0 := Lib.hid (HCx5_0.out.map hg5 HMx5.out)
  have HC6_1 := Lib.hid (HCx5_1.out.map hg5 HMx5.out)
  have HC6_2 := Lib.hid (HCx5_2.out.map hg5 HMx5.out)
  have HC6_3 := Lib.hid (HCx5_3.out.map hg5 HMx5.out)
  have HC6_4 := Lib.hid (HCx5_4.out.map hg5 HMx5.out)
  clear hm5 hg5
  go_wp2_with (go_at_call 109; refine (two_any _ _).mono ?_)
  rintro e x6 ⟨v6, rfl, hk6, hb6⟩
  have HMx6 := Lib.hid (HM6.out.below hb6)
  have HBx6 : Hid (Below w.heap.size w x6) := HB6.out.trans (hb6.mono HB6.out.size)
  have HCx6 := Lib.hid hk6
  have HCx6_0 := Lib.hid (HC6_0.out.below hb6)
  have HCx6_1 := Lib.hid (HC6_1.out.below hb6)
  have HCx6_2 := Lib.hid (HC6_2.out.below hb6)
  have HCx6_3 := Lib.hid (HC6_3.out.below hb6)
  have HCx6_4 := Lib.hid (HC6_4.out.below hb6)
  have HCx6_5 := Lib.hid (HC6_5.out.below hb6)
  clear hk6 hb6
  go_wp2_with (with_reducible refine wpList_insert_new _ rfl _ _ _ 93 rfl 9 125 Tryz.underlying93 Tryz.underlying9 w.heap.size [(⟨#[110, 111, 116]⟩, v0), (⟨#[110, 117, 108, 108]⟩, v1), (⟨#[97, 110, 100]⟩, v2), (⟨#[111, 114]⟩, v3), (⟨#[61]⟩, v4), (⟨#[60]⟩, v5)] rfl HMx6.out ⟨#[43]⟩ _ rfl rfl ?n6 ?k6)
  case n6 => intro y hy; simp at hy; rcases hy with rfl | rfl | rfl | rfl | rfl | rfl <;> rfl
  intro y6 hm6 hg6
  have HM7 := Lib.hid hm6
  have HB7 : Hid (Below w.heap.size w y6) := below_grow HBx6.out hg6 (Nat.le_refl _) HBx6.out.size
  have HC7_6 := Lib.hid (HCx6.out.map hg6 HMx6.out)
  have HC7_0 := Lib.hid (HCx6_0.out.map hg6 HMx6.out)
  have HC7_1 := Lib.hid (HCx6_1.out.map hg6 HMx6.out)
  have HC7_2 := Lib.hid (HCx6_2.out.map hg6 HMx6.out)
  have HC7_3 := Lib.hid (HCx6_3.out.map hg6 HMx6.out)
  have HC7_4 := Lib.hid (HCx6_4.out.map hg6 HMx6.out)
  have HC7_5 := Lib.hid (HCx6_5.out.map hg6 HMx6.out)
  clear hm6 hg6
  go_wp2_with (go_at_call 109; refine (two_any _ _).mono ?_)
  rintro e x7 ⟨v7, rfl, hk7, hb7⟩
  have HMx7 := Lib.hid (HM7.out.below hb7)
  have HBx7 : Hid (Below w.heap.size w x7) := HB7.out.trans (hb7.mono HB7.out.size)
  have HCx7 := Lib.hid hk7
  have HCx7_0 := Lib.hid (HC7_0.out.below hb7)
  have HCx7_1 := Lib.hid (HC7_1.out.below hb7)
  have HCx7_2 := Lib.hid (HC7_2.out.below hb7)
  have HCx7_3 := Lib.hid (HC7_3.out.below hb7)
  have HCx7_4 := Lib.hid (HC7_4.out.below hb7)
  have HCx7_5 := Lib.hid (HC7_5.out.below hb7)
  have HCx7_6 := Lib.hid (HC7_6.out.below hb7)
  clear hk7 hb7
  go_wp2_with (with_reducible refine wpList_insert_new _ rfl _ _ _ 93 rfl 9 125 Tryz.underlying93 Tryz.underlying9 w.heap.size [(⟨#[110, 111, 116]⟩, v0), (⟨#[110, 117, 108, 108]⟩, v1), (⟨#[97, 110, 100]⟩, v2), (⟨#[111, 114]⟩, v3), (⟨#[61]⟩, v4), (⟨#[60]⟩, v5), (⟨#[43]⟩, v6)] rfl HMx7.out ⟨#[45]⟩ _ rfl rfl ?n7 ?k7)
  case n7 => intro y hy; simp at hy; rcases hy with rfl | rfl | rfl | rfl | rfl | rfl | rfl <;> rfl
  intro y7 hm7 hg7
  have HM8 := Lib.hid hm7
  have HB8 : Hid (Below w.heap.size w y7) := below_grow HBx7.out hg7 (Nat.le_refl _) HBx7.out.size
  have HC8_7 := Lib.hid (HCx7.out.map hg7 HMx7.out)
  have HC8_0 := Lib.hid (HCx7_0.out.map hg7 HMx7.out)
  have HC8_1 := Lib.hid (HCx7_1.out.map hg7 HMx7.out)
  have HC8_2 := Lib.hid (HCx7_2.out.map hg7 HMx7.out)
  have HC8_3 := Lib.hid (HCx7_3.out.map hg7 HMx7.out)
  have HC8_4 := Lib.hid (HCx7_4.out.map hg7 HMx7.out)
  have HC8_5 := Lib.hid (HCx7_5.out.map hg7 HMx7.out)
  have HC8_6 := Lib.hid (HCx7_6.out.map hg7 HMx7.out)
  clear hm7 hg7
  go_wp2_with (fail)
  go_ret
  exact ⟨_, _, _, _, _, _, _, _, _, rfl, ⟨HM8.out, HC8_0.out, HC8_1.out, HC8_2.out, HC8_3.out, HC8_4.out, HC8_5.out, HC8_6.out, HC8_7.out⟩, HB8.out⟩
end Go.Proofs.YtmhkmliebhbkdaaGreat

/- The document's own Plus and Minus; what Equal, Less, Plus, Minus come to, whatever the two are. -/
namespace Go.Proofs.YtmhkmliebhbkdaaGreat
open Go.RowKit Go.Lib

theorem nums_alike {k i : Int} {s : ByteArray} {k' i' : Int} {s' : ByteArray} (h : numsB k i s k' i' s' = true) : alikeB k i s k' i' s' = true := by
  unfold numsB at h
  rw [Bool.and_eq_true, beq_iff_eq, beq_iff_eq] at h
  unfold alikeB
  rw [h.1, h.2]
  rfl
theorem alike_nums {k i : Int} {s : ByteArray} {k' i' : Int} {s' : ByteArray} (h : alikeB k i s k' i' s' = true) : numsB k i s k' i' s' = decide (k = 1) := by
  obtain ⟨m1, m2, hk, _⟩ := alike_may h
  subst hk
  unfold numsB hK
  rw [if_pos m1, if_pos m2]
  by_cases e : k = 1
  · subst e; rfl
  · rw [beq_eq_false_iff_ne.2 e, decide_eq_false e]; rfl

set_option maxRecDepth 100000 in
set_option maxHeartbeats 800000 in
theorem rplus_apart (k i : Int) (s : ByteArray) (k' i' : Int) (s' : ByteArray) (w : World) (hs : s.size ≤ maxLen) (hs' : s'.size ≤ maxLen) (ha : alikeB k i s k' i' s' = false) :
    Calls Tryz.prog 78 #[.agg #[.int .i64 k, .int .i64 i, .string s], .agg #[.int .i64 k', .int .i64 i', .string s']] w fun e w' => e = .returned (.agg #[.int .i64 0, .int .i64 0, .string ⟨#[]⟩]) ∧ Below w.heap.size w w' := by
  have H := Lib.hid (And.intro ha (And.intro hs hs'))
  clear ha hs hs'
  go_enter Tryz.func78, Tryz.ntmps78
  go_wp2_with (first
    | (go_at_call 119; refine ((rapart_any _ _ _ _ _ _ _ H.out.2.1 H.out.2.2).mono (fun _ _ h => (H.out.1 ▸ h : _ = Ending.returned (.bool (!false)) ∧ _))).mono ?_; rintro e w1 ⟨rfl, hb1⟩; have hc1 := (bcell hb1).1; have hf1 := (bcell hb1).2; have hy1 := hb1.size; (try simp at hy1); have hz1_0 : w.heap.size < w1.heap.size := (by omega); have hz1_1 : w.heap.size + 1 < w1.heap.size := (by omega); have hz1_2 : w.heap.size + 1 + 1 < w1.heap.size := (by omega)))
  (refine bodyPost_ret (v := .agg #[.int .i64 0, .int .i64 0, .string ⟨#[]⟩]) ?_ rfl ⟨rfl, ?_⟩; (· (simp [results, Tryz.results78, go_sem, *]; done)))
  repeat (first | (with_reducible exact Below.refl _ _) | ((with_reducible refine cSet3 ?_ ?_ _ _ _); (· ((try simp) <;> omega))) | (with_reducible refine Below.drew ?_) | ((with_reducible refine cAlloc ?_ ?_ _); (· ((try simp) <;> omega))) | ((with_reducible refine cOn (by assumption) ?_ ?_); (· ((try simp) <;> omega))))

set_option maxRecDepth 100000 in
set_option maxHeartbeats 800000 in
theorem rplus_other (k i : Int) (s : ByteArray) (k' i' : Int) (s' : ByteArray) (w : World) (hs : s.size ≤ maxLen) (hs' : s'.size ≤ maxLen) (ha : alikeB k i s k' i' s' = true) (hk : ¬ k = 1) :
    Calls Tryz.prog 78 #[.agg #[.int .i64 k, .int .i64 i, .string s], .agg #[.int .i64 k', .int .i64 i', .string s']] w fun e w' => e = .returned (.agg #[.int .i64 0, .int .i64 0, .string ⟨#[]⟩]) ∧ Below w.heap.size w w' := by
  have H := Lib.hid (And.intro ha (And.intro hs hs'))
  clear ha hs hs'
  have hbk : (k != 1) = true := bne_iff_ne.2 hk
  go_enter Tryz.func78, Tryz.ntmps78
  go_wp2_with (first
    | (go_at_call 119; refine ((rapart_any _ _ _ _ _ _ _ H.out.2.1 H.out.2.2).mono (fun _ _ h => (H.out.1 ▸ h : _ = Ending.returned (.bool (!true)) ∧ _))).mono ?_; rintro e w1 ⟨rfl, hb1⟩; have hc1 := (bcell hb1).1; have hf1 := (bcell hb1).2; have hy1 := hb1.size; (try simp at hy1); have hz1_0 : w.heap.size < w1.heap.size := (by omega); have hz1_1 : w.heap.size + 1 < w1.heap.size := (by omega); have hz1_2 : w.heap.size + 1 + 1 < w1.heap.size := (by omega)))
  (refine bodyPost_ret (v := .agg #[.int .i64 0, .int .i64 0, .string ⟨#[]⟩]) ?_ rfl ⟨rfl, ?_⟩; (· (simp [results, Tryz.results78, go_sem, *]; done)))
  repeat (first | (with_reducible exact Below.refl _ _) | ((with_reducible refine cSet3 ?_ ?_ _ _ _); (· ((try simp) <;> omega))) | (with_reducible refine Below.drew ?_) | ((with_reducible refine cAlloc ?_ ?_ _); (· ((try simp) <;> omega))) | ((with_reducible refine cOn (by assumption) ?_ ?_); (· ((try simp) <;> omega))))

set_option maxRecDepth 100000 in
set_option maxHeartbeats 800000 in
theorem rplus_a (i : Int) (s : ByteArray) (k' i' : Int) (s' : ByteArray) (w : World) (hs : s.size ≤ maxLen) (hs' : s'.size ≤ maxLen) (ha : alikeB 1 i s k' i' s' = true) (hi : -9223372036854775808 ≤ i) (hi2 : i ≤ 9223372036854775807) (hj : -9223372036854775808 ≤ i') (hj2 : i' ≤ 9223372036854775807) (h1 : 0 < i') (h2 : 9223372036854775807 - i' < i) :
    Calls Tryz.prog 78 #[.agg #[.int .i64 1, .int .i64 i, .string s], .agg #[.int .i64 k', .int .i64 i', .string s']] w fun e w' => e = .returned (.agg #[.int .i64 0, .int .i64 0, .string ⟨#[]⟩]) ∧ Below w.heap.size w w' := by
  have H := Lib.hid (And.intro ha (And.intro hs hs'))
  clear ha hs hs'
  go_enter Tryz.func78, Tryz.ntmps78
  go_wp2_with (first
    | (go_at_call 119; refine ((rapart_any _ _ _ _ _ _ _ H.out.2.1 H.out.2.2).mono (fun _ _ h => (H.out.1 ▸ h : _ = Ending.returned (.bool (!true)) ∧ _))).mono ?_; rintro e w1 ⟨rfl, hb1⟩; have hc1 := (bcell hb1).1; have hf1 := (bcell hb1).2; have hy1 := hb1.size; (try simp at hy1); have hz1_0 : w.heap.size < w1.heap.size := (by omega); have hz1_1 : w.heap.size + 1 < w1.heap.size := (by omega); have hz1_2 : w.heap.size + 1 + 1 < w1.heap.size := (by omega)))
  (refine bodyPost_ret (v := .agg #[.int .i64 0, .int .i64 0, .string ⟨#[]⟩]) ?_ rfl ⟨rfl, ?_⟩; (· (simp [results, Tryz.results78, go_sem, *]; done)))
  repeat (first | (with_reducible exact Below.refl _ _) | ((with_reducible refine cSet3 ?_ ?_ _ _ _); (· ((try simp) <;> omega))) | (with_reducible refine Below.drew ?_) | ((with_reducible refine cAlloc ?_ ?_ _); (· ((try simp) <;> omega))) | ((with_reducible refine cOn (by assumption) ?_ ?_); (· ((try simp) <;> omega))))

set_option maxRecDepth 100000 in
set_option maxHeartbeats 800000 in
theorem rplus_b (i : Int) (s : ByteArray) (k' i' : Int) (s' : ByteArray) (w : World) (hs : s.size ≤ maxLen) (hs' : s'.size ≤ maxLen) (ha : alikeB 1 i s k' i' s' = true) (hi : -9223372036854775808 ≤ i) (hi2 : i ≤ 9223372036854775807) (hj : -9223372036854775808 ≤ i') (hj2 : i' ≤ 9223372036854775807) (h1 : 0 < i') (h2 : ¬ 9223372036854775807 - i' < i) :
    Calls Tryz.prog 78 #[.agg #[.int .i64 1, .int .i64 i, .string s], .agg #[.int .i64 k', .int .i64 i', .string s']] w fun e w' => e = .returned (.agg #[.int .i64 1, .int .i64 (i + i'), .string ⟨#[]⟩]) ∧ Below w.heap.size w w' := by
  have H := Lib.hid (And.intro ha (And.intro hs hs'))
  clear ha hs hs'
  go_enter Tryz.func78, Tryz.ntmps78
  go_wp2_with (first
    | (go_at_call 119; refine ((rapart_any _ _ _ _ _ _ _ H.out.2.1 H.out.2.2).mono (fun _ _ h => (H.out.1 ▸ h : _ = Ending.returned (.bool (!true)) ∧ _))).mono ?_; rintro e w1 ⟨rfl, hb1⟩; have hc1 := (bcell hb1).1; have hf1 := (bcell hb1).2; have hy1 := hb1.size; (try simp at hy1); have hz1_0 : w.heap.size < w1.heap.size := (by omega); have hz1_1 : w.heap.size + 1 < w1.heap.size := (by omega); have hz1_2 : w.heap.size + 1 + 1 < w1.heap.size := (by omega)))
  (refine bodyPost_ret (v := .agg #[.int .i64 1, .int .i64 (i + i'), .string ⟨#[]⟩]) ?_ rfl ⟨rfl, ?_⟩; (· (simp [results, Tryz.results78, go_sem, *]; done)))
  repeat (first | (with_reducible exact Below.refl _ _) | ((with_reducible refine cSet3 ?_ ?_ _ _ _); (· ((try simp) <;> omega))) | (with_reducible refine Below.drew ?_) | ((with_reducible refine cAlloc ?_ ?_ _); (· ((try simp) <;> omega))) | ((with_reducible refine cOn (by assumption) ?_ ?_); (· ((try simp) <;> omega))))

set_option maxRecDepth 100000 in
set_option maxHeartbeats 800000 in
theorem rplus_c (i : Int) (s : ByteArray) (k' i' : Int) (s' : ByteArray) (w : World) (hs : s.size ≤ maxLen) (hs' : s'.size ≤ maxLen) (ha : alikeB 1 i s k' i' s' = true) (hi : -9223372036854775808 ≤ i) (hi2 : i ≤ 9223372036854775807) (hj : -9223372036854775808 ≤ i') (hj2 : i' ≤ 9223372036854775807) (h1 : i' < 0) (h2 : i < -9223372036854775808 - i') :
    Calls Tryz.prog 78 #[.agg #[.int .i64 1, .int .i64 i, .string s], .agg #[.int .i64 k', .int .i64 i', .string s']] w fun e w' => e = .returned (.agg #[.int .i64 0, .int .i64 0, .string ⟨#[]⟩]) ∧ Below w.heap.size w w' := by
  have H := Lib.hid (And.intro ha (And.intro hs hs'))
  clear ha hs hs'
  have hg : ¬ 0 < i' := by omega
  go_enter Tryz.func78, Tryz.ntmps78
  go_wp2_with (first
    | (go_at_call 119; refine ((rapart_any _ _ _ _ _ _ _ H.out.2.1 H.out.2.2).mono (fun _ _ h => (H.out.1 ▸ h : _ = Ending.returned (.bool (!true)) ∧ _))).mono ?_; rintro e w1 ⟨rfl, hb1⟩; have hc1 := (bcell hb1).1; have hf1 := (bcell hb1).2; have hy1 := hb1.size; (try simp at hy1); have hz1_0 : w.heap.size < w1.heap.size := (by omega); have hz1_1 : w.heap.size + 1 < w1.heap.size := (by omega); have hz1_2 : w.heap.size + 1 + 1 < w1.heap.size := (by omega)))
  (refine bodyPost_ret (v := .agg #[.int .i64 0, .int .i64 0, .string ⟨#[]⟩]) ?_ rfl ⟨rfl, ?_⟩; (· (simp [results, Tryz.results78, go_sem, *]; done)))
  repeat (first | (with_reducible exact Below.refl _ _) | ((with_reducible refine cSet3 ?_ ?_ _ _ _); (· ((try simp) <;> omega))) | (with_reducible refine Below.drew ?_) | ((with_reducible refine cAlloc ?_ ?_ _); (· ((try simp) <;> omega))) | ((with_reducible refine cOn (by assumption) ?_ ?_); (· ((try simp) <;> omega))))

set_option maxRecDepth 100000 in
set_option maxHeartbeats 800000 in
theorem rplus_d (i : Int) (s : ByteArray) (k' i' : Int) (s' : ByteArray) (w : World) (hs : s.size ≤ maxLen) (hs' : s'.size ≤ maxLen) (ha : alikeB 1 i s k' i' s' = true) (hi : -9223372036854775808 ≤ i) (hi2 : i ≤ 9223372036854775807) (hj : -9223372036854775808 ≤ i') (hj2 : i' ≤ 9223372036854775807) (h1 : i' < 0) (h2 : ¬ i < -9223372036854775808 - i') :
    Calls Tryz.prog 78 #[.agg #[.int .i64 1, .int .i64 i, .string s], .agg #[.int .i64 k', .int .i64 i', .string s']] w fun e w' => e = .returned (.agg #[.int .i64 1, .int .i64 (i + i'), .string ⟨#[]⟩]) ∧ Below w.heap.size w w' := by
  have H := Lib.hid (And.intro ha (And.intro hs hs'))
  clear ha hs hs'
  have hg : ¬ 0 < i' := by omega
  go_enter Tryz.func78, Tryz.ntmps78
  go_wp2_with (first
    | (go_at_call 119; refine ((rapart_any _ _ _ _ _ _ _ H.out.2.1 H.out.2.2).mono (fun _ _ h => (H.out.1 ▸ h : _ = Ending.returned (.bool (!true)) ∧ _))).mono ?_; rintro e w1 ⟨rfl, hb1⟩; have hc1 := (bcell hb1).1; have hf1 := (bcell hb1).2; have hy1 := hb1.size; (try simp at hy1); have hz1_0 : w.heap.size < w1.heap.size := (by omega); have hz1_1 : w.heap.size + 1 < w1.heap.size := (by omega); have hz1_2 : w.heap.size + 1 + 1 < w1.heap.size := (by omega)))
  (refine bodyPost_ret (v := .agg #[.int .i64 1, .int .i64 (i + i'), .string ⟨#[]⟩]) ?_ rfl ⟨rfl, ?_⟩; (· (simp [results, Tryz.results78, go_sem, *]; done)))
  repeat (first | (with_reducible exact Below.refl _ _) | ((with_reducible refine cSet3 ?_ ?_ _ _ _); (· ((try simp) <;> omega))) | (with_reducible refine Below.drew ?_) | ((with_reducible refine cAlloc ?_ ?_ _); (· ((try simp) <;> omega))) | ((with_reducible refine cOn (by assumption) ?_ ?_); (· ((try simp) <;> omega))))

set_option maxRecDepth 100000 in
set_option maxHeartbeats 800000 in
theorem rplus_e (i : Int) (s : ByteArray) (k' i' : Int) (s' : ByteArray) (w : World) (hs : s.size ≤ maxLen) (hs' : s'.size ≤ maxLen) (ha : alikeB 1 i s k' i' s' = true) (hi : -9223372036854775808 ≤ i) (hi2 : i ≤ 9223372036854775807) (hj : -9223372036854775808 ≤ i') (hj2 : i' ≤ 9223372036854775807) (h1 : i' = 0)  :
    Calls Tryz.prog 78 #[.agg #[.int .i64 1, .int .i64 i, .string s], .agg #[.int .i64 k', .int .i64 i', .string s']] w fun e w' => e = .returned (.agg #[.int .i64 1, .int .i64 i, .string ⟨#[]⟩]) ∧ Below w.heap.size w w' := by
  have H := Lib.hid (And.intro ha (And.intro hs hs'))
  clear ha hs hs'
  subst h1
  go_enter Tryz.func78, Tryz.ntmps78
  go_wp2_with (first
    | (go_at_call 119; refine ((rapart_any _ _ _ _ _ _ _ H.out.2.1 H.out.2.2).mono (fun _ _ h => (H.out.1 ▸ h : _ = Ending.returned (.bool (!true)) ∧ _))).mono ?_; rintro e w1 ⟨rfl, hb1⟩; have hc1 := (bcell hb1).1; have hf1 := (bcell hb1).2; have hy1 := hb1.size; (try simp at hy1); have hz1_0 : w.heap.size < w1.heap.size := (by omega); have hz1_1 : w.heap.size + 1 < w1.heap.size := (by omega); have hz1_2 : w.heap.size + 1 + 1 < w1.heap.size := (by omega)))
  (refine bodyPost_ret (v := .agg #[.int .i64 1, .int .i64 i, .string ⟨#[]⟩]) ?_ rfl ⟨rfl, ?_⟩; (· (simp [results, Tryz.results78, go_sem, *]; done)))
  repeat (first | (with_reducible exact Below.refl _ _) | ((with_reducible refine cSet3 ?_ ?_ _ _ _); (· ((try simp) <;> omega))) | (with_reducible refine Below.drew ?_) | ((with_reducible refine cAlloc ?_ ?_ _); (· ((try simp) <;> omega))) | ((with_reducible refine cOn (by assumption) ?_ ?_); (· ((try simp) <;> omega))))

set_option maxRecDepth 100000 in
set_option maxHeartbeats 800000 in
theorem rminus_apart (k i : Int) (s : ByteArray) (k' i' : Int) (s' : ByteArray) (w : World) (hs : s.size ≤ maxLen) (hs' : s'.size ≤ maxLen) (ha : alikeB k i s k' i' s' = false) :
    Calls Tryz.prog 79 #[.agg #[.int .i64 k, .int .i64 i, .string s], .agg #[.int .i64 k', .int .i64 i', .string s']] w fun e w' => e = .returned (.agg #[.int .i64 0, .int .i64 0, .string ⟨#[]⟩]) ∧ Below w.heap.size w w' := by
  have H := Lib.hid (And.intro ha (And.intro hs hs'))
  clear ha hs hs'
  go_enter Tryz.func79, Tryz.ntmps79
  go_wp2_with (first
    | (go_at_call 119; refine ((rapart_any _ _ _ _ _ _ _ H.out.2.1 H.out.2.2).mono (fun _ _ h => (H.out.1 ▸ h : _ = Ending.returned (.bool (!false)) ∧ _))).mono ?_; rintro e w1 ⟨rfl, hb1⟩; have hc1 := (bcell hb1).1; have hf1 := (bcell hb1).2; have hy1 := hb1.size; (try simp at hy1); have hz1_0 : w.heap.size < w1.heap.size := (by omega); have hz1_1 : w.heap.size + 1 < w1.heap.size := (by omega); have hz1_2 : w.heap.size + 1 + 1 < w1.heap.size := (by omega)))
  (refine bodyPost_ret (v := .agg #[.int .i64 0, .int .i64 0, .string ⟨#[]⟩]) ?_ rfl ⟨rfl, ?_⟩; (· (simp [results, Tryz.results79, go_sem, *]; done)))
  repeat (first | (with_reducible exact Below.refl _ _) | ((with_reducible refine cSet3 ?_ ?_ _ _ _); (· ((try simp) <;> omega))) | (with_reducible refine Below.drew ?_) | ((with_reducible refine cAlloc ?_ ?_ _); (· ((try simp) <;> omega))) | ((with_reducible refine cOn (by assumption) ?_ ?_); (· ((try simp) <;> omega))))

set_option maxRecDepth 100000 in
set_option maxHeartbeats 800000 in
theorem rminus_other (k i : Int) (s : ByteArray) (k' i' : Int) (s' : ByteArray) (w : World) (hs : s.size ≤ maxLen) (hs' : s'.size ≤ maxLen) (ha : alikeB k i s k' i' s' = true) (hk : ¬ k = 1) :
    Calls Tryz.prog 79 #[.agg #[.int .i64 k, .int .i64 i, .string s], .agg #[.int .i64 k', .int .i64 i', .string s']] w fun e w' => e = .returned (.agg #[.int .i64 0, .int .i64 0, .string ⟨#[]⟩]) ∧ Below w.heap.size w w' := by
  have H := Lib.hid (And.intro ha (And.intro hs hs'))
  clear ha hs hs'
  have hbk : (k != 1) = true := bne_iff_ne.2 hk
  go_enter Tryz.func79, Tryz.ntmps79
  go_wp2_with (first
    | (go_at_call 119; refine ((rapart_any _ _ _ _ _ _ _ H.out.2.1 H.out.2.2).mono (fun _ _ h => (H.out.1 ▸ h : _ = Ending.returned (.bool (!true)) ∧ _))).mono ?_; rintro e w1 ⟨rfl, hb1⟩; have hc1 := (bcell hb1).1; have hf1 := (bcell hb1).2; have hy1 := hb1.size; (try simp at hy1); have hz1_0 : w.heap.size < w1.heap.size := (by omega); have hz1_1 : w.heap.size + 1 < w1.heap.size := (by omega); have hz1_2 : w.heap.size + 1 + 1 < w1.heap.size := (by omega)))
  (refine bodyPost_ret (v := .agg #[.int .i64 0, .int .i64 0, .string ⟨#[]⟩]) ?_ rfl ⟨rfl, ?_⟩; (· (simp [results, Tryz.results79, go_sem, *]; done)))
  repeat (first | (with_reducible exact Below.refl _ _) | ((with_reducible refine cSet3 ?_ ?_ _ _ _); (· ((try simp) <;> omega))) | (with_reducible refine Below.drew ?_) | ((with_reducible refine cAlloc ?_ ?_ _); (· ((try simp) <;> omega))) | ((with_reducible refine cOn (by assumption) ?_ ?_); (· ((try simp) <;> omega))))

set_option maxRecDepth 100000 in
set_option maxHeartbeats 800000 in
theorem rminus_a (i : Int) (s : ByteArray) (k' i' : Int) (s' : ByteArray) (w : World) (hs : s.size ≤ maxLen) (hs' : s'.size ≤ maxLen) (ha : alikeB 1 i s k' i' s' = true) (hi : -9223372036854775808 ≤ i) (hi2 : i ≤ 9223372036854775807) (hj : -9223372036854775808 ≤ i') (hj2 : i' ≤ 9223372036854775807) (h1 : 0 < i') (h2 : i < -9223372036854775808 + i') :
    Calls Tryz.prog 79 #[.agg #[.int .i64 1, .int .i64 i, .string s], .agg #[.int .i64 k', .int .i64 i', .string s']] w fun e w' => e = .returned (.agg #[.int .i64 0, .int .i64 0, .string ⟨#[]⟩]) ∧ Below w.heap.size w w' := by
  have H := Lib.hid (And.intro ha (And.intro hs hs'))
  clear ha hs hs'
  go_enter Tryz.func79, Tryz.ntmps79
  go_wp2_with (first
    | (go_at_call 119; refine ((rapart_any _ _ _ _ _ _ _ H.out.2.1 H.out.2.2).mono (fun _ _ h => (H.out.1 ▸ h : _ = Ending.returned (.bool (!true)) ∧ _))).mono ?_; rintro e w1 ⟨rfl, hb1⟩; have hc1 := (bcell hb1).1; have hf1 := (bcell hb1).2; have hy1 := hb1.size; (try simp at hy1); have hz1_0 : w.heap.size < w1.heap.size := (by omega); have hz1_1 : w.heap.size + 1 < w1.heap.size := (by omega); have hz1_2 : w.heap.size + 1 + 1 < w1.heap.size := (by omega)))
  (refine bodyPost_ret (v := .agg #[.int .i64 0, .int .i64 0, .string ⟨#[]⟩]) ?_ rfl ⟨rfl, ?_⟩; (· (simp [results, Tryz.results79, go_sem, *]; done)))
  repeat (first | (with_reducible exact Below.refl _ _) | ((with_reducible refine cSet3 ?_ ?_ _ _ _); (· ((try simp) <;> omega))) | (with_reducible refine Below.drew ?_) | ((with_reducible refine cAlloc ?_ ?_ _); (· ((try simp) <;> omega))) | ((with_reducible refine cOn (by assumption) ?_ ?_); (· ((try simp) <;> omega))))

set_option maxRecDepth 100000 in
set_option maxHeartbeats 800000 in
theorem rminus_b (i : Int) (s : ByteArray) (k' i' : Int) (s' : ByteArray) (w : World) (hs : s.size ≤ maxLen) (hs' : s'.size ≤ maxLen) (ha : alikeB 1 i s k' i' s' = true) (hi : -9223372036854775808 ≤ i) (hi2 : i ≤ 9223372036854775807) (hj : -9223372036854775808 ≤ i') (hj2 : i' ≤ 9223372036854775807) (h1 : 0 < i') (h2 : ¬ i < -9223372036854775808 + i') :
    Calls Tryz.prog 79 #[.agg #[.int .i64 1, .int .i64 i, .string s], .agg #[.int .i64 k', .int .i64 i', .string s']] w fun e w' => e = .returned (.agg #[.int .i64 1, .int .i64 (i - i'), .string ⟨#[]⟩]) ∧ Below w.heap.size w w' := by
  have H := Lib.hid (And.intro ha (And.intro hs hs'))
  clear ha hs hs'
  go_enter Tryz.func79, Tryz.ntmps79
  go_wp2_with (first
    | (go_at_call 119; refine ((rapart_any _ _ _ _ _ _ _ H.out.2.1 H.out.2.2).mono (fun _ _ h => (H.out.1 ▸ h : _ = Ending.returned (.bool (!true)) ∧ _))).mono ?_; rintro e w1 ⟨rfl, hb1⟩; have hc1 := (bcell hb1).1; have hf1 := (bcell hb1).2; have hy1 := hb1.size; (try simp at hy1); have hz1_0 : w.heap.size < w1.heap.size := (by omega); have hz1_1 : w.heap.size + 1 < w1.heap.size := (by omega); have hz1_2 : w.heap.size + 1 + 1 < w1.heap.size := (by omega)))
  (refine bodyPost_ret (v := .agg #[.int .i64 1, .int .i64 (i - i'), .string ⟨#[]⟩]) ?_ rfl ⟨rfl, ?_⟩; (· (simp [results, Tryz.results79, go_sem, *]; done)))
  repeat (first | (with_reducible exact Below.refl _ _) | ((with_reducible refine cSet3 ?_ ?_ _ _ _); (· ((try simp) <;> omega))) | (with_reducible refine Below.drew ?_) | ((with_reducible refine cAlloc ?_ ?_ _); (· ((try simp) <;> omega))) | ((with_reducible refine cOn (by assumption) ?_ ?_); (· ((try simp) <;> omega))))

set_option maxRecDepth 100000 in
set_option maxHeartbeats 800000 in
theorem rminus_c (i : Int) (s : ByteArray) (k' i' : Int) (s' : ByteArray) (w : World) (hs : s.size ≤ maxLen) (hs' : s'.size ≤ maxLen) (ha : alikeB 1 i s k' i' s' = true) (hi : -9223372036854775808 ≤ i) (hi2 : i ≤ 9223372036854775807) (hj : -9223372036854775808 ≤ i') (hj2 : i' ≤ 9223372036854775807) (h1 : i' < 0) (h2 : 9223372036854775807 + i' < i) :
    Calls Tryz.prog 79 #[.agg #[.int .i64 1, .int .i64 i, .string s], .agg #[.int .i64 k', .int .i64 i', .string s']] w fun e w' => e = .returned (.agg #[.int .i64 0, .int .i64 0, .string ⟨#[]⟩]) ∧ Below w.heap.size w w' := by
  have H := Lib.hid (And.intro ha (And.intro hs hs'))
  clear ha hs hs'
  have hg : ¬ 0 < i' := by omega
  go_enter Tryz.func79, Tryz.ntmps79
  go_wp2_with (first
    | (go_at_call 119; refine ((rapart_any _ _ _ _ _ _ _ H.out.2.1 H.out.2.2).mono (fun _ _ h => (H.out.1 ▸ h : _ = Ending.returned (.bool (!true)) ∧ _))).mono ?_; rintro e w1 ⟨rfl, hb1⟩; have hc1 := (bcell hb1).1; have hf1 := (bcell hb1).2; have hy1 := hb1.size; (try simp at hy1); have hz1_0 : w.heap.size < w1.heap.size := (by omega); have hz1_1 : w.heap.size + 1 < w1.heap.size := (by omega); have hz1_2 : w.heap.size + 1 + 1 < w1.heap.size := (by omega)))
  (refine bodyPost_ret (v := .agg #[.int .i64 0, .int .i64 0, .string ⟨#[]⟩]) ?_ rfl ⟨rfl, ?_⟩; (· (simp [results, Tryz.results79, go_sem, *]; done)))
  repeat (first | (with_reducible exact Below.refl _ _) | ((with_reducible refine cSet3 ?_ ?_ _ _ _); (· ((try simp) <;> omega))) | (with_reducible refine Below.drew ?_) | ((with_reducible refine cAlloc ?_ ?_ _); (· ((try simp) <;> omega))) | ((with_reducible refine cOn (by assumption) ?_ ?_); (· ((try simp) <;> omega))))

set_option maxRecDepth 100000 in
set_option maxHeartbeats 800000 in
theorem rminus_d (i : Int) (s : ByteArray) (k' i' : Int) (s' : ByteArray) (w : World) (hs : s.size ≤ maxLen) (hs' : s'.size ≤ maxLen) (ha : alikeB 1 i s k' i' s' = true) (hi : -9223372036854775808 ≤ i) (hi2 : i ≤ 9223372036854775807) (hj : -9223372036854775808 ≤ i') (hj2 : i' ≤ 9223372036854775807) (h1 : i' < 0) (h2 : ¬ 9223372036854775807 + i' < i) :
    Calls Tryz.prog 79 #[.agg #[.int .i64 1, .int .i64 i, .string s], .agg #[.int .i64 k', .int .i64 i', .string s']] w fun e w' => e = .returned (.agg #[.int .i64 1, .int .i64 (i - i'), .string ⟨#[]⟩]) ∧ Below w.heap.size w w' := by
  have H := Lib.hid (And.intro ha (And.intro hs hs'))
  clear ha hs hs'
  have hg : ¬ 0 < i' := by omega
  go_enter Tryz.func79, Tryz.ntmps79
  go_wp2_with (first
    | (go_at_call 119; refine ((rapart_any _ _ _ _ _ _ _ H.out.2.1 H.out.2.2).mono (fun _ _ h => (H.out.1 ▸ h : _ = Ending.returned (.bool (!true)) ∧ _))).mono ?_; rintro e w1 ⟨rfl, hb1⟩; have hc1 := (bcell hb1).1; have hf1 := (bcell hb1).2; have hy1 := hb1.size; (try simp at hy1); have hz1_0 : w.heap.size < w1.heap.size := (by omega); have hz1_1 : w.heap.size + 1 < w1.heap.size := (by omega); have hz1_2 : w.heap.size + 1 + 1 < w1.heap.size := (by omega)))
  (refine bodyPost_ret (v := .agg #[.int .i64 1, .int .i64 (i - i'), .string ⟨#[]⟩]) ?_ rfl ⟨rfl, ?_⟩; (· (simp [results, Tryz.results79, go_sem, *]; done)))
  repeat (first | (with_reducible exact Below.refl _ _) | ((with_reducible refine cSet3 ?_ ?_ _ _ _); (· ((try simp) <;> omega))) | (with_reducible refine Below.drew ?_) | ((with_reducible refine cAlloc ?_ ?_ _); (· ((try simp) <;> omega))) | ((with_reducible refine cOn (by assumption) ?_ ?_); (· ((try simp) <;> omega))))

set_option maxRecDepth 100000 in
set_option maxHeartbeats 800000 in
theorem rminus_e (i : Int) (s : ByteArray) (k' i' : Int) (s' : ByteArray) (w : World) (hs : s.size ≤ maxLen) (hs' : s'.size ≤ maxLen) (ha : alikeB 1 i s k' i' s' = true) (hi : -9223372036854775808 ≤ i) (hi2 : i ≤ 9223372036854775807) (hj : -9223372036854775808 ≤ i') (hj2 : i' ≤ 9223372036854775807) (h1 : i' = 0)  :
    Calls Tryz.prog 79 #[.agg #[.int .i64 1, .int .i64 i, .string s], .agg #[.int .i64 k', .int .i64 i', .string s']] w fun e w' => e = .returned (.agg #[.int .i64 1, .int .i64 i, .string ⟨#[]⟩]) ∧ Below w.heap.size w w' := by
  have H := Lib.hid (And.intro ha (And.intro hs hs'))
  clear ha hs hs'
  subst h1
  go_enter Tryz.func79, Tryz.ntmps79
  go_wp2_with (first
    | (go_at_call 119; refine ((rapart_any _ _ _ _ _ _ _ H.out.2.1 H.out.2.2).mono (fun _ _ h => (H.out.1 ▸ h : _ = Ending.returned (.bool (!true)) ∧ _))).mono ?_; rintro e w1 ⟨rfl, hb1⟩; have hc1 := (bcell hb1).1; have hf1 := (bcell hb1).2; have hy1 := hb1.size; (try simp at hy1); have hz1_0 : w.heap.size < w1.heap.size := (by omega); have hz1_1 : w.heap.size + 1 < w1.heap.size := (by omega); have hz1_2 : w.heap.size + 1 + 1 < w1.heap.size := (by omega)))
  (refine bodyPost_ret (v := .agg #[.int .i64 1, .int .i64 i, .string ⟨#[]⟩]) ?_ rfl ⟨rfl, ?_⟩; (· (simp [results, Tryz.results79, go_sem, *]; done)))
  repeat (first | (with_reducible exact Below.refl _ _) | ((with_reducible refine cSet3 ?_ ?_ _ _ _); (· ((try simp) <;> omega))) | (with_reducible refine Below.drew ?_) | ((with_reducible refine cAlloc ?_ ?_ _); (· ((try simp) <;> omega))) | ((with_reducible refine cOn (by assumption) ?_ ?_); (· ((try simp) <;> omega))))

end Go.Proofs.YtmhkmliebhbkdaaGreat
